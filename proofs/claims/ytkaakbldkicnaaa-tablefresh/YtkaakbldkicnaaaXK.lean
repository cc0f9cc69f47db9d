/- Keys' list lies in a block of its own, which it fills. -/
import Derived.Test.YtkaakbldkicnaaaXS2
import Derived.ArgAppend
namespace Go.Proofs.Ytkaakbldkicnaaa.Sx
open Go Go.RowKit Go.Maps

theorem made_rep (n : Nat) : madeCells #[Value.string ⟨#[]⟩] n = ((List.replicate n (⟨#[]⟩ : ByteArray)).map sv).toArray := by
  apply Array.ext
  · simp [size_madeCells]
  · intro i h1 h2
    simp [madeCells, Nat.mod_one]
theorem mk0 (n : Nat) (hn : n ≤ 4096) (W : World) : ∃ W2, (Instr.makeSlice 22 (.int .i64 0) (.int .i64 (n : Nat))).run Try.prog W = .ok (.slice (some ⟨W.heap.size, 0, none⟩) 0 n) W2 ∧ Has W2 W.heap.size ((List.replicate n (⟨#[]⟩ : ByteArray)).map sv) 9 ∧ W.grownBy W2 none := by
  obtain ⟨i, h1, h2, h3, h4⟩ := info9
  have := run_make (P := Try.prog) W 22 9 i (.string ⟨#[]⟩) under22 h1 h4 .i64 .i64 0 n (by omega) (by omega) (by rw [h3]; omega) (by omega)
  rw [h2, Nat.mul_one, Int.toNat_natCast] at this
  simp only [Value.cells] at this
  rw [made_rep] at this
  exact ⟨_, this, Has.new _ _ _, World.grownBy_alloc _ _ _⟩
/-- the first k are laid -/
abbrev part (L : List ByteArray) (n : Nat) : List Value := (L ++ List.replicate (n - L.length) (⟨#[]⟩ : ByteArray)).map sv
theorem room1 (w : World) (g n : Nat) (L : List ByteArray) (x : ByteArray) (hh : Has w g (part L n) 9) (hl : L.length < n) :
    ∃ w', (Builtin.append_ #[22, 22] 22 #[.slice (some ⟨g, 0, none⟩) L.length n, .slice (some ⟨w.heap.size, 0, none⟩) 1 1]).run Try.prog (w.alloc (.cells #[.string x] 9)) = .ok (.slice (some ⟨g, 0, none⟩) (L.length + 1) n) w' ∧ Has w' g (part (L ++ [x]) n) 9 ∧ w.grownBy w' (some g) := by
  obtain ⟨i, h1, h2, h3, h4⟩ := info9
  have hlt := hh.lt
  have hh2 := hh.alloc (.cells #[.string x] 9)
  have hlen : (part L n).length = n := by simp; omega
  have hr := run_append_room_cells (P := Try.prog) (w.alloc (.cells #[.string x] 9)) 22 22 9 i under22 h1 g 0 L.length n ⟨w.heap.size, 0, none⟩ 1 1 [.string x] (by rw [h2]; rfl) (fun j u hu => by
      rw [Addr.add_mid, Nat.zero_add]
      refine (Has.newA w #[.string x] 9).cellv j _ ?_
      match j, hu with
      | 0, hu => exact hu
      | j + 1, hu => simp at hu) (fun u hu => by simp at hu; subst hu; rfl) (by omega) (fun j hj => by
      simp at hj
      subst hj
      rw [h2, Nat.mul_one, hh2.cell, Nat.zero_add, Nat.add_zero, List.getElem?_eq_getElem (by omega)]; rfl) (fun j _ => hh2.frozen _)
  rw [h2, Nat.mul_one, Nat.zero_add] at hr
  refine ⟨_, hr, ?_, (World.grownBy_alloc w _ (some g)).trans (gr_sets g [.string x] _ _)⟩
  have := hh2.setCells [.string x] L.length
  have e : over (part L n) L.length [.string x] = part (L ++ [x]) n := by
    show (part L n).set L.length (.string x) = _
    unfold part
    rw [show (Value.string x) = sv x from rfl, ← List.map_set, List.set_append_right _ _ (Nat.le_refl _), Nat.sub_self, show n - L.length = (n - (L ++ [x]).length) + 1 by simp; omega, List.replicate_succ, List.set_cons_zero]
    simp
  rw [e] at this
  exact this
set_option maxHeartbeats 2000000 in
theorem keysR_c (w : World) (tb mb sz : Nat) (E : List Ent) (h : TabAt w tb mb sz E) :
    Calls Try.prog 16 #[pt tb] w fun r w' => ∃ g, r = .returned (.slice (some ⟨g, 0, none⟩) E.length E.length) ∧ Has w' g ((E.map Ent.k).map sv) 9 ∧ w.heap.size ≤ g ∧ w.grownBy w' none := by
  have hle := h.le
  have hhi := h.hi
  obtain ⟨_, t1, _, _, _, _, _⟩ := Has.c4 (v0 := iv sz) (v1 := .map (some mb)) h.hdr
  have hlen := h.map.len
  rw [show (km E).length = E.length by simp [km]] at hlen
  obtain ⟨w1, m1, m2, m3⟩ := mk0 E.length (by omega) w
  have u2 : w1.cell? ⟨tb, 2, none⟩ = some (hd np E) := (Has.c4 (v0 := iv sz) (v1 := .map (some mb)) (h.kept m3).hdr).2.2.1
  have H1 : Keep (Has w1 w.heap.size (part [] E.length) 9 ∧ w.grownBy w1 none ∧ TabAt w tb mb sz E) := ⟨by simpa [part] using m2, m3, h⟩
  have HE : Keep (E.length ≤ 4096) := ⟨by omega⟩
  clear h m2 m3 hle hhi
  generalize hw : w.heap.size = base at *
  generalize hn : E.length = n at *
  have HN : Keep (E.length = n) := ⟨hn⟩
  clear hn
  go_enter Try.func16, Try.ntmps16
  go_wp2_with fail
  clear m1 hlen t1 u2
  go_loopw [3, 4] (fun u v wr => ∃ A C m, E = A ++ C ∧ v = hd np C ∧ A.length = m ∧ u = .slice (some ⟨base, 0, none⟩) m n ∧ Keep (Has wr base (part (A.map Ent.k) n) 9 ∧ w.grownBy wr none)) (fun u _ _ => n - slen u)
  case atStart => exact ⟨[], E, 0, rfl, rfl, rfl, rfl, H1.out.1, H1.out.2.1⟩
  case round =>
    obtain ⟨A, C, m, hE, hv, hm, rfl, hR⟩ := hrel
    cases C with
    | nil =>
      rw [List.append_nil] at hE
      have hmn : m = n := by rw [← hm, ← HN.out, hE]
      subst hmn
      have HR : Keep (Has wr base ((E.map Ent.k).map sv) 9 ∧ base ≤ base ∧ w.grownBy wr none) := by
        refine ⟨?_, Nat.le_refl _, hR.out.2⟩
        have := hR.out.1
        unfold part at this
        rw [List.length_map, hm, Nat.sub_self, List.replicate_zero, List.append_nil, ← hE] at this
        exact this
      clear hR hE hm
      change u4 = np at hv
      subst hv
      go_wp2_with fail
      go_ret
      exact ⟨base, rfl, HR.out⟩
    | cons e C =>
      have hT := H1.out.2.2
      rw [hE] at hT
      have hB : e.b < base := by rw [← hw]; exact hT.lt e.b (.inr (.inr (by simp)))
      have hk : e.k.size ≤ 281474976710656 := hT.small e.k (by simp)
      have hAn : m < n := by rw [← hm, ← HN.out, hE]; simp
      have c0 : wr.cell? ⟨e.b, 0, none⟩ = some (.string e.k) := (Has.c4 (v0 := .string e.k) (v1 := sv e.x) (hT.kept hR.out.2).entry).1
      have HC : Keep (E = A ++ e :: C ∧ e.b < base ∧ m < n ∧ A.length = m) := ⟨hE, hB, hAn, hm⟩
      clear hT hB hE hAn hm
      change u4 = pt e.b at hv
      subst hv
      generalize hq : e.b = eb at *
      generalize hz : e.k = ek at *
      go_wp2_with fail
      refine (clone_c ek _ hk).mono ?_
      rintro r w2 ⟨rfl, g2⟩
      obtain ⟨hE, hB, hAn, hm⟩ := HC.out
      obtain ⟨w3, a1, a2, a3⟩ := room1 w2 base n (A.map Ent.k) ek (hR.out.1.kept g2 (by simp)) (by rw [List.length_map]; omega)
      rw [List.length_map, hm] at a1
      have gw : w.grownBy w3 none := gr_new (hR.out.2.trans g2) a3 (by omega)
      have hT := H1.out.2.2
      rw [hE] at hT
      have c3 : w3.cell? ⟨eb, 3, none⟩ = some (hd np C) := by
        rw [← hq]
        exact (Has.c4 (v0 := .string e.k) (v1 := sv e.x) (hT.kept gw).entry).2.2.2.1
      have HR : Keep (∃ A' C' m', E = A' ++ C' ∧ hd np C = hd np C' ∧ A'.length = m' ∧ Value.slice (some ⟨base, 0, none⟩) (m + 1) n = .slice (some ⟨base, 0, none⟩) m' n ∧ Keep (Has w3 base (part (A'.map Ent.k) n) 9 ∧ w.grownBy w3 none)) := by
        refine ⟨⟨A ++ [e], C, m + 1, by rw [hE]; simp, rfl, by simp [hm], rfl, ⟨?_, gw⟩⟩⟩
        rw [List.map_append]
        simp only [List.map_cons, List.map_nil, hz]
        exact a2
      have HD : Keep (n - (m + 1) < n - m) := ⟨by omega⟩
      have A1 : Keep _ := ⟨a1⟩
      clear a1 a2 a3 gw hT hE hB hAn hm hR g2
      go_wp2_with ((first | (at_builtin; refine wpList_append_run _ rfl (.tmp 22) (.tmp 28) 22 rfl _ _ rfl rfl A1.out ?_)))
      exact ⟨HR.out, HD.out⟩
theorem keysR_s {w0 W : World} {l : List As} {tb sz : Nat} {L : KV} (h : Sep w0 W l) (hm : tabA tb sz L ∈ l) :
    Calls Try.prog 16 #[pt tb] W fun r W' => ∃ g, r = .returned (.slice (some ⟨g, 0, none⟩) L.length L.length) ∧ Sep w0 W' (boxA g ((Tb.keys L).map sv) 9 :: l) := by
  obtain ⟨F, mb, E, h1, rfl, _⟩ := h.get hm
  refine (keysR_c W tb mb sz E h1).mono ?_
  rintro r W' ⟨g, rfl, q1, q2, q3⟩
  refine ⟨g, by simp [kv], h.new q3 (Loc.one (a := boxA g _ 9) (fun i => i = g) ⟨by rw [kv_keys]; exact q1, rfl⟩ (fun i hi => .inr (by rw [hi]; exact q2)))⟩
end Go.Proofs.Ytkaakbldkicnaaa.Sx
