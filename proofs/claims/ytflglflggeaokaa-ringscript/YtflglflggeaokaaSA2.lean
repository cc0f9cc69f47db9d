/- ring: list, widen. -/
import Derived.Test.YtflglflggeaokaaSA1
namespace Go.Proofs.Ytflglflggeaokaa.Str
open Go Go.RowKit

/-- a row of ints that is being filled: k of them are laid -/
structure Fill (w0 w : World) (b : Nat) (L : List ByteArray) (n k : Nat) : Prop where
  h : Has w b ((L.take k ++ List.replicate (n - k) (⟨#[]⟩ : ByteArray)).map sv) 9
  g : w0.grownBy w none
theorem info3 : ∃ i, Try.prog.info? 9 = some i ∧ i.size = 1 ∧ i.bytes = 16 ∧ i.zero = some (.string ⟨#[]⟩) := by
  have h : (Try.prog.info? 9).map (fun i => (i.size, i.bytes, i.zero)) = some (1, 16, some (.string ⟨#[]⟩)) := by kernel_rfl
  cases hq : Try.prog.info? 9 with
  | none => simp [hq] at h
  | some i =>
    simp only [hq, Option.map_some, Option.some.injEq, Prod.mk.injEq] at h
    exact ⟨i, rfl, h.1, h.2.1, h.2.2⟩
theorem under22 : Try.prog.underlying 42 = some (.slice 9) := by kernel_rfl
theorem made_rep (n : Nat) : madeCells #[Value.string ⟨#[]⟩] n = ((List.replicate n (⟨#[]⟩ : ByteArray)).map sv).toArray := by
  apply Array.ext
  · simp [size_madeCells]
  · intro i h1 h2
    simp [madeCells, Nat.mod_one]
theorem mk22 (n : Nat) (hn : n ≤ 4096) (W : World) : ∃ W2, (Instr.makeSlice 42 (.int .i64 (n : Nat)) (.int .i64 (n : Nat))).run Try.prog W = .ok (.slice (some ⟨W.heap.size, 0, none⟩) n n) W2 ∧ Has W2 W.heap.size ((List.replicate n (⟨#[]⟩ : ByteArray)).map sv) 9 ∧ W.grownBy W2 none ∧ W2.heap.size = W.heap.size + 1 := by
  obtain ⟨i, h1, h2, h3, h4⟩ := info3
  have := run_make (P := Try.prog) W 42 9 i (.string ⟨#[]⟩) under22 h1 h4 .i64 .i64 n n (by omega) (by omega) (by rw [h3]; omega) (by omega)
  rw [h2, Nat.mul_one, Int.toNat_natCast] at this
  simp only [Value.cells] at this
  rw [made_rep] at this
  exact ⟨_, this, Has.new _ _ _, World.grownBy_alloc _ _ _, by simp⟩
theorem Fill.start {w w2 : World} {L : List ByteArray} {n : Nat} (h : Has w2 w.heap.size ((List.replicate n (⟨#[]⟩ : ByteArray)).map sv) 9) (g : w.grownBy w2 none) : Fill w w2 w.heap.size L n 0 := ⟨by simpa using h, g⟩
theorem Fill.drewN {w w2 : World} {b : Nat} {L : List ByteArray} {n k : Nat} (h : Fill w w2 b L n k) (q : Nat) : Fill w (w2.drewN q) b L n k := ⟨h.h.drewN q, h.g.trans (gr_drewN _ _ _)⟩
theorem Fill.step {w w2 : World} {L : List ByteArray} {n k : Nat} {x : ByteArray} (h : Fill w w2 w.heap.size L n k) (hx : L[k]? = some x) (hk : k < n) : Fill w (w2.setCell ⟨w.heap.size, k, none⟩ (.string x)) w.heap.size L n (k + 1) := by
  refine ⟨?_, gr_new h.g (gr_set _ _ _ _) (Nat.le_refl _)⟩
  have := h.h.setCell k (.string x)
  obtain ⟨hl, e⟩ := List.getElem?_eq_some_iff.1 hx
  rw [show (Value.string x) = sv x from rfl, ← List.map_set, List.set_append_right _ _ (by rw [List.length_take]; omega), List.length_take, Nat.min_eq_left (by omega), Nat.sub_self, show n - k = (n - (k + 1)) + 1 by omega, List.replicate_succ, List.set_cons_zero] at this
  rw [List.take_succ_eq_append_getElem hl, e, List.append_assoc]
  exact this
theorem Fill.there {w w2 : World} {b : Nat} {L : List ByteArray} {n k : Nat} (h : Fill w w2 b L n k) (hL : L.length = n) (hk : k < n) : w2.cell? ⟨b, k, none⟩ ≠ none ∧ w2.frozen? ⟨b, k, none⟩ = false := by
  refine ⟨?_, h.h.frozen _⟩
  rw [h.h.cell, List.getElem?_map]
  have : k < (L.take k ++ List.replicate (n - k) (⟨#[]⟩ : ByteArray)).length := by rw [List.length_append, List.length_take, List.length_replicate]; omega
  simp [List.getElem?_eq_getElem this]
theorem Fill.all {w w2 : World} {b : Nat} {L : List ByteArray} {n : Nat} (h : Fill w w2 b L n n) (hL : L.length = n) : Has w2 b (L.map sv) 9 := by
  have := h.h
  rwa [List.take_of_length_le (by omega), Nat.sub_self, List.replicate_zero, List.append_nil] at this
theorem list_c (rb : Nat) (v : Value) (sz : Nat) (L : List ByteArray) (w : World) (h : RingAt w rb v sz L) :
    Calls Try.prog 39 #[.pointer (some ⟨rb, 0, none⟩)] w fun e w' => e = .returned (.slice (some ⟨w.heap.size, 0, none⟩) L.length L.length) ∧ Has w' w.heap.size (L.map sv) 9 ∧ w.grownBy w' none ∧ w'.heap.size = w.heap.size + 1 := by
  have H := h
  have h4 := h.hi
  obtain ⟨f, P, hh, _, h5, h6, _⟩ := h.st
  have h3 : w.cell? ⟨rb, 3, none⟩ = some (.int .i64 (L.length : Nat)) := hh.cellv 3 _ rfl
  have HR : Keep (RingAt w rb v sz L) := ⟨H⟩
  have hn4 : L.length ≤ 4096 := by omega
  clear hh h H
  obtain ⟨n, hn⟩ : ∃ n, L.length = n := ⟨_, rfl⟩
  rw [hn] at h3 hn4 ⊢
  have HN : Keep (L.length = n) := ⟨hn⟩
  clear hn h5 h6 h4
  obtain ⟨w2, hm, hz, hg, hs⟩ := mk22 n (by omega) w
  have H0 : Keep (Fill w w2 w.heap.size L n 0 ∧ w2.heap.size = w.heap.size + 1) := ⟨Fill.start hz hg, hs⟩
  clear hz hg hs
  go_enter Try.func39, Try.ntmps39
  go_wp2_with fail
  go_loopw [12] (fun v wr => ∃ i : Int, 0 ≤ i ∧ i ≤ n ∧ v = .int .i64 i ∧ Keep (Fill w wr w.heap.size L n i.toNat ∧ wr.heap.size = w.heap.size + 1)) (fun v _ => (n - (intOf v)).toNat)
  case atStart => exact ⟨0, by omega, by omega, rfl, H0⟩
  case round =>
    obtain ⟨i, hi0, hin, rfl, hF⟩ := hrel
    by_cases hlt : i < n
    · obtain ⟨x, hx⟩ : ∃ x, L[i.toNat]? = some x := ⟨_, List.getElem?_eq_getElem (by rw [HN.out]; omega)⟩
      have HX : Keep (L[i.toNat]? = some x) := ⟨hx⟩
      have hw : IntKind.i64.wrap (i + 1) = i + 1 := wi _ (by omega) (by omega)
      have hc := at_yes rb v sz L i.toNat x wr (HR.out.kept hF.out.1.g) hx
      rw [Int.toNat_of_nonneg hi0] at hc
      clear hx
      go_wp2_with fail
      refine hc.mono ?_
      rintro e w3 ⟨rfl, q, rfl⟩
      obtain ⟨hc3, hf3⟩ := (hF.out.1.drewN q).there HN.out (show i.toNat < n by omega)
      go_wp2_with fail
      refine ⟨⟨i + 1, by omega, by omega, rfl, ?_, by simp [World.setCell, hF.out.2]⟩, by simp only [intOf]; omega⟩
      rw [show (i + 1).toNat = i.toNat + 1 by omega]
      exact (hF.out.1.drewN q).step HX.out (by omega)
    · have hi : i = n := by omega
      subst hi
      have hF2 := hF
      rw [Int.toNat_natCast] at hF2
      go_wp2_with fail
      go_ret
      exact ⟨rfl, hF2.out.1.all HN.out, hF2.out.1.g, hF2.out.2⟩

theorem widen_c (rb : Nat) (v : Value) (sz : Nat) (L : List ByteArray) (m f : Nat) (a : Option Addr) (w : World) (h : RingAt w rb v sz L) (hh : Has w rb (rcs sz v f L.length) 68) (hv : v = .slice a m m) (hm : L.length = m) (hsz : m < sz) :
    Calls Try.prog 28 #[.pointer (some ⟨rb, 0, none⟩)] w fun e w' => e = .returned (.tuple #[]) ∧ ∃ v' n, m < n ∧ n ≤ sz ∧ v' = .slice (some ⟨w.heap.size, 0, none⟩) n n ∧ Has w' rb (rcs sz v' 0 L.length) 68 ∧ Has w' w.heap.size ((L ++ List.replicate (n - m) (⟨#[]⟩ : ByteArray)).map sv) 9 ∧ w.grownBy w' (some rb) := by
  subst hv
  have hlt := hh.lt
  have h4 := h.hi
  have h0 : w.cell? ⟨rb, 0, none⟩ = some (.int .i64 sz) := hh.cellv 0 _ rfl
  have h1 : w.cell? ⟨rb, 1, none⟩ = some (.slice a m m) := hh.cellv 1 _ rfl
  obtain ⟨n, hn⟩ : ∃ n, n = Nat.min sz (Nat.max 1 (2 * m)) := ⟨_, rfl⟩
  have hn1 : m < n := by rw [hn]; simp only [Nat.min_def, Nat.max_def]; split <;> split <;> omega
  have hn2 : n ≤ sz := by rw [hn]; exact Nat.min_le_left _ _
  have hw : IntKind.i64.wrap (2 * (m : Int)) = 2 * m := wi _ (by omega) (by omega)
  obtain ⟨M, hM⟩ : ∃ M : Int, (if (1 : Int) < 2 * (m : Int) then 2 * (m : Int) else 1) = M := ⟨_, rfl⟩
  have he : (if M < (sz : Int) then M else (sz : Int)) = (n : Int) := by
    rw [← hM, hn]; simp only [Nat.min_def, Nat.max_def]; split <;> split <;> split <;> (try split) <;> omega
  obtain ⟨w2, hmk, hz, hg, hs⟩ := mk22 n (by omega) w.drew
  have hmk' : (Instr.makeSlice 42 (.int .i64 (n : Nat)) (.int .i64 (n : Nat))).run Try.prog w.drew = .ok (.slice (some ⟨w.heap.size, 0, none⟩) n n) w2 := hmk
  have hgw : w.grownBy w2 none := (gr_drew w _).trans hg
  have hzw : Has w2 w.heap.size ((List.replicate n (⟨#[]⟩ : ByteArray)).map sv) 9 := hz
  have HK : Keep (RingAt w2 rb (.slice a m m) sz L ∧ Has w2 w.heap.size ((List.replicate n (⟨#[]⟩ : ByteArray)).map sv) 9 ∧ Has w2 rb (rcs sz (.slice a m m) f L.length) 68 ∧ w.grownBy w2 none ∧ w2.heap.size = w.heap.size + 1 ∧ L.length = m) := ⟨h.kept hgw, hzw, hh.kept hgw (by simp), hgw, hs, hm⟩
  clear hmk hz hg hs hgw hzw h hh hm hn
  go_enter Try.func28, Try.ntmps28
  go_wp2_with fail
  go_region
  clear hmk' he hM h0 h1 hw
  go_wp2_with fail
  refine (list_c rb _ sz L w2 HK.out.1).mono ?_
  rintro e w3 ⟨rfl, h31, h32, h33⟩
  have HC : ∃ w4, (∀ ty, (Builtin.copy_ #[42, 42] ty #[.slice (some ⟨w.heap.size, 0, none⟩) n n, .slice (some ⟨w2.heap.size, 0, none⟩) L.length L.length]).run Try.prog w3 = .ok (.int .i64 L.length) w4) ∧ Has w4 w.heap.size ((L ++ List.replicate (n - m) (⟨#[]⟩ : ByteArray)).map sv) 9 ∧ Has w4 rb (rcs sz (.slice a m m) f L.length) 68 ∧ w.grownBy w4 none := by
    obtain ⟨_, k2, k3, k4, k5, k6⟩ := HK.out
    have k2' := k2.kept h32 (by simp)
    have hcl : goInt (L.map sv).length = .int .i64 L.length := by rw [List.length_map]; rfl
    rw [← hcl]
    refine ⟨_, fun ty => run_copy_cells w3 42 42 ty 9 w.heap.size 0 n n ⟨w2.heap.size, 0, none⟩ L.length L.length (L.map sv) under22 (by kernel_rfl) ?_ ?_ ?_ ?_ ?_, ?_, ?_, ?_⟩
    · rw [List.length_map]; exact (Nat.min_eq_left (by omega)).symm
    · intro j u hu
      rw [Addr.add_mid, Nat.zero_add, h31.cell]; exact hu
    · intro j hj
      rw [List.length_map] at hj
      exact (k2'.there 0 n (by simp) j (by omega)).1
    · intro j hj
      exact k2'.frozen _
    · intro u hu
      obtain ⟨x, _, rfl⟩ := List.mem_map.1 hu
      rfl
    · have := k2'.setCells (L.map sv) 0
      rw [over_eq _ _ _ (by simp; omega), List.take_zero, List.nil_append, ← List.map_drop, ← List.map_append, List.drop_replicate, List.length_map, Nat.zero_add, k6] at this
      exact this
    · exact (k3.kept h32 (by simp)).kept (gr_sets _ _ _ _) (by simp; omega)
    · exact gr_new (k4.trans h32) (gr_sets _ _ _ _) (Nat.le_refl _)
  clear h31 h32 h33 HK
  obtain ⟨w4, hcp, HC⟩ := HC
  have hcp3 := hcp 3
  have hc1 : w4.cell? ⟨rb, 1, none⟩ = some (.slice a m m) := HC.2.1.cellv 1 _ rfl
  have hc2 : w4.cell? ⟨rb, 2, none⟩ = some (.int .i64 f) := HC.2.1.cellv 2 _ rfl
  have hf1 : w4.frozen? ⟨rb, 1, none⟩ = false := HC.2.1.frozen _
  have hf2 : w4.frozen? ⟨rb, 2, none⟩ = false := HC.2.1.frozen _
  have HC2 : Keep (Has w4 w.heap.size ((L ++ List.replicate (n - m) (⟨#[]⟩ : ByteArray)).map sv) 9 ∧ Has w4 rb (rcs sz (.slice a m m) f L.length) 68 ∧ w.grownBy w4 none) := ⟨HC⟩
  clear HC hcp
  generalize hll : L.length = ll at *
  have HLL : Keep (L.length = ll) := ⟨hll⟩
  clear hll
  go_wp2_with fail
  refine bodyPost_end (results_none rfl _ _ _) rfl ?_
  obtain ⟨q1, q2, q3⟩ := HC2.out
  rw [HLL.out]
  refine ⟨rfl, _, n, hn1, hn2, rfl, (q2.setCell 1 _).setCell 2 _, ?_, ?_⟩
  · exact (q1.other _ _ (show rb ≠ w.heap.size by omega)).other _ _ (show rb ≠ w.heap.size by omega)
  · exact (((q3.but _).trans (gr_set _ _ _ _)).trans (gr_set _ _ _ _))
end Go.Proofs.Ytflglflggeaokaa.Str
