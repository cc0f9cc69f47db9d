/- MacMemory's walk -/
import Derived.Test.YtabiomfgmdnikaaDoorD2
namespace Go.Proofs.YtabiomfgmdnikaaDoor
open Go Go.RowKit

theorem info9 : ∃ i, Tryd.prog.info? 9 = some i ∧ i.size = 1 ∧ i.bytes = 16 ∧ i.zero = some (.string ⟨#[]⟩) := by
  have h : (Tryd.prog.info? 9).map (fun i => (i.size, i.bytes, i.zero)) = some (1, 16, some (.string ⟨#[]⟩)) := by kernel_rfl
  cases hq : Tryd.prog.info? 9 with
  | none => simp [hq] at h
  | some i =>
    simp only [hq, Option.map_some, Option.some.injEq, Prod.mk.injEq] at h
    exact ⟨i, rfl, h.1, h.2.1, h.2.2⟩
theorem under29' : Tryd.prog.underlying 29 = some (.slice 9) := by kernel_rfl
/-- append of strings to a row of the call's own: its run -/
theorem appS (w : World) (base : Nat) (v : Value) (n : Nat) (xs : List Value) (a : Option Addr) (m c : Nat) (q : List ByteArray) (hown : w.ownsRow base 9 1 v n xs) (hq : Strs w a m q) (hnil : a = none → c = 0) (hsz : n + m ≤ 8796093022208) (hbase : base ≤ w.heap.size) :
    ∃ v' w', (Builtin.append_ #[29, 29] 29 #[v, .slice a m c]).run Tryd.prog w = .ok v' w' ∧ w'.ownsRow base 9 1 v' (n + m) (xs ++ q.map .string) ∧ w.grownBy w' v.ownBlock := by
  obtain ⟨i, h1, h2, h3, h4⟩ := info9
  cases a with
  | none =>
    have hc := hnil rfl
    have hm : m = 0 := by
      rcases Nat.eq_zero_or_pos m with h | h
      · exact h
      · obtain ⟨B, o, e, _⟩ := hq.at_ h
        cases e
    have hq0 : q = [] := List.length_eq_zero_iff.1 (by rw [hq.len]; exact hm)
    subst hc hm hq0
    exact ⟨v, w, run_append_owned_none (P := Tryd.prog) w base 29 29 9 i 1 under29' h1 v n xs hown, by simpa using hown, World.grownBy.refl _ _⟩
  | some ad =>
    obtain ⟨v', w', r1, r2, r3, _⟩ := run_append_own (P := Tryd.prog) w base 29 29 9 i (.string ⟨#[]⟩) 1 16 under29' h1 h4 h2 h3 rfl (by decide) v n xs hown ad m c (q.map .string) (by rw [List.length_map, hq.len, Nat.mul_one]) (fun j u hu => by
        rw [List.getElem?_map] at hu
        cases hx : q[j]? with
        | none => rw [hx] at hu; cases hu
        | some x =>
          rw [hx] at hu
          obtain rfl := Option.some.inj hu
          have hjl := (List.getElem?_eq_some_iff.1 hx).1
          obtain ⟨B, o, e, h⟩ := hq.at_ (by rw [← hq.len]; omega)
          obtain rfl := Option.some.inj e
          rw [Addr.add_mid]; exact h j x hx)
      (fun u hu => by obtain ⟨x, _, rfl⟩ := List.mem_map.1 hu; rfl) (by unfold maxLen; omega) (by omega) hbase
    exact ⟨v', w', r1, r2, r3⟩
theorem own_row {w : World} {base n : Nat} {v : Value} {xs : List ByteArray} (h : w.ownsRow base 9 1 v n (xs.map .string)) (hn : 0 < n) : ∃ g cap tl, v = .slice (some ⟨g, 0, none⟩) n cap ∧ base ≤ g ∧ n ≤ cap ∧ Has w g (xs.map .string ++ tl) 9 ∧ xs.length = n := by
  obtain ⟨hl, hc⟩ := h
  rcases hc with ⟨_, e⟩ | ⟨g, cap, cur, rfl, hb, hheap, h1, h2, h3, h4⟩
  · omega
  · refine ⟨g, cap, cur.toList.drop n, rfl, hb, h1, ?_, by rw [List.length_map, Nat.mul_one] at hl; exact hl⟩
    unfold Has
    rw [← h4, Nat.mul_one, List.take_append_drop]
    exact hheap
theorem has_strs {w : World} {g n : Nat} {xs : List ByteArray} {tl : List Value} (h : Has w g (xs.map .string ++ tl) 9) (hn : n ≤ xs.length) : Strs w (some ⟨g, 0, none⟩) n (xs.take n) :=
  ⟨by rw [List.length_take]; omega, fun _ => ⟨g, 0, rfl, fun j p hp => by
    rw [Nat.zero_add]
    refine h.cellv j _ ?_
    have hj := (List.getElem?_eq_some_iff.1 hp).1
    rw [List.length_take] at hj
    rw [List.getElem?_take, if_pos (by omega)] at hp
    rw [List.getElem?_append_left (by rw [List.length_map]; omega), List.getElem?_map, hp]
    rfl⟩⟩
def roomB : ByteArray := { data := #[114, 111, 111, 109] }
def bangB : ByteArray := { data := #[33] }
/-- the row while it is written over -/
def rowTo (ps : List ByteArray) (i : Nat) : List ByteArray := List.replicate i bangB ++ ps.drop i ++ [roomB, roomB]
theorem rowTo_len (ps : List ByteArray) (i : Nat) (hi : i ≤ ps.length) : (rowTo ps i).length = ps.length + 2 := by
  simp only [rowTo, List.length_append, List.length_replicate, List.length_drop, List.length_cons, List.length_nil]; omega
theorem rowTo_zero (ps : List ByteArray) : rowTo ps 0 = ps ++ [roomB, roomB] := rfl
theorem rowTo_at (ps : List ByteArray) (i : Nat) (p : ByteArray) (hp : ps[i]? = some p) : (rowTo ps i)[i]? = some p := by
  have hl := (List.getElem?_eq_some_iff.1 hp).1
  rw [rowTo, List.append_assoc, List.getElem?_append_right (by simp), List.length_replicate, Nat.sub_self, List.getElem?_append_left (by rw [List.length_drop]; omega), List.getElem?_drop, Nat.add_zero, hp]
theorem rowTo_step (ps : List ByteArray) (i : Nat) (hi : i < ps.length) : (rowTo ps i).set i bangB = rowTo ps (i + 1) := by
  rw [rowTo, List.append_assoc, List.set_append_right _ _ (by simp), List.length_replicate, Nat.sub_self, List.drop_eq_getElem_cons hi, List.cons_append, List.set_cons_zero, rowTo, List.append_assoc, List.replicate_succ', List.append_assoc]
  rfl
theorem rowTo_room (ps : List ByteArray) (n : Nat) (hn : ps.length = n) : (rowTo ps n)[n]? = some roomB ∧ (rowTo ps n)[n + 1]? = some roomB := by
  have e : rowTo ps n = List.replicate n bangB ++ [roomB, roomB] := by rw [rowTo, List.drop_of_length_le (by omega), List.append_nil]
  rw [e, List.getElem?_append_right (by simp), List.getElem?_append_right (by simp)]
  simp
structure MR (w w' : World) (g : Nat) (ps : List ByteArray) (i : Nat) : Prop where
  r : ∃ tl, Has w' g ((rowTo ps i).map .string ++ tl) 9
  g_ : w.grownBy w' none
theorem MR.grow {w w' w2 : World} {g : Nat} {ps : List ByteArray} {i : Nat} (h : MR w w' g ps i) (hg : w'.grownBy w2 none) : MR w w2 g ps i := by
  obtain ⟨tl, h1⟩ := h.r
  exact ⟨⟨tl, h1.kept hg (by simp)⟩, h.g_.trans hg⟩
theorem MR.at_ {w w' : World} {g : Nat} {ps : List ByteArray} {i : Nat} (h : MR w w' g ps i) (j : Nat) (p : ByteArray) (hp : (rowTo ps i)[j]? = some p) : w'.cell? ⟨g, j, none⟩ = some (.string p) ∧ w'.frozen? ⟨g, j, none⟩ = false := by
  obtain ⟨tl, h1⟩ := h.r
  have hj := (List.getElem?_eq_some_iff.1 hp).1
  exact ⟨h1.cellv j _ (by rw [List.getElem?_append_left (by rw [List.length_map]; exact hj), List.getElem?_map, hp]; rfl), h1.frozen j⟩
theorem MR.step {w w' : World} {g : Nat} {ps : List ByteArray} {i : Nat} (h : MR w w' g ps i) (hw : w.heap.size ≤ g) (hi : i < ps.length) : MR w (w'.setCell ⟨g, i, none⟩ (.string bangB)) g ps (i + 1) := by
  obtain ⟨tl, h1⟩ := h.r
  refine ⟨⟨tl, ?_⟩, gr_new h.g_ (gr_set _ _ _ _) hw⟩
  have h2 := h1.setCell i (.string bangB)
  rw [List.set_append_left _ _ (by rw [List.length_map, rowTo_len ps i (by omega)]; omega), ← List.map_set, rowTo_step ps i hi] at h2
  exact h2
theorem said_row (ps : List ByteArray) (n : Nat) (hn : ps.length = n) (hn1 : n ≤ 8796093022206) : (saidB useB (rowTo ps n)).size ≤ 1125899906842624 := by
  rw [saidB_size]
  have e : rowTo ps n = List.replicate n bangB ++ [roomB, roomB] := by rw [rowTo, List.drop_of_length_le (by omega), List.append_nil]
  have hb : sl bangB = [33] := rfl
  have hf : ∀ k, (Mac.flat ((List.replicate k bangB ++ [roomB, roomB]).map sl)).length = 9 * k + 24 := by
    intro k
    induction k with
    | zero => rfl
    | succ k ih =>
      rw [List.replicate_succ]
      simp only [List.cons_append, List.map_cons, Mac.flat, List.flatMap_cons, List.length_append, Mac.len8_len, hb, List.length_cons, List.length_nil] at ih ⊢
      omega
  rw [e]
  have hu : (sl useB).length = 3 := rfl
  simp only [Mac.said, List.length_append, List.length_cons]
  rw [hf]
  omega

set_option maxRecDepth 100000 in
set_option maxHeartbeats 8000000 in
theorem mmem_any (sec : ByteArray) (a : Option Addr) (n c : Nat) (ps : List ByteArray) (w : World) (hkc : Kc w) (hp : Strs w a n ps) (hnil : a = none → c = 0) (h0 : sec.size ≤ 2305843009213693952) (hn1 : n ≤ 8796093022206) (hps : ∀ (j : Nat) (p : ByteArray), ps[j]? = some p → p.size ≤ 9223372036854775807) :
    Calls Tryd.prog 6 #[.string sec, .slice a n c] w fun e w' => e = .returned (.bool true) ∧ w.grownBy w' none := by
  have HC : Keep (Kc w) := ⟨hkc⟩
  have HP : Keep (Strs w a n ps ∧ (a = none → c = 0)) := ⟨hp, hnil⟩
  have hl := hp.len
  have HPS : Keep (∀ (j : Nat) (p : ByteArray), ps[j]? = some p → p.size ≤ 9223372036854775807) := ⟨hps⟩
  have hus : useB.size ≤ 2305843009213693952 := by decide
  clear hps
  clear hp hkc hnil
  go_enter Tryd.func6, Tryd.ntmps6
  go_wp2_with fail
  refine (malive_any _ HC.out).mono ?_
  rintro e w1 ⟨rfl, g1⟩
  have H1 : Keep (w.grownBy w1 none) := ⟨g1⟩
  obtain ⟨v1, w2, hap, o1, o2⟩ := appS w1 w1.heap.size (.slice none 0 0) 0 [] a n c ps (World.ownsRow_nil _ _ _ _) (HP.out.1.kept g1) HP.out.2 (by omega) (Nat.le_refl _)
  rw [List.nil_append, Nat.zero_add] at o1
  have HAP : Keep ((Builtin.append_ #[29, 29] 29 #[.slice none 0 0, .slice a n c]).run Tryd.prog w1 = .ok v1 w2) := ⟨hap⟩
  have g2 : w1.grownBy w2 none := o2
  have o1' := o1.kept (World.grownBy_alloc w2 (.cells #[.string roomB, .string roomB] 9) none) (by cases v1.ownBlock <;> simp)
  have hrr : Strs (w2.alloc (.cells #[.string roomB, .string roomB] 9)) (some ⟨w2.heap.size, 0, none⟩) 2 [roomB, roomB] := ⟨rfl, fun _ => ⟨_, 0, rfl, fun j p hp => by
    rw [Nat.zero_add]
    refine (Has.newA w2 #[.string roomB, .string roomB] 9).cellv j _ ?_
    match j, hp with
    | 0, hp => obtain rfl : roomB = p := by simpa using hp
               rfl
    | 1, hp => obtain rfl : roomB = p := by simpa using hp
               rfl
    | j + 2, hp => simp at hp⟩⟩
  obtain ⟨v2, w3, hbp, o3, o4⟩ := appS _ w1.heap.size v1 n _ (some ⟨w2.heap.size, 0, none⟩) 2 2 [roomB, roomB] o1' hrr (fun h => by cases h) (by omega) (by rw [heap1]; have := g2.size; omega)
  have HBP : Keep ((Builtin.append_ #[29, 29] 29 #[v1, .slice (some ⟨w2.heap.size, 0, none⟩) 2 2]).run Tryd.prog (w2.alloc (.cells #[.string roomB, .string roomB] 9)) = .ok v2 w3) := ⟨hbp⟩
  rw [← List.map_append, ← rowTo_zero ps] at o3
  obtain ⟨g, cap, tl, rfl, hbg, hcap, hrow, hrl⟩ := own_row o3 (by omega)
  have H3 : Keep (MR w w3 g ps 0 ∧ w.heap.size ≤ g) := ⟨⟨⟨tl, hrow⟩, gr_row (H1.out.trans (g2.trans (World.grownBy_alloc _ _ none))) o4 (fun j hj => by have := (o1.lt j hj).1; have := g1.size; omega)⟩, by have := g1.size; omega⟩
  clear g1 hap o1 o2 g2 o1' hrr hbp o3 o4 hbg hrow hrl
  unfold roomB at HBP
  go_wp2_with (first
    | (at_builtin; refine wpList_append_run _ rfl (.tmp 11) (.tmp 12) 29 rfl _ _ rfl rfl HAP.out ?_)
    | (at_builtin; refine wpList_append_run _ rfl (.tmp 14) (.tmp 15) 29 rfl _ _ rfl rfl HBP.out ?_))
  have hsA : Strs w3 (some ⟨g, 0, none⟩) n ps := by
    obtain ⟨tl, h1⟩ := H3.out.1.r
    have := has_strs (n := n) h1 (by rw [rowTo_len ps 0 (by omega)]; omega)
    rw [rowTo_zero, List.take_append_of_le_length (by omega), List.take_of_length_le (by omega)] at this
    exact this
  refine (derive_gen sec useB _ n cap ps _ (HC.out.kept H3.out.1.g_ (by simp)) hsA (by omega) hus (by omega) HPS.out).mono ?_
  rintro e w4 ⟨rfl, g4⟩
  have H4 : Keep (MR w w4 g ps 0) := ⟨H3.out.1.grow g4⟩
  have hgw := H3.out.2
  clear g4 hsA HAP HBP
  go_wp2_with fail
  go_loopw [7] (fun t w' => ∃ i : Nat, i ≤ n ∧ t = .int .i64 i ∧ Keep (MR w w' g ps i)) (fun t _ => n - (intOf t).toNat)
  case atStart => exact ⟨0, by omega, rfl, H4⟩
  case round =>
    obtain ⟨i, hi, rfl, hrel⟩ := hrel
    by_cases hli : i < n
    · obtain ⟨B, o, rfl, hat⟩ := HP.out.1.at_ (by omega)
      obtain ⟨p, hp⟩ : ∃ p, ps[i]? = some p := ⟨_, List.getElem?_eq_getElem (by omega)⟩
      have hc1 : wr.cell? ⟨B, o + i, none⟩ = some (.string p) := hrel.out.g_.cell (hat i p hp) (by simp)
      obtain ⟨hc2, hf2⟩ := hrel.out.at_ i p (rowTo_at ps i p hp)
      have hpp : (p.toList == p.toList) = true := by simp
      have H5 : Keep (MR w (wr.drew.setCell ⟨g, i, none⟩ (.string bangB)) g ps (i + 1)) := ⟨(hrel.out.grow (gr_drewN wr 1 none)).step hgw (by omega)⟩
      have hil2 : (i : Int) < (n : Int) + 2 := by omega
      unfold bangB at H5
      clear hrel hat hp
      go_wp2_with fail
      go_region
      go_wp2_with fail
      refine ⟨⟨i + 1, by omega, by go_num, H5⟩, ?_⟩
      simp [intOf]; omega
    · obtain rfl : i = n := by omega
      obtain ⟨hr1, hr2⟩ := rowTo_room ps i hl
      obtain ⟨hd1, _⟩ := hrel.out.at_ i _ hr1
      obtain ⟨hd2, _⟩ := hrel.out.at_ (i + 1) _ hr2
      have hrb : (roomB.toList == roomB.toList) = true := by simp
      have hsz := said_row ps i hl (by omega)
      have H6 : Keep (MR w wr g ps i) := hrel
      unfold roomB at hd1 hd2 hrb
      clear hrel hr1 hr2
      have HW : Keep (∀ W, wr.grownBy W none → Strs W (some ⟨g, 0, none⟩) (i + 2) (rowTo ps i)) := ⟨fun W gW => by
        obtain ⟨tl, h1⟩ := (H6.out.grow gW).r
        have h2 := has_strs (n := i + 2) h1 (by rw [rowTo_len ps i (by omega)]; omega)
        rw [List.take_of_length_le (by rw [rowTo_len ps i (by omega)]; omega)] at h2
        exact h2⟩
      have hD2 : (Mac.said (sl useB) ((rowTo ps i).map sl)).length ≤ 2305843009213693952 := by rw [← saidB_size]; omega
      have hb1 : ((deriveB sec useB ps).toList == (deriveB sec useB ps).toList) = true := by simp
      have hb2 : ((deriveB sec useB (rowTo ps i)).toList == (deriveB sec useB (rowTo ps i)).toList) = true := by simp
      go_wp2_with fail
      refine (derive_any sec useB _ (i + 2) cap (rowTo ps i) _ (HC.out.kept H6.out.g_ (by simp)) (HW.out _ (World.grownBy.refl _ _)) (by omega) hD2).mono ?_
      rintro e w7 ⟨rfl, g7⟩
      have H7 : Keep (wr.grownBy w7 none) := ⟨g7⟩
      clear g7
      go_wp2_with fail
      refine (derive_gen sec useB a i c ps _ (HC.out.kept (H6.out.g_.trans H7.out) (by simp)) (HP.out.1.kept (H6.out.g_.trans H7.out)) (by omega) hus (by omega) HPS.out).mono ?_
      rintro e w8 ⟨rfl, g8⟩
      have H8 : Keep (wr.grownBy w8 none) := ⟨H7.out.trans g8⟩
      clear g8
      go_wp2_with fail
      refine (lsaid_any useB _ (i + 2) cap (rowTo ps i) _ (HW.out _ H8.out) hsz).mono ?_
      rintro e w9 ⟨rfl, g9⟩
      have H9 : Keep (wr.grownBy w9 none) := ⟨H8.out.trans g9⟩
      clear g9
      go_wp2_with fail
      refine (tag_any sec (saidB useB (rowTo ps i)) _ (HC.out.kept (H6.out.g_.trans H9.out) (by simp)) (by omega) (by omega)).mono ?_
      rintro e w10 ⟨rfl, g10⟩
      have H10 : Keep (w.grownBy w10 none) := ⟨(H6.out.g_.trans H9.out).trans g10⟩
      rw [hmac_said]
      clear g10
      go_wp2_with fail
      go_ret
      exact ⟨rfl, H10.out⟩
end Go.Proofs.YtabiomfgmdnikaaDoor
