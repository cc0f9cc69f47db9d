/- TableScript: begin, whole. -/
import Derived.Test.YtkaakbldkicnaaaR7
namespace Go.Proofs.Ytkaakbldkicnaaa
open Go Go.RowKit Go.Maps

/-- the play's cells, one table first -/
def pcb (b : Bool) (t t' d d' : Nat) (tv wv : Value) : List Value := if b then [pt t', pt t, pt d', pt d, tv, wv, .bool false] else [pt t, pt t', pt d, pt d', tv, wv, .bool false]
/-- where the play stands -/
def stB (b : Bool) (pb t t' d d' s s' : Nat) (L L' : KV) (tv wv : Value) (n : Nat) (R : List As) : List As :=
  boxA pb (pcb b t t' d d' tv wv) 58 :: tabA t s L :: refA d s L :: tabA t' s' L' :: refA d' s' L' :: bookA tv wv n :: R
theorem Sep.side {w0 W : World} {b : Bool} {pb t t' d d' s s' : Nat} {L L' : KV} {tv wv : Value} {n : Nat} {R : List As} (h : Sep w0 W (stB b pb t t' d d' s s' L L' tv wv n R)) : Sep w0 W (stB (!b) pb t' t d' d s' s L' L tv wv n R) := by
  have e : pcb (!b) t' t d' d tv wv = pcb b t t' d d' tv wv := by cases b <;> rfl
  unfold stB at h ⊢
  rw [e]
  exact h.perm (List.Perm.cons _ ((List.perm_append_comm (l₁ := [tabA t s L, refA d s L]) (l₂ := [tabA t' s' L', refA d' s' L'])).append_right (bookA tv wv n :: R)))
def bn (b : Bool) : Nat := if b then 1 else 0
/-- what a walk reads of it -/
structure PlC (W : World) (pb a t d : Nat) (tv wv : Value) : Prop where
  t : W.cell? ⟨pb, a, none⟩ = some (pt t)
  d : W.cell? ⟨pb, 2 + a, none⟩ = some (pt d)
  tv : W.cell? ⟨pb, 4, none⟩ = some tv
  wv : W.cell? ⟨pb, 5, none⟩ = some wv
  f4 : W.frozen? ⟨pb, 4, none⟩ = false
  f5 : W.frozen? ⟨pb, 5, none⟩ = false
theorem Sep.plc {w0 W : World} {b : Bool} {pb t t' d d' : Nat} {tv wv : Value} {l : List As} (h : Sep w0 W l) (hm : boxA pb (pcb b t t' d d' tv wv) 58 ∈ l) : PlC W pb (bn b) t d tv wv := by
  have hb := h.boxGet hm
  cases b
  · exact ⟨hb.cellv 0 _ rfl, hb.cellv 2 _ rfl, hb.cellv 4 _ rfl, hb.cellv 5 _ rfl, hb.frozen 4, hb.frozen 5⟩
  · exact ⟨hb.cellv 1 _ rfl, hb.cellv 3 _ rfl, hb.cellv 4 _ rfl, hb.cellv 5 _ rfl, hb.frozen 4, hb.frozen 5⟩
theorem TabOk.four {sz : Nat} {L : KV} (h : TabOk sz L) : L.length ≤ 4096 := by have := h.le; have := h.hi; omega
set_option maxHeartbeats 4000000 in
theorem begin_yes {w0 W : World} {l : List As} (pb a sz : Nat) (cs : List Value) (h : Sep w0 W (boxA pb cs 58 :: l)) (hc : cs.length = 7) (ha : a < 2) (h1 : 1 ≤ sz) (h2 : sz ≤ 4096) :
    Calls Try.prog 30 #[pt pb, iv (a : Nat), iv (sz : Nat)] W fun r W' => r = .returned (.bool true) ∧ ∃ t d, Sep w0 W' (boxA pb ((cs.set a (pt t)).set (2 + a) (pt d)) 58 :: tabA t sz [] :: refA d sz [] :: l) := by
  have HS := Keep.mk h
  have ha0 : (0 : Int) ≤ (a : Int) := by omega
  have ha1 : (a : Int) < 2 := by omega
  have hat : ((a : Nat) : Int).toNat = a := by omega
  clear h
  go_enter Try.func30, Try.ntmps30
  go_wp2_with fail
  refine (new_s sz HS.out h1 h2).mono ?_
  rintro r w1 ⟨t, rfl, S1⟩
  have HS1 := Keep.mk S1
  clear HS S1
  go_wp2_with fail
  refine (rnew_yes sz HS1.out h1 h2).mono ?_
  rintro r w2 ⟨d, rfl, S2⟩
  have S2 := fr1 [_, _] S2
  change Sep w0 w2 (boxA pb cs 58 :: refA d sz [] :: tabA t sz [] :: l) at S2
  have hb := S2.boxGet k0m
  have f1 : w2.frozen? ⟨pb, a, none⟩ = false := hb.frozen a
  obtain ⟨u, hu⟩ : ∃ u, cs[a]? = some u := ⟨_, List.getElem?_eq_getElem (by omega)⟩
  have c1 : w2.cell? ⟨pb, a, none⟩ = some u := hb.cellv a u hu
  have S3 := S2.boxPut a (pt t)
  have hb3 := S3.boxGet k0m
  obtain ⟨W3, hW3⟩ : ∃ W3, w2.setCell ⟨pb, a, none⟩ (pt t) = W3 := ⟨_, rfl⟩
  rw [hW3] at S3 hb3
  have f2 : W3.frozen? ⟨pb, 2 + a, none⟩ = false := hb3.frozen (2 + a)
  obtain ⟨u2, hu2⟩ : ∃ u, (cs.set a (pt t))[2 + a]? = some u := ⟨_, List.getElem?_eq_getElem (by rw [List.length_set]; omega)⟩
  have c2 : W3.cell? ⟨pb, 2 + a, none⟩ = some u2 := hb3.cellv (2 + a) u2 hu2
  have S4 := S3.boxPut (2 + a) (pt d)
  have HS4 := Keep.mk S4
  clear HS1 S2 hb hu S3 hb3 hu2 S4 hc
  go_wp2_with fail
  refine (num_c 0 _).mono ?_
  rintro r w4 ⟨rfl, rfl⟩
  go_wp2_with fail
  refine (num_c 0 _).mono ?_
  rintro r w4 ⟨rfl, rfl⟩
  go_wp2_with fail
  go_ret
  exact ⟨rfl, t, d, HS4.out.perm (List.Perm.cons _ (List.Perm.swap _ _ _))⟩
set_option maxHeartbeats 4000000 in
theorem begin_no (W : World) (pb : Nat) (a sz : Int) (h : ¬ (1 ≤ sz ∧ sz ≤ 4096)) :
    Calls Try.prog 30 #[pt pb, iv a, iv sz] W fun r W' => r = .returned (.bool true) ∧ W' = W := by
  have hA := new_no sz W h
  have hB := rnew_no W sz (by omega)
  clear h
  go_enter Try.func30, Try.ntmps30
  go_wp2_with fail
  refine hA.mono ?_
  rintro r w1 ⟨rfl, hw⟩
  subst w1
  go_wp2_with fail
  refine hB.mono ?_
  rintro r w1 ⟨rfl, hw⟩
  subst w1
  go_wp2_with fail
  refine (num_c 110 _).mono ?_
  rintro r w4 ⟨rfl, rfl⟩
  go_wp2_with fail
  refine (num_c 110 _).mono ?_
  rintro r w4 ⟨rfl, rfl⟩
  go_wp2_with fail
  go_ret
  exact ⟨rfl, rfl⟩
end Go.Proofs.Ytkaakbldkicnaaa
