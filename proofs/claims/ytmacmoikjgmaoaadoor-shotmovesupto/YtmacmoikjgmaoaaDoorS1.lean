/- Sin, Cos -/
import Derived.Test.YtmacmoikjgmaoaaDoorF1
namespace Go.Proofs.YtmacmoikjgmaoaaDoor
open Go Go.RowKit

def sn : List Int := [0, 1608, 3216, 4821, 6424, 8022, 9616, 11204, 12785, 14359, 15924, 17479, 19024, 20557, 22078, 23586, 25080, 26558, 28020, 29466, 30893, 32303, 33692, 35062, 36410, 37736, 39040, 40320, 41576, 42806, 44011, 45190, 46341, 47464, 48559, 49624, 50660, 51665, 52639, 53581, 54491, 55368, 56212, 57022, 57798, 58538, 59244, 59914, 60547, 61145, 61705, 62228, 62714, 63162, 63572, 63944, 64277, 64571, 64827, 65043, 65220, 65358, 65457, 65516, 65536]
def sN (n : Nat) : Int := sn.getD n 0
def Kc (w : World) : Prop := ∀ j, j < 65 → w.cell? ⟨0, j, none⟩ = some (.int .i32 (sN j))
def rz (h : Int) : Int := sN (if 64 < h then 128 - h else h).toNat
def sinZ (h : Int) : Int := if 128 ≤ h % 256 then -rz (h % 256 - 128) else rz (h % 256)
set_option maxRecDepth 100000 in
theorem sN_range : ∀ n : Fin 65, 0 ≤ sN n.val ∧ sN n.val ≤ 65536 := by decide

set_option maxRecDepth 100000 in
theorem Kc.kept {w w' : World} (h : Kc w) (hg : w.grownBy w' none) : Kc w' := by
  intro j hj
  have h1 := h j hj
  have hlt : 0 < w.heap.size := by
    apply Classical.byContradiction
    intro hn
    simp [World.cell?, show w.heap[0]? = none from Array.getElem?_eq_none (by omega)] at h1
  have hb := hg.block 0 hlt (by simp)
  rw [← h1]
  simp only [World.cell?, hb]

set_option maxRecDepth 100000 in
set_option maxHeartbeats 1000000 in
theorem rising_c (h : Int) (h0 : 0 ≤ h) (h1 : h < 128) (w : World) (hk : Kc w) :
    Calls Tryd.prog 57 #[.int .i64 h] w fun e w' => e = .returned (.int .i64 (rz h)) ∧ w' = w := by
  unfold rz
  by_cases c : 64 < h
  · rw [if_pos c]
    have k1 := hk (128 - h).toNat (by omega)
    have hr := sN_range ⟨(128 - h).toNat, by omega⟩
    simp only at hr
    generalize sN (128 - h).toNat = v at *
    clear hk
    go_enter Tryd.func57, Tryd.ntmps57
    go_wp2_with fail
    go_ret
    exact ⟨rfl, rfl⟩
  · rw [if_neg c]
    have k1 := hk h.toNat (by omega)
    have hr := sN_range ⟨h.toNat, by omega⟩
    simp only at hr
    generalize sN h.toNat = v at *
    clear hk
    go_enter Tryd.func57, Tryd.ntmps57
    go_wp2_with fail
    go_ret
    exact ⟨rfl, rfl⟩

set_option maxRecDepth 100000 in
theorem rz_range (h : Int) (h0 : 0 ≤ h) (h1 : h < 128) : 0 ≤ rz h ∧ rz h ≤ 65536 := by
  unfold rz
  split
  · have := sN_range ⟨(128 - h).toNat, by omega⟩; exact this
  · have := sN_range ⟨h.toNat, by omega⟩; exact this

set_option maxRecDepth 100000 in
theorem and255 (n : Int) : bits .and .i64 n 255 = n % 256 := by
  have h255 : (BitVec.ofInt 64 255).toNat = 2 ^ 8 - 1 := by decide
  have key : (BitVec.ofInt 64 n &&& BitVec.ofInt 64 255).toNat = (n % ((2 ^ 64 : Nat) : Int)).toNat % 2 ^ 8 := by
    rw [BitVec.toNat_and, BitVec.toNat_ofInt, h255, Nat.and_two_pow_sub_one_eq_mod]
  show IntKind.i64.wrap ((BitVec.ofInt 64 n &&& BitVec.ofInt 64 255).toNat : Nat) = n % 256
  rw [key, IntKind.wrap_i64]
  omega

set_option maxRecDepth 100000 in
set_option maxHeartbeats 1000000 in
theorem sin_c (h : Int) (w : World) (hk : Kc w) :
    Calls Tryd.prog 37 #[.int .i64 h] w fun e w' => e = .returned (.int .i64 (sinZ h)) ∧ w' = w := by
  have ha := and255 h
  unfold sinZ
  have hb : 0 ≤ h % 256 ∧ h % 256 < 256 := by omega
  generalize h % 256 = k at *
  by_cases c : 128 ≤ k
  · rw [if_pos c]
    have c1 := rising_c (k - 128) (by omega) (by omega) w hk
    have hr := rz_range (k - 128) (by omega) (by omega)
    generalize rz (k - 128) = v at *
    clear hk
    go_enter Tryd.func37, Tryd.ntmps37
    go_wp2_with fail
    refine c1.mono ?_
    rintro e w' ⟨rfl, hw⟩; rw [hw]
    go_wp2_with fail
    go_ret
    exact ⟨rfl, rfl⟩
  · rw [if_neg c]
    have c1 := rising_c k (by omega) (by omega) w hk
    generalize rz k = v at *
    clear hk
    go_enter Tryd.func37, Tryd.ntmps37
    go_wp2_with fail
    refine c1.mono ?_
    rintro e w' ⟨rfl, hw⟩; rw [hw]
    go_wp2_with fail
    go_ret
    exact ⟨rfl, rfl⟩

set_option maxRecDepth 100000 in
theorem cos_c (h : Int) (w : World) (hk : Kc w) :
    Calls Tryd.prog 36 #[.int .i64 h] w fun e w' => e = .returned (.int .i64 (sinZ (h + 64))) ∧ w' = w := by
  have c1 := sin_c (wrap64 (h + 64)) w hk
  have e1 : sinZ (wrap64 (h + 64)) = sinZ (h + 64) := by
    have : wrap64 (h + 64) % 256 = (h + 64) % 256 := by unfold wrap64; omega
    unfold sinZ; rw [this]
  rw [e1] at c1
  generalize sinZ (h + 64) = v at *
  clear e1 hk
  go_enter Tryd.func36, Tryd.ntmps36
  go_wp2_with fail
  refine c1.mono ?_
  rintro e w' ⟨rfl, hw⟩; rw [hw]
  go_wp2_with fail
  go_ret
  exact ⟨rfl, rfl⟩

set_option maxRecDepth 100000 in
theorem gr_alloc (w : World) (o : Obj) (row : Option Nat) : w.grownBy (w.alloc o) row :=
  ⟨rfl, rfl, rfl, by show w.heap.size ≤ (w.heap.push o).size; rw [Array.size_push]; omega, fun i hi _ => by
    show (w.heap.push o)[i]? = _
    rw [Array.getElem?_push, if_neg (by omega)]⟩

def snV : Array Value := (sn.map fun v => Value.int .i64 v).toArray
set_option maxRecDepth 100000 in
theorem snV_at (j : Nat) (h : j < 65) : snV[j]? = some (.int .i64 (sN j)) := by
  have e : sn[j]? = some (sN j) := by
    have hl : j < sn.length := h
    unfold sN
    rw [List.getD_eq_getElem?_getD, List.getElem?_eq_getElem hl]
    rfl
  unfold snV
  rw [List.getElem?_toArray, List.getElem?_map, e]
  rfl

set_option maxRecDepth 100000 in
set_option maxHeartbeats 4000000 in
set_option maxRecDepth 100000 in
theorem rsines_c (w : World) :
    Calls Tryd.prog 66 #[] w fun e w' => e = .returned (.slice (some ⟨w.heap.size, 0, none⟩) 65 65) ∧ w' = w.alloc (.cells snV 2) := by
  go_enter Tryd.func66, Tryd.ntmps66
  go_wp2_with fail
  go_ret
  exact ⟨rfl, rfl⟩

set_option maxRecDepth 100000 in
theorem rsines_k (w : World) :
    Calls Tryd.prog 66 #[] w fun e w' => e = .returned (.slice (some ⟨w.heap.size, 0, none⟩) 65 65) ∧ w.grownBy w' none ∧ ∀ j, j < 65 → w'.cell? ⟨w.heap.size, j, none⟩ = some (.int .i64 (sN j)) :=
  (rsines_c w).mono fun e w' ⟨h, hw⟩ => by
    subst hw
    refine ⟨h, gr_alloc _ _ _, fun j hj => ?_⟩
    rw [← snV_at j hj]
    have hb : (w.alloc (.cells snV 2)).heap[w.heap.size]? = some (.cells snV 2) := by
      show (w.heap.push (.cells snV 2))[w.heap.size]? = _
      rw [Array.getElem?_push_size]
    simp only [World.cell?, hb]
    rfl

end Go.Proofs.YtmacmoikjgmaoaaDoor
