/- far; sums of a unit twice and three times -/
import Derived.Test.YtmacmoikjgmaoaaDoorH5
namespace Go.Proofs.YtmacmoikjgmaoaaDoor.Bo
open Go Go.RowKit

def fa (x y : Int) : Bool := !(decide (-1099511365632 ≤ x ∧ x ≤ 1099511365632 ∧ -1099511365632 ≤ y ∧ y ≤ 1099511365632))
set_option maxRecDepth 100000 in
set_option maxHeartbeats 4000000 in
theorem far_c (w : World) (x y : Int) : Calls Tryd.prog 17 #[vv x y] w fun e w' => e = .returned (.bool (fa x y)) ∧ w.grownBy w' none := by
  have hh := Has.newA w #[iv x, iv y] 24
  have y0 : (w.alloc (.cells #[iv x, iv y] 24)).cell? ⟨w.heap.size, 0, none⟩ = some (iv x) := hh.cellv 0 _ rfl
  have y1 : (w.alloc (.cells #[iv x, iv y] 24)).cell? ⟨w.heap.size, 1, none⟩ = some (iv y) := hh.cellv 1 _ rfl
  have hg : w.grownBy (w.alloc (.cells #[iv x, iv y] 24)) none := World.grownBy_alloc _ _ _
  obtain ⟨W1, hW1⟩ : ∃ W1, w.alloc (.cells #[iv x, iv y] 24) = W1 := ⟨_, rfl⟩
  rw [hW1] at y0 y1 hg
  have HG := Keep.mk hg
  clear hh hg
  by_cases a1 : 1099511365632 < x
  · have HE : Keep (fa x y = true) := ⟨by unfold fa; simp; omega⟩
    have d1 : decide (1099511365632 < x) = true := decide_eq_true a1
    clear a1
    go_enter Tryd.func17, Tryd.ntmps17
    go_wp2_with fail
    go_ret
    exact ⟨by rw [HE.out]; rfl, HG.out⟩
  have d1 : decide (1099511365632 < x) = false := decide_eq_false a1
  by_cases a2 : x < -1099511365632
  · have HE : Keep (fa x y = true) := ⟨by unfold fa; simp; omega⟩
    have d2 : decide (x < -1099511365632) = true := decide_eq_true a2
    clear a1 a2
    go_enter Tryd.func17, Tryd.ntmps17
    go_wp2_with fail
    go_ret
    exact ⟨by rw [HE.out]; rfl, HG.out⟩
  have d2 : decide (x < -1099511365632) = false := decide_eq_false a2
  by_cases a3 : 1099511365632 < y
  · have HE : Keep (fa x y = true) := ⟨by unfold fa; simp; omega⟩
    have d3 : decide (1099511365632 < y) = true := decide_eq_true a3
    clear a1 a2 a3
    go_enter Tryd.func17, Tryd.ntmps17
    go_wp2_with fail
    go_ret
    exact ⟨by rw [HE.out]; rfl, HG.out⟩
  have d3 : decide (1099511365632 < y) = false := decide_eq_false a3
  have HE : Keep (fa x y = decide (y < -1099511365632)) := ⟨by
    unfold fa
    by_cases q : y < -1099511365632
    · rw [decide_eq_true q]; simp; omega
    · rw [decide_eq_false q]; simp; omega⟩
  clear a1 a2 a3
  go_enter Tryd.func17, Tryd.ntmps17
  go_wp2_with fail
  go_ret
  exact ⟨by rw [HE.out]; rfl, HG.out⟩
theorem bd_same {x : Int} (h : -1099511627776 ≤ x ∧ x ≤ 1099511627776) : bd x = x := by
  unfold bd clampZ
  split <;> split <;> omega
theorem add2 {x u : Int} (h : -1099511365632 ≤ x ∧ x ≤ 1099511365632) (hu : -65536 ≤ u ∧ u ≤ 65536) : addZ (addZ x u) u = addZ x (2 * u) := by
  unfold addZ
  rw [bd_same (x := x + u) (by omega), bd_same (by omega), bd_same (by omega)]
  omega
theorem add3 {x u : Int} (h : -1099511365632 ≤ x ∧ x ≤ 1099511365632) (hu : -65536 ≤ u ∧ u ≤ 65536) : addZ (addZ (addZ x u) u) u = addZ x (3 * u) := by
  unfold addZ
  rw [bd_same (x := x + u) (by omega), bd_same (x := x + u + u) (by omega), bd_same (by omega), bd_same (by omega)]
  omega
theorem fa_false {x y : Int} (h : fa x y = false) : (-1099511365632 ≤ x ∧ x ≤ 1099511365632) ∧ (-1099511365632 ≤ y ∧ y ≤ 1099511365632) := by
  unfold fa at h
  simp at h
  omega
def zV2 : List Value := [iv 0, iv 0]
theorem zV2_lit : zV2 = [iv 0, iv 0] := rfl
theorem vec_one (x y : Int) : ∀ v ∈ [iv x, iv y], v.oneCell' = true := by
  intro v hv
  simp only [List.mem_cons, List.not_mem_nil, or_false] at hv
  rcases hv with rfl | rfl <;> rfl
end Go.Proofs.YtmacmoikjgmaoaaDoor.Bo
