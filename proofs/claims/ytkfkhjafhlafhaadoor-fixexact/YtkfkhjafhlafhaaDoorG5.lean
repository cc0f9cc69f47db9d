/- the reference: Add -/
import Derived.Test.YtkfkhjafhlafhaaDoorG3
namespace Go.Proofs.YtkfkhjafhlafhaaDoor
open Go Go.RowKit

set_option maxHeartbeats 2000000 in
theorem radd_c (a b : Int) (ha : In a) (hb : In b) (w : World) :
    Calls Tryd.prog 25 #[.int .i64 a, .int .i64 b] w fun e w' => e = .returned (.int .i64 (addZ a b)) ∧ w' = w := by
  have hne := neq_b
  have c1 := rsize_c a ha w
  have c2 := rsize_c b hb w
  have A1 := abs64_in a ha
  have B1 := abs64_in b hb
  have c28 := rclamp_c (a + b) (-1099511627776) 1099511627776 w
  have HA : Keep (abs64 a = if a < 0 then -a else a) := ⟨rfl⟩
  have HB : Keep (abs64 b = if b < 0 then -b else b) := ⟨rfl⟩
  have HR : Keep (addZ a b = clampZ (a + b) (-1099511627776) 1099511627776) := ⟨rfl⟩
  obtain ⟨ha1, ha2⟩ := ha
  obtain ⟨hb1, hb2⟩ := hb
  generalize abs64 a = A at *
  generalize abs64 b = B at *
  by_cases ca : a < 0 <;> by_cases cb : b < 0
  · by_cases d1 : 1099511627776 < A
    · have c39 := rbounded_c true 1099511627776 (by omega) (by omega) w
      have HE : Keep (addZ a b = bdS true 1099511627776) := ⟨by
        have h1 := HA.out; have h2 := HB.out
        rw [if_pos ca] at h1; rw [if_pos cb] at h2
        unfold addZ bdS; rw [bd_eq]; simp only [if_true]; (repeat' split) <;> omega⟩
      rw [HE.out]
      generalize bdS true 1099511627776 = R at *
      clear HA HB HR HE
      go_enter Tryd.func25, Tryd.ntmps25
      go_wp2_with fail
      refine c1.mono ?_
      rintro e w' ⟨rfl, hw⟩; rw [hw]
      go_wp2_with fail
      refine c2.mono ?_
      rintro e w' ⟨rfl, hw⟩; rw [hw]
      go_wp2_with fail
      refine c39.mono ?_
      rintro e w' ⟨rfl, hw⟩; rw [hw]
      go_wp2_with fail
      go_ret
      exact ⟨rfl, rfl⟩
    · by_cases d2 : 1099511627776 < B
      · have c39 := rbounded_c true 1099511627776 (by omega) (by omega) w
        have HE : Keep (addZ a b = bdS true 1099511627776) := ⟨by
          have h1 := HA.out; have h2 := HB.out
          rw [if_pos ca] at h1; rw [if_pos cb] at h2
          unfold addZ bdS; rw [bd_eq]; simp only [if_true]; (repeat' split) <;> omega⟩
        rw [HE.out]
        generalize bdS true 1099511627776 = R at *
        clear HA HB HR HE
        go_enter Tryd.func25, Tryd.ntmps25
        go_wp2_with fail
        refine c1.mono ?_
        rintro e w' ⟨rfl, hw⟩; rw [hw]
        go_wp2_with fail
        refine c2.mono ?_
        rintro e w' ⟨rfl, hw⟩; rw [hw]
        go_wp2_with fail
        refine c39.mono ?_
        rintro e w' ⟨rfl, hw⟩; rw [hw]
        go_wp2_with fail
        go_ret
        exact ⟨rfl, rfl⟩
      · have c39 := rbounded_c true (A + B) (by omega) (by omega) w
        have HE : Keep (addZ a b = bdS true (A + B)) := ⟨by
          have h1 := HA.out; have h2 := HB.out
          rw [if_pos ca] at h1; rw [if_pos cb] at h2
          unfold addZ bdS; rw [bd_eq]; simp only [if_true]; (repeat' split) <;> omega⟩
        rw [HE.out]
        generalize bdS true (A + B) = R at *
        clear HA HB HR HE
        go_enter Tryd.func25, Tryd.ntmps25
        go_wp2_with fail
        refine c1.mono ?_
        rintro e w' ⟨rfl, hw⟩; rw [hw]
        go_wp2_with fail
        refine c2.mono ?_
        rintro e w' ⟨rfl, hw⟩; rw [hw]
        go_wp2_with fail
        refine c39.mono ?_
        rintro e w' ⟨rfl, hw⟩; rw [hw]
        go_wp2_with fail
        go_ret
        exact ⟨rfl, rfl⟩
  · rw [HR.out]
    generalize clampZ (a + b) (-1099511627776) 1099511627776 = R at *
    clear HA HB HR
    go_enter Tryd.func25, Tryd.ntmps25
    go_wp2_with fail
    refine c28.mono ?_
    rintro e w' ⟨rfl, hw⟩; rw [hw]
    go_wp2_with fail
    go_ret
    exact ⟨rfl, rfl⟩
  · rw [HR.out]
    generalize clampZ (a + b) (-1099511627776) 1099511627776 = R at *
    clear HA HB HR
    go_enter Tryd.func25, Tryd.ntmps25
    go_wp2_with fail
    refine c28.mono ?_
    rintro e w' ⟨rfl, hw⟩; rw [hw]
    go_wp2_with fail
    go_ret
    exact ⟨rfl, rfl⟩
  · by_cases d1 : 1099511627776 < A
    · have c39 := rbounded_c false 1099511627776 (by omega) (by omega) w
      have HE : Keep (addZ a b = bdS false 1099511627776) := ⟨by
        have h1 := HA.out; have h2 := HB.out
        rw [if_neg ca] at h1; rw [if_neg cb] at h2
        unfold addZ bdS; rw [bd_eq]; simp only [Bool.false_eq_true, if_false]; (repeat' split) <;> omega⟩
      rw [HE.out]
      generalize bdS false 1099511627776 = R at *
      rw [show false = decide (a < 0) from (decide_eq_false ca).symm] at c39
      clear HA HB HR HE
      go_enter Tryd.func25, Tryd.ntmps25
      go_wp2_with fail
      refine c1.mono ?_
      rintro e w' ⟨rfl, hw⟩; rw [hw]
      go_wp2_with fail
      refine c2.mono ?_
      rintro e w' ⟨rfl, hw⟩; rw [hw]
      go_wp2_with fail
      refine c39.mono ?_
      rintro e w' ⟨rfl, hw⟩; rw [hw]
      go_wp2_with fail
      go_ret
      exact ⟨rfl, rfl⟩
    · by_cases d2 : 1099511627776 < B
      · have c39 := rbounded_c false 1099511627776 (by omega) (by omega) w
        have HE : Keep (addZ a b = bdS false 1099511627776) := ⟨by
          have h1 := HA.out; have h2 := HB.out
          rw [if_neg ca] at h1; rw [if_neg cb] at h2
          unfold addZ bdS; rw [bd_eq]; simp only [Bool.false_eq_true, if_false]; (repeat' split) <;> omega⟩
        rw [HE.out]
        generalize bdS false 1099511627776 = R at *
        rw [show false = decide (a < 0) from (decide_eq_false ca).symm] at c39
        clear HA HB HR HE
        go_enter Tryd.func25, Tryd.ntmps25
        go_wp2_with fail
        refine c1.mono ?_
        rintro e w' ⟨rfl, hw⟩; rw [hw]
        go_wp2_with fail
        refine c2.mono ?_
        rintro e w' ⟨rfl, hw⟩; rw [hw]
        go_wp2_with fail
        refine c39.mono ?_
        rintro e w' ⟨rfl, hw⟩; rw [hw]
        go_wp2_with fail
        go_ret
        exact ⟨rfl, rfl⟩
      · have c39 := rbounded_c false (A + B) (by omega) (by omega) w
        have HE : Keep (addZ a b = bdS false (A + B)) := ⟨by
          have h1 := HA.out; have h2 := HB.out
          rw [if_neg ca] at h1; rw [if_neg cb] at h2
          unfold addZ bdS; rw [bd_eq]; simp only [Bool.false_eq_true, if_false]; (repeat' split) <;> omega⟩
        rw [HE.out]
        generalize bdS false (A + B) = R at *
        rw [show false = decide (a < 0) from (decide_eq_false ca).symm] at c39
        clear HA HB HR HE
        go_enter Tryd.func25, Tryd.ntmps25
        go_wp2_with fail
        refine c1.mono ?_
        rintro e w' ⟨rfl, hw⟩; rw [hw]
        go_wp2_with fail
        refine c2.mono ?_
        rintro e w' ⟨rfl, hw⟩; rw [hw]
        go_wp2_with fail
        refine c39.mono ?_
        rintro e w' ⟨rfl, hw⟩; rw [hw]
        go_wp2_with fail
        go_ret
        exact ⟨rfl, rfl⟩
end Go.Proofs.YtkfkhjafhlafhaaDoor
