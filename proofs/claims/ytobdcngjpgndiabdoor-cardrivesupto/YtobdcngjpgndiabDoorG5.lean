/- the reference: Clamp, Add, down -/
import Derived.Test.YtobdcngjpgndiabDoorG3
import Derived.Test.YtobdcngjpgndiabDoorV6
import Derived.Test.YtobdcngjpgndiabDoorC0
namespace Go.Proofs.YtobdcngjpgndiabDoor
open Go Go.RowKit

set_option maxRecDepth 100000 in
theorem rclamp_c (x lo hi : Int) (w : World) :
    Calls Tryd.prog 11 #[.int .i64 x, .int .i64 lo, .int .i64 hi] w fun e w' => e = .returned (.int .i64 (clampZ x lo hi)) ∧ w' = w := by
  go_enter Tryd.func11, Tryd.ntmps11
  unfold clampZ
  by_cases h : x < lo <;> simp only [h, if_true, if_false]
  · by_cases h2 : hi < lo
    · rw [if_pos h2]
      go_wp2
      go_ret
      exact ⟨rfl, rfl⟩
    · rw [if_neg h2]
      go_wp2
      go_ret
      exact ⟨rfl, rfl⟩
  · by_cases h2 : hi < x
    · rw [if_pos h2]
      go_wp2
      go_ret
      exact ⟨rfl, rfl⟩
    · rw [if_neg h2]
      go_wp2
      go_ret
      exact ⟨rfl, rfl⟩

set_option maxRecDepth 100000 in
set_option maxHeartbeats 2000000 in
theorem rfadd_c (a b : Int) (ha : In a) (hb : In b) (w : World) :
    Calls Tryd.prog 18 #[.int .i64 a, .int .i64 b] w fun e w' => e = .returned (.int .i64 (addZ a b)) ∧ w' = w := by
  have hne := neq_b
  have c1 := rsize_c a ha w
  have c2 := rsize_c b hb w
  have A1 := abs64_in a ha
  have B1 := abs64_in b hb
  have c28 := rclamp_c (a + b) (-1099511627776) 1099511627776 w
  have HA : Keep (abs64 a = if a < 0 then -a else a) := ⟨rfl⟩
  have HB : Keep (abs64 b = if b < 0 then -b else b) := ⟨rfl⟩
  have HR : Keep (addZ a b = clampZ (a + b) (-1099511627776) 1099511627776) := ⟨rfl⟩
  obtain ⟨ha1, ha2⟩ := ha
  obtain ⟨hb1, hb2⟩ := hb
  generalize abs64 a = A at *
  generalize abs64 b = B at *
  by_cases ca : a < 0 <;> by_cases cb : b < 0
  · by_cases d1 : 1099511627776 < A
    · have c39 := rbounded_c true 1099511627776 (by omega) (by omega) w
      have HE : Keep (addZ a b = bdS true 1099511627776) := ⟨by
        have h1 := HA.out; have h2 := HB.out
        rw [if_pos ca] at h1; rw [if_pos cb] at h2
        unfold addZ bdS; rw [bd_eq]; simp only [if_true]; (repeat' split) <;> omega⟩
      rw [HE.out]
      generalize bdS true 1099511627776 = R at *
      clear HA HB HR HE
      go_enter Tryd.func18, Tryd.ntmps18
      go_wp2_with fail
      refine c1.mono ?_
      rintro e w' ⟨rfl, hw⟩; rw [hw]
      go_wp2_with fail
      refine c2.mono ?_
      rintro e w' ⟨rfl, hw⟩; rw [hw]
      go_wp2_with fail
      refine c39.mono ?_
      rintro e w' ⟨rfl, hw⟩; rw [hw]
      go_wp2_with fail
      go_ret
      exact ⟨rfl, rfl⟩
    · by_cases d2 : 1099511627776 < B
      · have c39 := rbounded_c true 1099511627776 (by omega) (by omega) w
        have HE : Keep (addZ a b = bdS true 1099511627776) := ⟨by
          have h1 := HA.out; have h2 := HB.out
          rw [if_pos ca] at h1; rw [if_pos cb] at h2
          unfold addZ bdS; rw [bd_eq]; simp only [if_true]; (repeat' split) <;> omega⟩
        rw [HE.out]
        generalize bdS true 1099511627776 = R at *
        clear HA HB HR HE
        go_enter Tryd.func18, Tryd.ntmps18
        go_wp2_with fail
        refine c1.mono ?_
        rintro e w' ⟨rfl, hw⟩; rw [hw]
        go_wp2_with fail
        refine c2.mono ?_
        rintro e w' ⟨rfl, hw⟩; rw [hw]
        go_wp2_with fail
        refine c39.mono ?_
        rintro e w' ⟨rfl, hw⟩; rw [hw]
        go_wp2_with fail
        go_ret
        exact ⟨rfl, rfl⟩
      · have c39 := rbounded_c true (A + B) (by omega) (by omega) w
        have HE : Keep (addZ a b = bdS true (A + B)) := ⟨by
          have h1 := HA.out; have h2 := HB.out
          rw [if_pos ca] at h1; rw [if_pos cb] at h2
          unfold addZ bdS; rw [bd_eq]; simp only [if_true]; (repeat' split) <;> omega⟩
        rw [HE.out]
        generalize bdS true (A + B) = R at *
        clear HA HB HR HE
        go_enter Tryd.func18, Tryd.ntmps18
        go_wp2_with fail
        refine c1.mono ?_
        rintro e w' ⟨rfl, hw⟩; rw [hw]
        go_wp2_with fail
        refine c2.mono ?_
        rintro e w' ⟨rfl, hw⟩; rw [hw]
        go_wp2_with fail
        refine c39.mono ?_
        rintro e w' ⟨rfl, hw⟩; rw [hw]
        go_wp2_with fail
        go_ret
        exact ⟨rfl, rfl⟩
  · rw [HR.out]
    generalize clampZ (a + b) (-1099511627776) 1099511627776 = R at *
    clear HA HB HR
    go_enter Tryd.func18, Tryd.ntmps18
    go_wp2_with fail
    refine c28.mono ?_
    rintro e w' ⟨rfl, hw⟩; rw [hw]
    go_wp2_with fail
    go_ret
    exact ⟨rfl, rfl⟩
  · rw [HR.out]
    generalize clampZ (a + b) (-1099511627776) 1099511627776 = R at *
    clear HA HB HR
    go_enter Tryd.func18, Tryd.ntmps18
    go_wp2_with fail
    refine c28.mono ?_
    rintro e w' ⟨rfl, hw⟩; rw [hw]
    go_wp2_with fail
    go_ret
    exact ⟨rfl, rfl⟩
  · by_cases d1 : 1099511627776 < A
    · have c39 := rbounded_c false 1099511627776 (by omega) (by omega) w
      have HE : Keep (addZ a b = bdS false 1099511627776) := ⟨by
        have h1 := HA.out; have h2 := HB.out
        rw [if_neg ca] at h1; rw [if_neg cb] at h2
        unfold addZ bdS; rw [bd_eq]; simp only [Bool.false_eq_true, if_false]; (repeat' split) <;> omega⟩
      rw [HE.out]
      generalize bdS false 1099511627776 = R at *
      rw [show false = decide (a < 0) from (decide_eq_false ca).symm] at c39
      clear HA HB HR HE
      go_enter Tryd.func18, Tryd.ntmps18
      go_wp2_with fail
      refine c1.mono ?_
      rintro e w' ⟨rfl, hw⟩; rw [hw]
      go_wp2_with fail
      refine c2.mono ?_
      rintro e w' ⟨rfl, hw⟩; rw [hw]
      go_wp2_with fail
      refine c39.mono ?_
      rintro e w' ⟨rfl, hw⟩; rw [hw]
      go_wp2_with fail
      go_ret
      exact ⟨rfl, rfl⟩
    · by_cases d2 : 1099511627776 < B
      · have c39 := rbounded_c false 1099511627776 (by omega) (by omega) w
        have HE : Keep (addZ a b = bdS false 1099511627776) := ⟨by
          have h1 := HA.out; have h2 := HB.out
          rw [if_neg ca] at h1; rw [if_neg cb] at h2
          unfold addZ bdS; rw [bd_eq]; simp only [Bool.false_eq_true, if_false]; (repeat' split) <;> omega⟩
        rw [HE.out]
        generalize bdS false 1099511627776 = R at *
        rw [show false = decide (a < 0) from (decide_eq_false ca).symm] at c39
        clear HA HB HR HE
        go_enter Tryd.func18, Tryd.ntmps18
        go_wp2_with fail
        refine c1.mono ?_
        rintro e w' ⟨rfl, hw⟩; rw [hw]
        go_wp2_with fail
        refine c2.mono ?_
        rintro e w' ⟨rfl, hw⟩; rw [hw]
        go_wp2_with fail
        refine c39.mono ?_
        rintro e w' ⟨rfl, hw⟩; rw [hw]
        go_wp2_with fail
        go_ret
        exact ⟨rfl, rfl⟩
      · have c39 := rbounded_c false (A + B) (by omega) (by omega) w
        have HE : Keep (addZ a b = bdS false (A + B)) := ⟨by
          have h1 := HA.out; have h2 := HB.out
          rw [if_neg ca] at h1; rw [if_neg cb] at h2
          unfold addZ bdS; rw [bd_eq]; simp only [Bool.false_eq_true, if_false]; (repeat' split) <;> omega⟩
        rw [HE.out]
        generalize bdS false (A + B) = R at *
        rw [show false = decide (a < 0) from (decide_eq_false ca).symm] at c39
        clear HA HB HR HE
        go_enter Tryd.func18, Tryd.ntmps18
        go_wp2_with fail
        refine c1.mono ?_
        rintro e w' ⟨rfl, hw⟩; rw [hw]
        go_wp2_with fail
        refine c2.mono ?_
        rintro e w' ⟨rfl, hw⟩; rw [hw]
        go_wp2_with fail
        refine c39.mono ?_
        rintro e w' ⟨rfl, hw⟩; rw [hw]
        go_wp2_with fail
        go_ret
        exact ⟨rfl, rfl⟩

theorem dn_pos (a b : Int) (hb : 0 < b) (h : ¬ a.tmod b < 0) : a.tdiv b = a / b := by
  have h1 := Int.tmod_add_mul_tdiv a b
  have h2 := Int.tmod_lt_of_pos a hb
  have h3 := Int.emod_add_mul_ediv a b
  have h4 := Int.emod_nonneg a (Int.ne_of_gt hb)
  have h5 := Int.emod_lt_of_pos a hb
  have h6 : a = a.tmod b + b * a.tdiv b := by omega
  have h7 := Int.add_mul_ediv_left (a.tmod b) (a.tdiv b) (Int.ne_of_gt hb)
  rw [← h6, Int.ediv_eq_zero_of_lt (by omega) h2] at h7
  omega
theorem dn_neg (a b : Int) (hb : 0 < b) (h : a.tmod b < 0) : a.tdiv b - 1 = a / b := by
  have h1 := Int.tmod_add_mul_tdiv a b
  have h2 := Int.lt_tmod_of_pos a hb
  have h6 : a = (a.tmod b + b) + b * (a.tdiv b - 1) := by rw [Int.mul_sub]; omega
  have h7 := Int.add_mul_ediv_left (a.tmod b + b) (a.tdiv b - 1) (Int.ne_of_gt hb)
  have h8 : (a.tmod b + b) / b = 0 := Int.ediv_eq_zero_of_lt (by omega) (by omega)
  rw [← h6, h8] at h7
  omega
theorem dn_in (a b : Int) (ha : In a) (hb : 0 < b) : In (a.tdiv b) ∧ In (a.tdiv b - 1) ∨ b = 1 := by
  by_cases h1 : b = 1
  · exact .inr h1
  refine .inl ?_
  obtain ⟨p, q⟩ := ha
  have h2 : (a.tdiv b).natAbs = a.natAbs / b.natAbs := Int.natAbs_tdiv a b
  have h3 : a.natAbs / b.natAbs ≤ a.natAbs / 2 := Nat.div_le_div_left (by omega) (by omega)
  have h4 : a.natAbs / 2 ≤ 4611686018427387904 := by omega
  constructor <;> constructor <;> omega
set_option maxRecDepth 100000 in
set_option maxHeartbeats 2000000 in
theorem rdown_c (a b : Int) (ha : In a) (hb : 1 < b) (hb2 : b ≤ 100) (w : World) :
    Calls Tryd.prog 13 #[.int .i64 a, .int .i64 b] w fun e w' => e = .returned (.int .i64 (a / b)) ∧ w' = w := by
  have hi := (dn_in a b ha (by omega)).resolve_right (by omega)
  have e1 : IntKind.i64.wrap (a.tdiv b) = a.tdiv b := Bo.wi _ hi.1.1 hi.1.2
  have e2 : IntKind.i64.wrap (a.tdiv b - 1) = a.tdiv b - 1 := Bo.wi _ hi.2.1 hi.2.2
  have hz : b ≠ 0 := by omega
  have hz' : ¬ b = 0 := hz
  have HP := Keep.mk (dn_pos a b (by omega))
  have HN := Keep.mk (dn_neg a b (by omega))
  have e3 : IntKind.i64.wrap (a.tmod b) = a.tmod b := by
    have h2 := Int.lt_tmod_of_pos a (show 0 < b by omega)
    have h3 := Int.tmod_lt_of_pos a (show 0 < b by omega)
    exact Bo.wi _ (by omega) (by omega)
  by_cases hn : a.tmod b < 0
  · rw [← HN.out hn]
    clear HP HN ha hb hb2 hi
    go_enter Tryd.func13, Tryd.ntmps13
    go_wp2
    go_ret
    exact ⟨rfl, rfl⟩
  · rw [← HP.out hn]
    clear HP HN ha hb hb2 hi
    go_enter Tryd.func13, Tryd.ntmps13
    go_wp2
    go_ret
    exact ⟨rfl, rfl⟩
end Go.Proofs.YtobdcngjpgndiabDoor
