/- the reference: keep, Less, Sum. -/
import Derived.Test.YtmacmoikjgmaoaaDoorV1
namespace Go.Proofs.YtmacmoikjgmaoaaDoor
open Go Go.RowKit

set_option maxRecDepth 100000 in
theorem keep_c (x m : Int) (hm : 0 ≤ m ∧ m ≤ 9223372036854775807) (w : World) :
    Calls Tryd.prog 60 #[.int .i64 x, .int .i64 m] w fun e w' => e = .returned (.int .i64 (kz x (-m) m)) ∧ w' = w := by
  have hwm : IntKind.i64.wrap (-m) = -m := by rw [IntKind.wrap_i64]; omega
  by_cases c1 : m < x
  · have e : kz x (-m) m = m := by unfold kz; omega
    rw [e]
    go_enter Tryd.func60, Tryd.ntmps60
    go_wp2
    go_ret
    exact ⟨rfl, rfl⟩
  · by_cases c2 : x < -m
    · have e : kz x (-m) m = -m := by unfold kz; omega
      rw [e]
      go_enter Tryd.func60, Tryd.ntmps60
      go_wp2
      go_ret
      exact ⟨rfl, rfl⟩
    · have e : kz x (-m) m = x := by unfold kz; omega
      rw [e]
      go_enter Tryd.func60, Tryd.ntmps60
      go_wp2
      go_ret
      exact ⟨rfl, rfl⟩
set_option maxRecDepth 100000 in
set_option maxHeartbeats 2000000 in
theorem rless_c (a b m : Int) (ha : In a) (hb : In b) (hm : 0 ≤ m ∧ m ≤ 1099511627776) (w : World) :
    Calls Tryd.prog 72 #[.int .i64 a, .int .i64 b, .int .i64 m] w fun e w' => e = .returned (.int .i64 (lz a b m)) ∧ w' = w := by
  obtain ⟨a0, a1⟩ := ha
  obtain ⟨b0, b1⟩ := hb
  have k := fun (h : In (a - b)) => keep_c (a - b) m ⟨hm.1, by omega⟩ w
  have hwm : IntKind.i64.wrap (-m) = -m := by rw [IntKind.wrap_i64]; omega
  by_cases c1 : b < 0
  · by_cases c2 : 9223372036854775807 + b < a
    · have e : lz a b m = m := by unfold lz kz; omega
      rw [e]
      clear k
      go_enter Tryd.func72, Tryd.ntmps72
      go_wp2_with fail
      go_ret
      exact ⟨rfl, rfl⟩
    · have k := k ⟨by omega, by omega⟩
      have e : kz (a - b) (-m) m = lz a b m := rfl
      rw [e] at k
      generalize lz a b m = v at *
      have c3 : ¬ 0 < b := by omega
      go_enter Tryd.func72, Tryd.ntmps72
      go_wp2_with fail
      refine k.mono ?_
      rintro e w' ⟨rfl, hw⟩; rw [hw]
      go_wp2_with fail
      go_ret
      exact ⟨rfl, rfl⟩
  · by_cases c2 : 0 < b ∧ a < -9223372036854775808 + b
    · obtain ⟨c2, c3⟩ := c2
      have e : lz a b m = -m := by unfold lz kz; omega
      rw [e]
      clear k
      go_enter Tryd.func72, Tryd.ntmps72
      go_wp2_with fail
      go_ret
      exact ⟨rfl, rfl⟩
    · have k := k ⟨by omega, by omega⟩
      have e : kz (a - b) (-m) m = lz a b m := rfl
      rw [e] at k
      generalize lz a b m = v at *
      by_cases c3 : 0 < b
      · have c4 : ¬ a < -9223372036854775808 + b := by omega
        clear c2
        go_enter Tryd.func72, Tryd.ntmps72
        go_wp2_with fail
        refine k.mono ?_
        rintro e w' ⟨rfl, hw⟩; rw [hw]
        go_wp2_with fail
        go_ret
        exact ⟨rfl, rfl⟩
      · clear c2
        go_enter Tryd.func72, Tryd.ntmps72
        go_wp2_with fail
        refine k.mono ?_
        rintro e w' ⟨rfl, hw⟩; rw [hw]
        go_wp2_with fail
        go_ret
        exact ⟨rfl, rfl⟩
set_option maxRecDepth 100000 in
set_option maxHeartbeats 2000000 in
theorem rsum_c (a b : Int) (ha : In a) (hb : In b) (w : World) :
    Calls Tryd.prog 39 #[.int .i64 a, .int .i64 b, .int .i64 1099511627776] w fun e w' => e = .returned (.int .i64 (addZ a b)) ∧ w' = w := by
  obtain ⟨a0, a1⟩ := ha
  obtain ⟨b0, b1⟩ := hb
  have k := keep_c (a + b) 1099511627776 (by omega) w
  have hz : kz (a + b) (-1099511627776) 1099511627776 = addZ a b := by unfold addZ; rw [bd_eq]; unfold kz; (repeat' split) <;> omega
  rw [hz] at k
  have e0 : addZ a b = kz (a + b) (-1099511627776) 1099511627776 := hz.symm
  unfold kz at e0
  clear hz
  by_cases c1 : 0 ≤ a ∧ 0 ≤ b
  · obtain ⟨c1, c2⟩ := c1
    have c5 : ¬ a < 0 := by omega
    by_cases c3 : 9223372036854775807 - b < a
    · have e : addZ a b = 1099511627776 := by rw [e0]; omega
      rw [e]
      clear k e e0
      go_enter Tryd.func39, Tryd.ntmps39
      go_wp2_with fail
      go_ret
      exact ⟨rfl, rfl⟩
    · have c4 : a ≤ 9223372036854775807 - b := by omega
      clear e0
      generalize addZ a b = v at *
      go_enter Tryd.func39, Tryd.ntmps39
      go_wp2_with fail
      refine k.mono ?_
      rintro e w' ⟨rfl, hw⟩; rw [hw]
      go_wp2_with fail
      go_ret
      exact ⟨rfl, rfl⟩
  · by_cases c2 : a < 0
    · by_cases c3 : b < 0
      · by_cases c4 : a < -9223372036854775808 - b
        · have e : addZ a b = -1099511627776 := by rw [e0]; omega
          rw [e]
          clear k e e0 c1
          go_enter Tryd.func39, Tryd.ntmps39
          go_wp2_with fail
          go_ret
          exact ⟨rfl, rfl⟩
        · have c5 : -9223372036854775808 - b ≤ a := by omega
          clear e0 c1
          generalize addZ a b = v at *
          go_enter Tryd.func39, Tryd.ntmps39
          go_wp2_with fail
          refine k.mono ?_
          rintro e w' ⟨rfl, hw⟩; rw [hw]
          go_wp2_with fail
          go_ret
          exact ⟨rfl, rfl⟩
      · clear e0 c1
        generalize addZ a b = v at *
        go_enter Tryd.func39, Tryd.ntmps39
        go_wp2_with fail
        refine k.mono ?_
        rintro e w' ⟨rfl, hw⟩; rw [hw]
        go_wp2_with fail
        go_ret
        exact ⟨rfl, rfl⟩
    · have c3 : b < 0 := by omega
      have c4 : 0 ≤ a := by omega
      clear e0 c1
      generalize addZ a b = v at *
      go_enter Tryd.func39, Tryd.ntmps39
      go_wp2_with fail
      refine k.mono ?_
      rintro e w' ⟨rfl, hw⟩; rw [hw]
      go_wp2_with fail
      go_ret
      exact ⟨rfl, rfl⟩
end Go.Proofs.YtmacmoikjgmaoaaDoor
