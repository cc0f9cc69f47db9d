/- fix.Div -/
import Derived.Test.YtkfkhjafhlafhaaDoorF2
import Derived.Test.YtkfkhjafhlafhaaDoorF7
namespace Go.Proofs.YtkfkhjafhlafhaaDoor
open Go Go.RowKit

/-- a quotient and a rest of sizes, on one side of 0 or the other, rounded down, bounded -/
def sideZ (below : Bool) (q r : Int) : Int :=
  if 1099511627776 ≤ q then (if below then -1099511627776 else 1099511627776) else if below then (if r = 0 then -q else -(q + 1)) else q
def divZ (a b : Int) : Int :=
  if b = 0 then clampZ a (-1) 1 * 1099511627776 else sideZ (decide (a < 0) != decide (b < 0)) (abs64 a * 65536 / abs64 b) (abs64 a * 65536 % abs64 b)

theorem abs64_nat (a : Int) : abs64 a = (a.natAbs : Int) := by unfold abs64; split <;> omega

theorem abs64_in (a : Int) (h : In a) : 0 ≤ abs64 a ∧ abs64 a ≤ 9223372036854775808 := by
  obtain ⟨_, _⟩ := h; unfold abs64; split <;> omega
theorem abs64_pos (a : Int) (h : a ≠ 0) : 0 < abs64 a := by unfold abs64; split <;> omega

/-- Div64 over Int -/
theorem div64_i (hi lo y : Int) (w : World) (h0 : 0 ≤ hi) (h1 : hi < y) (h2 : y < 18446744073709551616) (l0 : 0 ≤ lo) (l1 : lo < 18446744073709551616) :
    Calls Tryd.prog 34 #[.int .u64 hi, .int .u64 lo, .int .u64 y] w fun e w' => e = .returned (.tuple #[.int .u64 ((hi * 18446744073709551616 + lo) / y), .int .u64 ((hi * 18446744073709551616 + lo) % y)]) ∧ w.grownBy w' none := by
  obtain ⟨a, rfl⟩ := Int.eq_ofNat_of_zero_le h0
  obtain ⟨b, rfl⟩ := Int.eq_ofNat_of_zero_le l0
  obtain ⟨c, rfl⟩ := Int.eq_ofNat_of_zero_le (show 0 ≤ y by omega)
  have := div64_c a b c w (by omega) (by omega) (by omega)
  have K : ((18446744073709551616 : Nat) : Int) = 18446744073709551616 := rfl
  simp only [Int.natCast_add, Int.natCast_mul, Int.natCast_ediv, Int.natCast_emod, K] at this
  exact this

set_option maxHeartbeats 2000000 in
theorem div_zero_c (a : Int) (w : World) :
    Calls Tryd.prog 11 #[.int .i64 a, .int .i64 0] w fun e w' => e = .returned (.int .i64 (clampZ a (-1) 1 * 1099511627776)) ∧ w' = w := by
  have c := clamp_c a (-1) 1 w
  have hc : -1 ≤ clampZ a (-1) 1 ∧ clampZ a (-1) 1 ≤ 1 := by unfold clampZ; split <;> split <;> omega
  generalize clampZ a (-1) 1 = k at *
  go_enter Tryd.func11, Tryd.ntmps11
  go_wp2_with (go_at_call 14; refine c.mono ?_; rintro e w' ⟨rfl, hw⟩; rw [hw])
  go_ret
  exact ⟨rfl, rfl⟩

theorem neq_b (x y : Bool) (W : World) : (binOp .neq 4 (.bool x) (.bool y)).run Tryd.prog W = .ok (.bool (x != y)) W := by
  rw [run_neq_bool (P := Tryd.prog) W 4 x y (by kernel_rfl)]
  cases x <;> cases y <;> rfl
set_option maxHeartbeats 400000 in
theorem div_some_c (a b A B hi lo q r : Int) (bl : Bool) (w : World) (hz : b ≠ 0) (hbl : (decide (a < 0) != decide (b < 0)) = bl)
    (c1 : Calls Tryd.prog 33 #[.int .i64 a] w fun e w' => e = .returned (.int .u64 A) ∧ w' = w)
    (c2 : Calls Tryd.prog 33 #[.int .i64 b] w fun e w' => e = .returned (.int .u64 B) ∧ w' = w)
    (c3 : Calls Tryd.prog 32 #[.int .u64 A] w fun e w' => e = .returned (.tuple #[.int .u64 hi, .int .u64 lo]) ∧ w' = w)
    (c4 : Calls Tryd.prog 34 #[.int .u64 hi, .int .u64 lo, .int .u64 B] w fun e w' => e = .returned (.tuple #[.int .u64 q, .int .u64 r]) ∧ w.grownBy w' none)
    (hq : hi < B) (q0 : 0 ≤ q) (q1 : q < 18446744073709551616) (r0 : 0 ≤ r) :
    Calls Tryd.prog 11 #[.int .i64 a, .int .i64 b] w fun e w' => e = .returned (.int .i64 (sideZ bl q r)) ∧ w.grownBy w' none := by
  unfold sideZ
  have hne := neq_b
  by_cases hM : 1099511627776 ≤ q
  · rw [if_pos hM]
    have m29 : ∀ w, Calls Tryd.prog 29 #[.bool bl] w fun e w' => e = .returned (.int .i64 (mostZ bl)) ∧ w' = w := fun w => most_c bl w
    unfold mostZ at m29
    generalize (if bl = true then (-1099511627776 : Int) else 1099511627776) = R at *
    go_enter Tryd.func11, Tryd.ntmps11
    go_wp2_with fail
    refine c1.mono ?_
    rintro e w' ⟨rfl, hw⟩; rw [hw]
    go_wp2_with fail
    refine c3.mono ?_
    rintro e w' ⟨rfl, hw⟩; rw [hw]
    go_wp2_with fail
    refine c2.mono ?_
    rintro e w' ⟨rfl, hw⟩; rw [hw]
    go_wp2_with fail
    refine c4.mono ?_
    rintro e w4 ⟨rfl, hw4⟩
    go_wp2_with fail
    refine (m29 _).mono ?_
    rintro e w' ⟨rfl, hw⟩; rw [hw]
    go_wp2_with fail
    go_ret
    exact ⟨rfl, hw4⟩
  · rw [if_neg hM]
    cases bl
    · simp only [Bool.false_eq_true, if_false]
      go_enter Tryd.func11, Tryd.ntmps11
      go_wp2_with fail
      refine c1.mono ?_
      rintro e w' ⟨rfl, hw⟩; rw [hw]
      go_wp2_with fail
      refine c3.mono ?_
      rintro e w' ⟨rfl, hw⟩; rw [hw]
      go_wp2_with fail
      refine c2.mono ?_
      rintro e w' ⟨rfl, hw⟩; rw [hw]
      go_wp2_with fail
      refine c4.mono ?_
      rintro e w4 ⟨rfl, hw4⟩
      go_wp2_with fail
      go_ret
      exact ⟨rfl, hw4⟩
    · simp only [if_true]
      by_cases hr : r = 0
      · rw [if_pos hr]
        go_enter Tryd.func11, Tryd.ntmps11
        go_wp2_with fail
        refine c1.mono ?_
        rintro e w' ⟨rfl, hw⟩; rw [hw]
        go_wp2_with fail
        refine c3.mono ?_
        rintro e w' ⟨rfl, hw⟩; rw [hw]
        go_wp2_with fail
        refine c2.mono ?_
        rintro e w' ⟨rfl, hw⟩; rw [hw]
        go_wp2_with fail
        refine c4.mono ?_
        rintro e w4 ⟨rfl, hw4⟩
        go_wp2_with fail
        go_ret
        exact ⟨rfl, hw4⟩
      · rw [if_neg hr]
        have hr2 : 0 < r := by omega
        go_enter Tryd.func11, Tryd.ntmps11
        go_wp2_with fail
        refine c1.mono ?_
        rintro e w' ⟨rfl, hw⟩; rw [hw]
        go_wp2_with fail
        refine c3.mono ?_
        rintro e w' ⟨rfl, hw⟩; rw [hw]
        go_wp2_with fail
        refine c2.mono ?_
        rintro e w' ⟨rfl, hw⟩; rw [hw]
        go_wp2_with fail
        refine c4.mono ?_
        rintro e w4 ⟨rfl, hw4⟩
        go_wp2_with fail
        go_ret
        exact ⟨rfl, hw4⟩

theorem div_c (a b : Int) (ha : In a) (hb : In b) (w : World) :
    Calls Tryd.prog 11 #[.int .i64 a, .int .i64 b] w fun e w' => e = .returned (.int .i64 (divZ a b)) ∧ w.grownBy w' none := by
  by_cases hz : b = 0
  · subst hz
    have e0 : divZ a 0 = clampZ a (-1) 1 * 1099511627776 := by unfold divZ; rw [if_pos rfl]
    rw [e0]
    exact (div_zero_c a w).mono fun e w' ⟨h, hw⟩ => ⟨h, by rw [hw]; exact World.grownBy.refl _ _⟩
  · have c1 := size_c a ha w
    have c2 := size_c b hb w
    have A1 := abs64_in a ha
    have B1 := abs64_in b hb
    have B0 := abs64_pos b hz
    have e0 : divZ a b = sideZ (decide (a < 0) != decide (b < 0)) (abs64 a * 65536 / abs64 b) (abs64 a * 65536 % abs64 b) := by unfold divZ; rw [if_neg hz]
    rw [e0]
    clear e0
    generalize abs64 a = A at *
    generalize abs64 b = B at *
    have c3 := raised_c A A1.1 (by omega) w
    have hN : A / 281474976710656 * 18446744073709551616 + A * 65536 % 18446744073709551616 = A * 65536 := by omega
    have q0 : 0 ≤ A * 65536 / B := Int.ediv_nonneg (by omega) (by omega)
    have r0 : 0 ≤ A * 65536 % B := Int.emod_nonneg _ (by omega)
    by_cases hq : A / 281474976710656 < B
    · have c4 := div64_i (A / 281474976710656) (A * 65536 % 18446744073709551616) B w (by omega) hq (by omega) (by omega) (by omega)
      rw [hN] at c4
      have q1 : A * 65536 / B < 18446744073709551616 := by
        refine Int.ediv_lt_of_lt_mul B0 ?_
        omega
      exact div_some_c a b A B _ _ _ _ _ w hz rfl c1 c2 c3 c4 hq q0 q1 r0
    · have hM : 1099511627776 ≤ A * 65536 / B := by
        rw [Int.le_ediv_iff_mul_le B0]; omega
      have m29 := most_c (decide (a < 0) != decide (b < 0)) w
      unfold sideZ
      rw [if_pos hM]
      unfold mostZ at m29
      generalize hbl : (decide (a < 0) != decide (b < 0)) = bl at *
      generalize (if bl = true then (-1099511627776 : Int) else 1099511627776) = R at *
      generalize hhi : A / 281474976710656 = hi at *
      generalize A * 65536 % 18446744073709551616 = lo at *
      clear hN hM q0 r0 hhi
      have hne := neq_b
      go_enter Tryd.func11, Tryd.ntmps11
      go_wp2_with fail
      refine c1.mono ?_
      rintro e w' ⟨rfl, hw⟩; rw [hw]
      go_wp2_with fail
      refine c3.mono ?_
      rintro e w' ⟨rfl, hw⟩; rw [hw]
      go_wp2_with fail
      refine c2.mono ?_
      rintro e w' ⟨rfl, hw⟩; rw [hw]
      go_wp2_with fail
      refine m29.mono ?_
      rintro e w' ⟨rfl, hw⟩; rw [hw]
      go_wp2_with fail
      go_ret
      exact ⟨rfl, World.grownBy.refl _ _⟩
end Go.Proofs.YtkfkhjafhlafhaaDoor
