/- the reference: Mul -/
import Derived.Test.YtobdcngjpgndiabDoorG3
import Derived.Test.YtobdcngjpgndiabDoorF2
namespace Go.Proofs.YtobdcngjpgndiabDoor
open Go Go.RowKit

def mulS (bl : Bool) (S : Int) : Int := if bl then (if S % 65536 = 0 then bd (-(S / 65536)) else bd (-(S / 65536) - 1)) else bd (S / 65536)
set_option maxRecDepth 100000 in
theorem mulZ_side (a b : Int) : mulZ a b = mulS (decide (a < 0) != decide (b < 0)) (abs64 a * abs64 b) := by
  unfold mulZ mulS abs64
  by_cases ca : a < 0 <;> by_cases cb : b < 0 <;> simp only [ca, cb, decide_true, decide_false, if_true, if_false, bne_self_eq_false, Bool.false_eq_true, Bool.true_bne, Bool.false_bne, Bool.not_false, Int.neg_mul_neg]
  · rw [Int.neg_mul]
    generalize a * b = P
    split <;> congr 1 <;> omega
  · rw [Int.mul_neg]
    generalize a * b = P
    split <;> congr 1 <;> omega

set_option maxRecDepth 100000 in
set_option maxHeartbeats 2000000 in
theorem rmul_walk (a b A B S : Int) (bl : Bool) (w : World) (hbl : (decide (a < 0) != decide (b < 0)) = bl)
    (c1 : Calls Tryd.prog 41 #[.int .i64 a] w fun e w' => e = .returned (.int .u64 A) ∧ w' = w)
    (c2 : Calls Tryd.prog 41 #[.int .i64 b] w fun e w' => e = .returned (.int .u64 B) ∧ w' = w)
    (c3 : Calls Tryd.prog 59 #[.int .u64 A, .int .u64 B] w fun e w' => e = .returned (.tuple #[.int .u64 (S / 18446744073709551616), .int .u64 (S % 18446744073709551616)]) ∧ w' = w)
    (S0 : 0 ≤ S) (S1 : S < 340282366920938463463374607431768211456) :
    Calls Tryd.prog 37 #[.int .i64 a, .int .i64 b] w fun e w' => e = .returned (.int .i64 (mulS bl S)) ∧ w' = w := by
  have hne := neq_b
  have HS : Keep (S = S / 18446744073709551616 * 18446744073709551616 + S % 18446744073709551616) := ⟨by omega⟩
  have hb : 0 ≤ S / 18446744073709551616 ∧ S / 18446744073709551616 < 18446744073709551616 ∧ 0 ≤ S % 18446744073709551616 ∧ S % 18446744073709551616 < 18446744073709551616 := by omega
  generalize S / 18446744073709551616 = hi at *
  generalize S % 18446744073709551616 = lo at *
  clear S0 S1
  obtain ⟨R, hR⟩ : ∃ R, mulS bl S = R := ⟨_, rfl⟩
  rw [hR]
  have HR := Keep.mk hR
  clear hR
  by_cases d1 : 65536 ≤ hi
  · have c4 := rbounded_c bl 1099511627777 (by omega) (by omega) w
    have HE : bdS bl 1099511627777 = R := by
      have h1 := HS.out; have h2 := HR.out
      rw [← h2]
      unfold bdS mulS
      simp only [bd_eq]
      cases bl <;> simp only [Bool.false_eq_true, if_true, if_false] <;> (repeat' split) <;> omega
    rw [HE] at c4
    clear HE HR HS
    go_enter Tryd.func37, Tryd.ntmps37
    go_wp2_with fail
    refine c1.mono ?_
    rintro e w' ⟨rfl, hw⟩; rw [hw]
    go_wp2_with fail
    refine c2.mono ?_
    rintro e w' ⟨rfl, hw⟩; rw [hw]
    go_wp2_with fail
    refine c3.mono ?_
    rintro e w' ⟨rfl, hw⟩; rw [hw]
    go_wp2_with fail
    refine c4.mono ?_
    rintro e w' ⟨rfl, hw⟩; rw [hw]
    go_wp2_with fail
    go_ret
    exact ⟨rfl, rfl⟩
  · by_cases d2 : 1099511627776 < hi * 281474976710656 + lo / 65536
    · cases bl
      · have c4 := rbounded_c false 1099511627776 (by omega) (by omega) w
        have HE : bdS false 1099511627776 = R := by
          have h1 := HS.out; have h2 := HR.out
          rw [← h2]
          unfold bdS mulS
          simp only [bd_eq, Bool.false_eq_true, if_false]
          (repeat' split) <;> omega
        rw [HE] at c4
        clear HE HR HS
        go_enter Tryd.func37, Tryd.ntmps37
        go_wp2_with fail
        refine c1.mono ?_
        rintro e w' ⟨rfl, hw⟩; rw [hw]
        go_wp2_with fail
        refine c2.mono ?_
        rintro e w' ⟨rfl, hw⟩; rw [hw]
        go_wp2_with fail
        refine c3.mono ?_
        rintro e w' ⟨rfl, hw⟩; rw [hw]
        go_wp2_with fail
        refine c4.mono ?_
        rintro e w' ⟨rfl, hw⟩; rw [hw]
        go_wp2_with fail
        go_ret
        exact ⟨rfl, rfl⟩
      · by_cases d3 : lo % 65536 = 0
        · have c4 := rbounded_c true 1099511627776 (by omega) (by omega) w
          have HE : bdS true 1099511627776 = R := by
            have h1 := HS.out; have h2 := HR.out
            rw [← h2]
            unfold bdS mulS
            simp only [bd_eq, if_true]
            (repeat' split) <;> omega
          rw [HE] at c4
          clear HE HR HS
          go_enter Tryd.func37, Tryd.ntmps37
          go_wp2_with fail
          refine c1.mono ?_
          rintro e w' ⟨rfl, hw⟩; rw [hw]
          go_wp2_with fail
          refine c2.mono ?_
          rintro e w' ⟨rfl, hw⟩; rw [hw]
          go_wp2_with fail
          refine c3.mono ?_
          rintro e w' ⟨rfl, hw⟩; rw [hw]
          go_wp2_with fail
          refine c4.mono ?_
          rintro e w' ⟨rfl, hw⟩; rw [hw]
          go_wp2_with fail
          go_ret
          exact ⟨rfl, rfl⟩
        · have c4 := rbounded_c true 1099511627777 (by omega) (by omega) w
          have HE : bdS true 1099511627777 = R := by
            have h1 := HS.out; have h2 := HR.out
            rw [← h2]
            unfold bdS mulS
            simp only [bd_eq, if_true]
            (repeat' split) <;> omega
          rw [HE] at c4
          clear HE HR HS
          go_enter Tryd.func37, Tryd.ntmps37
          go_wp2_with fail
          refine c1.mono ?_
          rintro e w' ⟨rfl, hw⟩; rw [hw]
          go_wp2_with fail
          refine c2.mono ?_
          rintro e w' ⟨rfl, hw⟩; rw [hw]
          go_wp2_with fail
          refine c3.mono ?_
          rintro e w' ⟨rfl, hw⟩; rw [hw]
          go_wp2_with fail
          refine c4.mono ?_
          rintro e w' ⟨rfl, hw⟩; rw [hw]
          go_wp2_with fail
          go_ret
          exact ⟨rfl, rfl⟩
    · cases bl
      · have c4 := rbounded_c false (hi * 281474976710656 + lo / 65536) (by omega) (by omega) w
        have HE : bdS false (hi * 281474976710656 + lo / 65536) = R := by
          have h1 := HS.out; have h2 := HR.out
          rw [← h2]
          unfold bdS mulS
          simp only [bd_eq, Bool.false_eq_true, if_false]
          (repeat' split) <;> omega
        rw [HE] at c4
        clear HE HR HS
        go_enter Tryd.func37, Tryd.ntmps37
        go_wp2_with fail
        refine c1.mono ?_
        rintro e w' ⟨rfl, hw⟩; rw [hw]
        go_wp2_with fail
        refine c2.mono ?_
        rintro e w' ⟨rfl, hw⟩; rw [hw]
        go_wp2_with fail
        refine c3.mono ?_
        rintro e w' ⟨rfl, hw⟩; rw [hw]
        go_wp2_with fail
        refine c4.mono ?_
        rintro e w' ⟨rfl, hw⟩; rw [hw]
        go_wp2_with fail
        go_ret
        exact ⟨rfl, rfl⟩
      · by_cases d3 : lo % 65536 = 0
        · have c4 := rbounded_c true (hi * 281474976710656 + lo / 65536) (by omega) (by omega) w
          have HE : bdS true (hi * 281474976710656 + lo / 65536) = R := by
            have h1 := HS.out; have h2 := HR.out
            rw [← h2]
            unfold bdS mulS
            simp only [bd_eq, if_true]
            (repeat' split) <;> omega
          rw [HE] at c4
          clear HE HR HS
          go_enter Tryd.func37, Tryd.ntmps37
          go_wp2_with fail
          refine c1.mono ?_
          rintro e w' ⟨rfl, hw⟩; rw [hw]
          go_wp2_with fail
          refine c2.mono ?_
          rintro e w' ⟨rfl, hw⟩; rw [hw]
          go_wp2_with fail
          refine c3.mono ?_
          rintro e w' ⟨rfl, hw⟩; rw [hw]
          go_wp2_with fail
          refine c4.mono ?_
          rintro e w' ⟨rfl, hw⟩; rw [hw]
          go_wp2_with fail
          go_ret
          exact ⟨rfl, rfl⟩
        · have c4 := rbounded_c true (hi * 281474976710656 + lo / 65536 + 1) (by omega) (by omega) w
          have HE : bdS true (hi * 281474976710656 + lo / 65536 + 1) = R := by
            have h1 := HS.out; have h2 := HR.out
            rw [← h2]
            unfold bdS mulS
            simp only [bd_eq, if_true]
            (repeat' split) <;> omega
          rw [HE] at c4
          clear HE HR HS
          go_enter Tryd.func37, Tryd.ntmps37
          go_wp2_with fail
          refine c1.mono ?_
          rintro e w' ⟨rfl, hw⟩; rw [hw]
          go_wp2_with fail
          refine c2.mono ?_
          rintro e w' ⟨rfl, hw⟩; rw [hw]
          go_wp2_with fail
          refine c3.mono ?_
          rintro e w' ⟨rfl, hw⟩; rw [hw]
          go_wp2_with fail
          refine c4.mono ?_
          rintro e w' ⟨rfl, hw⟩; rw [hw]
          go_wp2_with fail
          go_ret
          exact ⟨rfl, rfl⟩

set_option maxRecDepth 100000 in
theorem rmul_c (a b : Int) (ha : In a) (hb : In b) (w : World) :
    Calls Tryd.prog 37 #[.int .i64 a, .int .i64 b] w fun e w' => e = .returned (.int .i64 (mulZ a b)) ∧ w' = w := by
  rw [mulZ_side]
  have A1 := abs64_in a ha
  have B1 := abs64_in b hb
  have h2 := Int.mul_le_mul A1.2 B1.2 B1.1 (by omega)
  exact rmul_walk a b (abs64 a) (abs64 b) _ _ w rfl (rsize_c a ha w) (rsize_c b hb w) (product_c _ _ A1.1 (by omega) B1.1 (by omega) w) (Int.mul_nonneg A1.1 B1.1) (by omega)
end Go.Proofs.YtobdcngjpgndiabDoor
