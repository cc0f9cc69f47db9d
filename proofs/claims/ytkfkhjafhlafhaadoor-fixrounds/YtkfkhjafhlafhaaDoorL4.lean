/- FixRounds -/
import Derived.Test.YtkfkhjafhlafhaaDoorL1
namespace Go.Proofs.YtkfkhjafhlafhaaDoor
open Go Go.RowKit

structure RP (P p : Int) : Prop where
  or : (p = -1099511627776 ∧ P < -72057594037862400 ∧ P < 72057594037927936) ∨ (p = 1099511627776 ∧ 72057594037927936 ≤ P ∧ -72057594037862400 ≤ P) ∨
    (-1099511627776 < p ∧ p < 1099511627776 ∧ 0 ≤ P - p * 65536 ∧ P - p * 65536 < 65536 ∧ -72057594037862400 ≤ P ∧ P < 72057594037927936)
theorem rp_of (P : Int) : RP P (bd (P / 65536)) := ⟨by rw [bd_eq]; (repeat' split) <;> omega⟩

structure RQ (x y q : Int) : Prop where
  or : q = -1099511627776 ∨ q = 1099511627776 ∨ (-1099511627776 < q ∧ q < 1099511627776 ∧ (0 < y → 0 ≤ x * 65536 - q * y ∧ x * 65536 - q * y < y) ∧ (y < 0 → y < x * 65536 - q * y ∧ x * 65536 - q * y ≤ 0))
theorem rq_of (x y : Int) (hy : y ≠ 0) : RQ x y (divZ x y) := by
  constructor
  unfold divZ
  rw [if_neg hy]
  have hB := abs64_pos y hy
  have e := Int.mul_ediv_add_emod (abs64 x * 65536) (abs64 y)
  have m0 := Int.emod_nonneg (abs64 x * 65536) (show abs64 y ≠ 0 by omega)
  have m1 := Int.emod_lt_of_pos (abs64 x * 65536) hB
  have q0 : 0 ≤ abs64 x * 65536 / abs64 y := Int.ediv_nonneg (by unfold abs64; split <;> omega) (by omega)
  have hx : abs64 x = if x < 0 then -x else x := rfl
  have hy2 : abs64 y = if y < 0 then -y else y := rfl
  generalize abs64 x * 65536 / abs64 y = Q at *
  generalize abs64 x * 65536 % abs64 y = R at *
  unfold sideZ
  by_cases hM : 1099511627776 ≤ Q
  · rw [if_pos hM]
    cases (decide (x < 0) != decide (y < 0))
    · exact .inr (.inl rfl)
    · exact .inl rfl
  · rw [if_neg hM]
    by_cases cx : x < 0 <;> by_cases cy : y < 0 <;> simp only [cx, cy, if_true, if_false] at hx hy2 <;> rw [hx, hy2] at e <;> rw [hy2] at m1 hB <;> simp only [cx, cy, decide_true, decide_false, bne_self_eq_false, Bool.false_eq_true, Bool.true_bne, Bool.false_bne, Bool.not_false, if_true, if_false]
    · have e2 : y * Q = Q * y := Int.mul_comm _ _
      rw [Int.neg_mul] at e
      generalize Q * y = Z at *
      refine .inr (.inr ⟨by omega, by omega, fun h => by first | exact h.elim | omega, fun _ => by omega⟩)
    · by_cases hr : R = 0
      · rw [if_pos hr, Int.neg_mul]
        have e2 : y * Q = Q * y := Int.mul_comm _ _
        by_cases hz : -Q = -1099511627776
        · exact .inl hz
        · generalize Q * y = Z at *
          refine .inr (.inr ⟨by omega, by omega, fun _ => by omega, fun h => by first | exact h.elim | omega⟩)
      · rw [if_neg hr, Int.neg_mul, Int.add_mul, Int.one_mul]
        have e2 : y * Q = Q * y := Int.mul_comm _ _
        by_cases hz : -(Q + 1) = -1099511627776
        · exact .inl hz
        · generalize Q * y = Z at *
          refine .inr (.inr ⟨by omega, by omega, fun _ => by omega, fun h => by first | exact h.elim | omega⟩)
    · by_cases hr : R = 0
      · rw [if_pos hr, Int.neg_mul]
        rw [Int.neg_mul] at e
        have e2 : y * Q = Q * y := Int.mul_comm _ _
        by_cases hz : -Q = -1099511627776
        · exact .inl hz
        · generalize Q * y = Z at *
          refine .inr (.inr ⟨by omega, by omega, fun h => by first | exact h.elim | omega, fun _ => by omega⟩)
      · rw [if_neg hr, Int.neg_mul, Int.add_mul, Int.one_mul]
        rw [Int.neg_mul] at e
        have e2 : y * Q = Q * y := Int.mul_comm _ _
        by_cases hz : -(Q + 1) = -1099511627776
        · exact .inl hz
        · generalize Q * y = Z at *
          refine .inr (.inr ⟨by omega, by omega, fun h => by first | exact h.elim | omega, fun _ => by omega⟩)
    · have e2 : y * Q = Q * y := Int.mul_comm _ _
      generalize Q * y = Z at *
      refine .inr (.inr ⟨by omega, by omega, fun _ => by omega, fun h => by first | exact h.elim | omega⟩)

theorem tmod_range (a : Int) : -2147483648 < a.tmod 2147483648 ∧ a.tmod 2147483648 < 2147483648 := by
  have h1 := Int.tmod_lt_of_pos a (show (0 : Int) < 2147483648 by omega)
  have h2 := Int.lt_tmod_of_pos a (show (0 : Int) < 2147483648 by omega)
  omega
theorem prod_small (x y : Int) (hx : -2147483648 < x ∧ x < 2147483648) (hy : -2147483648 < y ∧ y < 2147483648) : -4611686018427387904 < x * y ∧ x * y < 4611686018427387904 := by
  have h := Int.natAbs_mul x y
  have h2 := Nat.mul_le_mul (show x.natAbs ≤ 2147483647 by omega) (show y.natAbs ≤ 2147483647 by omega)
  rw [← h] at h2
  omega

set_option maxHeartbeats 8000000 in
theorem rounds_walk (a b x y P p q r : Int) (w : World) (hk : Kc w)
    (hx : a.tmod 2147483648 = x) (hy : b.tmod 2147483648 = y) (xb : -2147483648 < x ∧ x < 2147483648) (yb : -2147483648 < y ∧ y < 2147483648)
    (EP : IntKind.i64.wrap (x * y) = P) (Pb : -4611686018427387904 < P ∧ P < 4611686018427387904)
    (cs : ∀ W, Calls Tryd.prog 9 #[.int .i64 x, .int .i64 y] W fun e w' => e = .returned (.int .i64 (x + y)) ∧ w' = W)
    (cp : ∀ W, Calls Tryd.prog 10 #[.int .i64 x, .int .i64 y] W fun e w' => e = .returned (.int .i64 p) ∧ w' = W)
    (cq : ∀ W, Calls Tryd.prog 11 #[.int .i64 x, .int .i64 y] W fun e w' => e = .returned (.int .i64 q) ∧ W.grownBy w' none)
    (cr : ∀ W, Calls Tryd.prog 12 #[.int .i64 x] W fun e w' => e = .returned (.int .i64 r) ∧ w' = W)
    (HPy : Keep (y = 0 → P = 0)) (HP : Keep (RP P p)) (HQ : Keep (y ≠ 0 → RQ x y q)) (HR : Keep (RootI x r)) (r0 : 0 ≤ r) (r1 : r < 1099511627776) :
    Calls Tryd.prog 3 #[.int .i64 a, .int .i64 b] w fun e w' => e = .returned (.bool true) ∧ w.grownBy w' none := by
  have hne := neq_b
  have c0 := fixed_c w hk
  clear hk
  go_enter Tryd.func3, Tryd.ntmps3
  go_wp2_with fail
  refine c0.mono ?_
  rintro e w1 ⟨rfl, hg⟩
  have HG1 := Keep.mk hg
  clear hg c0
  go_wp2_with fail
  refine (cs _).mono ?_
  rintro e w' ⟨rfl, hw⟩; rw [hw]
  go_wp2_with fail
  refine (cp _).mono ?_
  rintro e w' ⟨rfl, hw⟩; rw [hw]
  clear cs cp
  rcases HP.out.or with ⟨hp, g1, g2⟩ | ⟨hp, g1, g2⟩ | ⟨hp1, hp2, g1, g2, g3, g4⟩
  · obtain rfl := hp
    by_cases yz : y = 0
    · clear cq
      have hP0 := HPy.out yz
      omega
    · clear HPy
      go_wp2_with fail
      refine (cq _).mono ?_
      rintro e w2 ⟨rfl, hg⟩
      have HG2 := Keep.mk (HG1.out.trans hg)
      clear hg cq
      rcases (HQ.out yz).or with hq | hq | ⟨hq1, hq2, hq3, hq4⟩
      · obtain rfl := hq
        go_wp2_with fail
        refine (cr _).mono ?_
        rintro e w' ⟨rfl, hw⟩; rw [hw]
        by_cases cx : x < 0
        · have hr := HR.out
          unfold RootI at hr
          rw [if_pos cx] at hr
          subst hr
          clear HR HP HQ
          go_wp2_with fail
          go_ret
          exact ⟨rfl, HG2.out⟩
        · have hr := HR.out
          unfold RootI at hr
          rw [if_neg cx] at hr
          have s1 := hr.le
          have s2 := hr.lt
          rw [Int.add_mul, Int.mul_add, Int.mul_one, Int.one_mul] at s2
          obtain ⟨S, hS⟩ : ∃ z, r * r = z := ⟨_, rfl⟩
          obtain ⟨S2, hS2⟩ : ∃ z, (r + 1) * (r + 1) = z := ⟨_, rfl⟩
          have hS3 : S2 = S + r + (r + 1) := by rw [← hS2, ← hS, Int.add_mul, Int.mul_add, Int.mul_one, Int.one_mul]
          rw [hS] at s1 s2
          have S0 : 0 ≤ S := by rw [← hS]; exact Int.mul_nonneg r0 r0
          have E5 : IntKind.i64.wrap (r * r) = S := by rw [hS, IntKind.wrap_i64]; omega
          have E6 : IntKind.i64.wrap ((r + 1) * (r + 1)) = S2 := by rw [hS2, IntKind.wrap_i64]; omega
          have s3 : x * 65536 < S2 := by omega
          clear HR HP HQ hr hS hS2 s2 hS3
          go_wp2_with fail
          go_ret
          exact ⟨rfl, HG2.out⟩
      · obtain rfl := hq
        go_wp2_with fail
        refine (cr _).mono ?_
        rintro e w' ⟨rfl, hw⟩; rw [hw]
        by_cases cx : x < 0
        · have hr := HR.out
          unfold RootI at hr
          rw [if_pos cx] at hr
          subst hr
          clear HR HP HQ
          go_wp2_with fail
          go_ret
          exact ⟨rfl, HG2.out⟩
        · have hr := HR.out
          unfold RootI at hr
          rw [if_neg cx] at hr
          have s1 := hr.le
          have s2 := hr.lt
          rw [Int.add_mul, Int.mul_add, Int.mul_one, Int.one_mul] at s2
          obtain ⟨S, hS⟩ : ∃ z, r * r = z := ⟨_, rfl⟩
          obtain ⟨S2, hS2⟩ : ∃ z, (r + 1) * (r + 1) = z := ⟨_, rfl⟩
          have hS3 : S2 = S + r + (r + 1) := by rw [← hS2, ← hS, Int.add_mul, Int.mul_add, Int.mul_one, Int.one_mul]
          rw [hS] at s1 s2
          have S0 : 0 ≤ S := by rw [← hS]; exact Int.mul_nonneg r0 r0
          have E5 : IntKind.i64.wrap (r * r) = S := by rw [hS, IntKind.wrap_i64]; omega
          have E6 : IntKind.i64.wrap ((r + 1) * (r + 1)) = S2 := by rw [hS2, IntKind.wrap_i64]; omega
          have s3 : x * 65536 < S2 := by omega
          clear HR HP HQ hr hS hS2 s2 hS3
          go_wp2_with fail
          go_ret
          exact ⟨rfl, HG2.out⟩
      · obtain ⟨Z, hZ⟩ : ∃ z, q * y = z := ⟨_, rfl⟩
        rw [hZ] at hq3 hq4
        by_cases yp : 0 < y
        · obtain ⟨z1, z2⟩ := hq3 yp
          obtain ⟨V, hV⟩ : ∃ z, x * 65536 - Z = z := ⟨_, rfl⟩
          rw [hV] at z1 z2
          have z3 : decide (V < 0) = false := by simp; omega
          have z4 : decide (y ≤ V) = false := by simp; omega
          have z6 : (decide (V < 0) || decide (y ≤ V)) = false := by rw [z3, z4]; rfl
          have z5 : ¬ y < 0 := by omega
          have EZ : IntKind.i64.wrap (q * y) = Z := by rw [hZ, IntKind.wrap_i64]; omega
          clear hq3 hq4 hZ
          go_wp2_with fail
          refine (cr _).mono ?_
          rintro e w' ⟨rfl, hw⟩; rw [hw]
          by_cases cx : x < 0
          · have hr := HR.out
            unfold RootI at hr
            rw [if_pos cx] at hr
            subst hr
            clear HR HP HQ
            go_wp2_with fail
            go_ret
            exact ⟨rfl, HG2.out⟩
          · have hr := HR.out
            unfold RootI at hr
            rw [if_neg cx] at hr
            have s1 := hr.le
            have s2 := hr.lt
            rw [Int.add_mul, Int.mul_add, Int.mul_one, Int.one_mul] at s2
            obtain ⟨S, hS⟩ : ∃ z, r * r = z := ⟨_, rfl⟩
            obtain ⟨S2, hS2⟩ : ∃ z, (r + 1) * (r + 1) = z := ⟨_, rfl⟩
            have hS3 : S2 = S + r + (r + 1) := by rw [← hS2, ← hS, Int.add_mul, Int.mul_add, Int.mul_one, Int.one_mul]
            rw [hS] at s1 s2
            have S0 : 0 ≤ S := by rw [← hS]; exact Int.mul_nonneg r0 r0
            have E5 : IntKind.i64.wrap (r * r) = S := by rw [hS, IntKind.wrap_i64]; omega
            have E6 : IntKind.i64.wrap ((r + 1) * (r + 1)) = S2 := by rw [hS2, IntKind.wrap_i64]; omega
            have s3 : x * 65536 < S2 := by omega
            clear HR HP HQ hr hS hS2 s2 hS3
            go_wp2_with fail
            go_ret
            exact ⟨rfl, HG2.out⟩
        · have yn : y < 0 := by omega
          obtain ⟨z1, z2⟩ := hq4 yn
          obtain ⟨V, hV⟩ : ∃ z, x * 65536 - Z = z := ⟨_, rfl⟩
          rw [hV] at z1 z2
          have z3 : decide (0 < V) = false := by simp; omega
          have z4 : decide (V ≤ y) = false := by simp; omega
          have z6 : (decide (0 < V) || decide (V ≤ y)) = false := by rw [z3, z4]; rfl
          have EZ : IntKind.i64.wrap (q * y) = Z := by rw [hZ, IntKind.wrap_i64]; omega
          clear hq3 hq4 hZ
          go_wp2_with fail
          refine (cr _).mono ?_
          rintro e w' ⟨rfl, hw⟩; rw [hw]
          by_cases cx : x < 0
          · have hr := HR.out
            unfold RootI at hr
            rw [if_pos cx] at hr
            subst hr
            clear HR HP HQ
            go_wp2_with fail
            go_ret
            exact ⟨rfl, HG2.out⟩
          · have hr := HR.out
            unfold RootI at hr
            rw [if_neg cx] at hr
            have s1 := hr.le
            have s2 := hr.lt
            rw [Int.add_mul, Int.mul_add, Int.mul_one, Int.one_mul] at s2
            obtain ⟨S, hS⟩ : ∃ z, r * r = z := ⟨_, rfl⟩
            obtain ⟨S2, hS2⟩ : ∃ z, (r + 1) * (r + 1) = z := ⟨_, rfl⟩
            have hS3 : S2 = S + r + (r + 1) := by rw [← hS2, ← hS, Int.add_mul, Int.mul_add, Int.mul_one, Int.one_mul]
            rw [hS] at s1 s2
            have S0 : 0 ≤ S := by rw [← hS]; exact Int.mul_nonneg r0 r0
            have E5 : IntKind.i64.wrap (r * r) = S := by rw [hS, IntKind.wrap_i64]; omega
            have E6 : IntKind.i64.wrap ((r + 1) * (r + 1)) = S2 := by rw [hS2, IntKind.wrap_i64]; omega
            have s3 : x * 65536 < S2 := by omega
            clear HR HP HQ hr hS hS2 s2 hS3
            go_wp2_with fail
            go_ret
            exact ⟨rfl, HG2.out⟩
  · obtain rfl := hp
    by_cases yz : y = 0
    · clear cq
      have hP0 := HPy.out yz
      omega
    · clear HPy
      go_wp2_with fail
      refine (cq _).mono ?_
      rintro e w2 ⟨rfl, hg⟩
      have HG2 := Keep.mk (HG1.out.trans hg)
      clear hg cq
      rcases (HQ.out yz).or with hq | hq | ⟨hq1, hq2, hq3, hq4⟩
      · obtain rfl := hq
        go_wp2_with fail
        refine (cr _).mono ?_
        rintro e w' ⟨rfl, hw⟩; rw [hw]
        by_cases cx : x < 0
        · have hr := HR.out
          unfold RootI at hr
          rw [if_pos cx] at hr
          subst hr
          clear HR HP HQ
          go_wp2_with fail
          go_ret
          exact ⟨rfl, HG2.out⟩
        · have hr := HR.out
          unfold RootI at hr
          rw [if_neg cx] at hr
          have s1 := hr.le
          have s2 := hr.lt
          rw [Int.add_mul, Int.mul_add, Int.mul_one, Int.one_mul] at s2
          obtain ⟨S, hS⟩ : ∃ z, r * r = z := ⟨_, rfl⟩
          obtain ⟨S2, hS2⟩ : ∃ z, (r + 1) * (r + 1) = z := ⟨_, rfl⟩
          have hS3 : S2 = S + r + (r + 1) := by rw [← hS2, ← hS, Int.add_mul, Int.mul_add, Int.mul_one, Int.one_mul]
          rw [hS] at s1 s2
          have S0 : 0 ≤ S := by rw [← hS]; exact Int.mul_nonneg r0 r0
          have E5 : IntKind.i64.wrap (r * r) = S := by rw [hS, IntKind.wrap_i64]; omega
          have E6 : IntKind.i64.wrap ((r + 1) * (r + 1)) = S2 := by rw [hS2, IntKind.wrap_i64]; omega
          have s3 : x * 65536 < S2 := by omega
          clear HR HP HQ hr hS hS2 s2 hS3
          go_wp2_with fail
          go_ret
          exact ⟨rfl, HG2.out⟩
      · obtain rfl := hq
        go_wp2_with fail
        refine (cr _).mono ?_
        rintro e w' ⟨rfl, hw⟩; rw [hw]
        by_cases cx : x < 0
        · have hr := HR.out
          unfold RootI at hr
          rw [if_pos cx] at hr
          subst hr
          clear HR HP HQ
          go_wp2_with fail
          go_ret
          exact ⟨rfl, HG2.out⟩
        · have hr := HR.out
          unfold RootI at hr
          rw [if_neg cx] at hr
          have s1 := hr.le
          have s2 := hr.lt
          rw [Int.add_mul, Int.mul_add, Int.mul_one, Int.one_mul] at s2
          obtain ⟨S, hS⟩ : ∃ z, r * r = z := ⟨_, rfl⟩
          obtain ⟨S2, hS2⟩ : ∃ z, (r + 1) * (r + 1) = z := ⟨_, rfl⟩
          have hS3 : S2 = S + r + (r + 1) := by rw [← hS2, ← hS, Int.add_mul, Int.mul_add, Int.mul_one, Int.one_mul]
          rw [hS] at s1 s2
          have S0 : 0 ≤ S := by rw [← hS]; exact Int.mul_nonneg r0 r0
          have E5 : IntKind.i64.wrap (r * r) = S := by rw [hS, IntKind.wrap_i64]; omega
          have E6 : IntKind.i64.wrap ((r + 1) * (r + 1)) = S2 := by rw [hS2, IntKind.wrap_i64]; omega
          have s3 : x * 65536 < S2 := by omega
          clear HR HP HQ hr hS hS2 s2 hS3
          go_wp2_with fail
          go_ret
          exact ⟨rfl, HG2.out⟩
      · obtain ⟨Z, hZ⟩ : ∃ z, q * y = z := ⟨_, rfl⟩
        rw [hZ] at hq3 hq4
        by_cases yp : 0 < y
        · obtain ⟨z1, z2⟩ := hq3 yp
          obtain ⟨V, hV⟩ : ∃ z, x * 65536 - Z = z := ⟨_, rfl⟩
          rw [hV] at z1 z2
          have z3 : decide (V < 0) = false := by simp; omega
          have z4 : decide (y ≤ V) = false := by simp; omega
          have z6 : (decide (V < 0) || decide (y ≤ V)) = false := by rw [z3, z4]; rfl
          have z5 : ¬ y < 0 := by omega
          have EZ : IntKind.i64.wrap (q * y) = Z := by rw [hZ, IntKind.wrap_i64]; omega
          clear hq3 hq4 hZ
          go_wp2_with fail
          refine (cr _).mono ?_
          rintro e w' ⟨rfl, hw⟩; rw [hw]
          by_cases cx : x < 0
          · have hr := HR.out
            unfold RootI at hr
            rw [if_pos cx] at hr
            subst hr
            clear HR HP HQ
            go_wp2_with fail
            go_ret
            exact ⟨rfl, HG2.out⟩
          · have hr := HR.out
            unfold RootI at hr
            rw [if_neg cx] at hr
            have s1 := hr.le
            have s2 := hr.lt
            rw [Int.add_mul, Int.mul_add, Int.mul_one, Int.one_mul] at s2
            obtain ⟨S, hS⟩ : ∃ z, r * r = z := ⟨_, rfl⟩
            obtain ⟨S2, hS2⟩ : ∃ z, (r + 1) * (r + 1) = z := ⟨_, rfl⟩
            have hS3 : S2 = S + r + (r + 1) := by rw [← hS2, ← hS, Int.add_mul, Int.mul_add, Int.mul_one, Int.one_mul]
            rw [hS] at s1 s2
            have S0 : 0 ≤ S := by rw [← hS]; exact Int.mul_nonneg r0 r0
            have E5 : IntKind.i64.wrap (r * r) = S := by rw [hS, IntKind.wrap_i64]; omega
            have E6 : IntKind.i64.wrap ((r + 1) * (r + 1)) = S2 := by rw [hS2, IntKind.wrap_i64]; omega
            have s3 : x * 65536 < S2 := by omega
            clear HR HP HQ hr hS hS2 s2 hS3
            go_wp2_with fail
            go_ret
            exact ⟨rfl, HG2.out⟩
        · have yn : y < 0 := by omega
          obtain ⟨z1, z2⟩ := hq4 yn
          obtain ⟨V, hV⟩ : ∃ z, x * 65536 - Z = z := ⟨_, rfl⟩
          rw [hV] at z1 z2
          have z3 : decide (0 < V) = false := by simp; omega
          have z4 : decide (V ≤ y) = false := by simp; omega
          have z6 : (decide (0 < V) || decide (V ≤ y)) = false := by rw [z3, z4]; rfl
          have EZ : IntKind.i64.wrap (q * y) = Z := by rw [hZ, IntKind.wrap_i64]; omega
          clear hq3 hq4 hZ
          go_wp2_with fail
          refine (cr _).mono ?_
          rintro e w' ⟨rfl, hw⟩; rw [hw]
          by_cases cx : x < 0
          · have hr := HR.out
            unfold RootI at hr
            rw [if_pos cx] at hr
            subst hr
            clear HR HP HQ
            go_wp2_with fail
            go_ret
            exact ⟨rfl, HG2.out⟩
          · have hr := HR.out
            unfold RootI at hr
            rw [if_neg cx] at hr
            have s1 := hr.le
            have s2 := hr.lt
            rw [Int.add_mul, Int.mul_add, Int.mul_one, Int.one_mul] at s2
            obtain ⟨S, hS⟩ : ∃ z, r * r = z := ⟨_, rfl⟩
            obtain ⟨S2, hS2⟩ : ∃ z, (r + 1) * (r + 1) = z := ⟨_, rfl⟩
            have hS3 : S2 = S + r + (r + 1) := by rw [← hS2, ← hS, Int.add_mul, Int.mul_add, Int.mul_one, Int.one_mul]
            rw [hS] at s1 s2
            have S0 : 0 ≤ S := by rw [← hS]; exact Int.mul_nonneg r0 r0
            have E5 : IntKind.i64.wrap (r * r) = S := by rw [hS, IntKind.wrap_i64]; omega
            have E6 : IntKind.i64.wrap ((r + 1) * (r + 1)) = S2 := by rw [hS2, IntKind.wrap_i64]; omega
            have s3 : x * 65536 < S2 := by omega
            clear HR HP HQ hr hS hS2 s2 hS3
            go_wp2_with fail
            go_ret
            exact ⟨rfl, HG2.out⟩
  · obtain ⟨D, hD⟩ : ∃ z, P - p * 65536 = z := ⟨_, rfl⟩
    rw [hD] at g1 g2
    have e1 : decide (D < 0) = false := by simp; omega
    have e2 : decide (65536 ≤ D) = false := by simp; omega
    have e3 : (decide (D < 0) || decide (65536 ≤ D)) = false := by rw [e1, e2]; rfl
    have n1 : (p == 1099511627776) = false := by simp; omega
    have n2 : (p == -1099511627776) = false := by simp; omega
    have n3 : decide (72057594037927936 ≤ P) = false := by simp; omega
    have n4 : decide (P < -72057594037862400) = false := by simp; omega
    by_cases yz : y = 0
    · clear cq
      have hP0 := HPy.out yz
      have hp0 : p = 0 := by omega
      subst hP0
      subst hp0
      subst yz
      obtain rfl : D = 0 := by omega
      clear HPy n1 n2 n3 n4 g1 g2 g3 g4 hp1 hp2 e1 e2 e3
      go_wp2_with fail
      refine (cr _).mono ?_
      rintro e w' ⟨rfl, hw⟩; rw [hw]
      by_cases cx : x < 0
      · have hr := HR.out
        unfold RootI at hr
        rw [if_pos cx] at hr
        subst hr
        clear HR HP HQ
        go_wp2_with fail
        go_ret
        exact ⟨rfl, HG1.out⟩
      · have hr := HR.out
        unfold RootI at hr
        rw [if_neg cx] at hr
        have s1 := hr.le
        have s2 := hr.lt
        rw [Int.add_mul, Int.mul_add, Int.mul_one, Int.one_mul] at s2
        obtain ⟨S, hS⟩ : ∃ z, r * r = z := ⟨_, rfl⟩
        obtain ⟨S2, hS2⟩ : ∃ z, (r + 1) * (r + 1) = z := ⟨_, rfl⟩
        have hS3 : S2 = S + r + (r + 1) := by rw [← hS2, ← hS, Int.add_mul, Int.mul_add, Int.mul_one, Int.one_mul]
        rw [hS] at s1 s2
        have S0 : 0 ≤ S := by rw [← hS]; exact Int.mul_nonneg r0 r0
        have E5 : IntKind.i64.wrap (r * r) = S := by rw [hS, IntKind.wrap_i64]; omega
        have E6 : IntKind.i64.wrap ((r + 1) * (r + 1)) = S2 := by rw [hS2, IntKind.wrap_i64]; omega
        have s3 : x * 65536 < S2 := by omega
        clear HR HP HQ hr hS hS2 s2 hS3
        go_wp2_with fail
        go_ret
        exact ⟨rfl, HG1.out⟩
    · clear HPy
      go_wp2_with fail
      refine (cq _).mono ?_
      rintro e w2 ⟨rfl, hg⟩
      have HG2 := Keep.mk (HG1.out.trans hg)
      clear hg cq
      rcases (HQ.out yz).or with hq | hq | ⟨hq1, hq2, hq3, hq4⟩
      · obtain rfl := hq
        go_wp2_with fail
        refine (cr _).mono ?_
        rintro e w' ⟨rfl, hw⟩; rw [hw]
        by_cases cx : x < 0
        · have hr := HR.out
          unfold RootI at hr
          rw [if_pos cx] at hr
          subst hr
          clear HR HP HQ
          go_wp2_with fail
          go_ret
          exact ⟨rfl, HG2.out⟩
        · have hr := HR.out
          unfold RootI at hr
          rw [if_neg cx] at hr
          have s1 := hr.le
          have s2 := hr.lt
          rw [Int.add_mul, Int.mul_add, Int.mul_one, Int.one_mul] at s2
          obtain ⟨S, hS⟩ : ∃ z, r * r = z := ⟨_, rfl⟩
          obtain ⟨S2, hS2⟩ : ∃ z, (r + 1) * (r + 1) = z := ⟨_, rfl⟩
          have hS3 : S2 = S + r + (r + 1) := by rw [← hS2, ← hS, Int.add_mul, Int.mul_add, Int.mul_one, Int.one_mul]
          rw [hS] at s1 s2
          have S0 : 0 ≤ S := by rw [← hS]; exact Int.mul_nonneg r0 r0
          have E5 : IntKind.i64.wrap (r * r) = S := by rw [hS, IntKind.wrap_i64]; omega
          have E6 : IntKind.i64.wrap ((r + 1) * (r + 1)) = S2 := by rw [hS2, IntKind.wrap_i64]; omega
          have s3 : x * 65536 < S2 := by omega
          clear HR HP HQ hr hS hS2 s2 hS3
          go_wp2_with fail
          go_ret
          exact ⟨rfl, HG2.out⟩
      · obtain rfl := hq
        go_wp2_with fail
        refine (cr _).mono ?_
        rintro e w' ⟨rfl, hw⟩; rw [hw]
        by_cases cx : x < 0
        · have hr := HR.out
          unfold RootI at hr
          rw [if_pos cx] at hr
          subst hr
          clear HR HP HQ
          go_wp2_with fail
          go_ret
          exact ⟨rfl, HG2.out⟩
        · have hr := HR.out
          unfold RootI at hr
          rw [if_neg cx] at hr
          have s1 := hr.le
          have s2 := hr.lt
          rw [Int.add_mul, Int.mul_add, Int.mul_one, Int.one_mul] at s2
          obtain ⟨S, hS⟩ : ∃ z, r * r = z := ⟨_, rfl⟩
          obtain ⟨S2, hS2⟩ : ∃ z, (r + 1) * (r + 1) = z := ⟨_, rfl⟩
          have hS3 : S2 = S + r + (r + 1) := by rw [← hS2, ← hS, Int.add_mul, Int.mul_add, Int.mul_one, Int.one_mul]
          rw [hS] at s1 s2
          have S0 : 0 ≤ S := by rw [← hS]; exact Int.mul_nonneg r0 r0
          have E5 : IntKind.i64.wrap (r * r) = S := by rw [hS, IntKind.wrap_i64]; omega
          have E6 : IntKind.i64.wrap ((r + 1) * (r + 1)) = S2 := by rw [hS2, IntKind.wrap_i64]; omega
          have s3 : x * 65536 < S2 := by omega
          clear HR HP HQ hr hS hS2 s2 hS3
          go_wp2_with fail
          go_ret
          exact ⟨rfl, HG2.out⟩
      · obtain ⟨Z, hZ⟩ : ∃ z, q * y = z := ⟨_, rfl⟩
        rw [hZ] at hq3 hq4
        by_cases yp : 0 < y
        · obtain ⟨z1, z2⟩ := hq3 yp
          obtain ⟨V, hV⟩ : ∃ z, x * 65536 - Z = z := ⟨_, rfl⟩
          rw [hV] at z1 z2
          have z3 : decide (V < 0) = false := by simp; omega
          have z4 : decide (y ≤ V) = false := by simp; omega
          have z6 : (decide (V < 0) || decide (y ≤ V)) = false := by rw [z3, z4]; rfl
          have z5 : ¬ y < 0 := by omega
          have EZ : IntKind.i64.wrap (q * y) = Z := by rw [hZ, IntKind.wrap_i64]; omega
          clear hq3 hq4 hZ
          go_wp2_with fail
          refine (cr _).mono ?_
          rintro e w' ⟨rfl, hw⟩; rw [hw]
          by_cases cx : x < 0
          · have hr := HR.out
            unfold RootI at hr
            rw [if_pos cx] at hr
            subst hr
            clear HR HP HQ
            go_wp2_with fail
            go_ret
            exact ⟨rfl, HG2.out⟩
          · have hr := HR.out
            unfold RootI at hr
            rw [if_neg cx] at hr
            have s1 := hr.le
            have s2 := hr.lt
            rw [Int.add_mul, Int.mul_add, Int.mul_one, Int.one_mul] at s2
            obtain ⟨S, hS⟩ : ∃ z, r * r = z := ⟨_, rfl⟩
            obtain ⟨S2, hS2⟩ : ∃ z, (r + 1) * (r + 1) = z := ⟨_, rfl⟩
            have hS3 : S2 = S + r + (r + 1) := by rw [← hS2, ← hS, Int.add_mul, Int.mul_add, Int.mul_one, Int.one_mul]
            rw [hS] at s1 s2
            have S0 : 0 ≤ S := by rw [← hS]; exact Int.mul_nonneg r0 r0
            have E5 : IntKind.i64.wrap (r * r) = S := by rw [hS, IntKind.wrap_i64]; omega
            have E6 : IntKind.i64.wrap ((r + 1) * (r + 1)) = S2 := by rw [hS2, IntKind.wrap_i64]; omega
            have s3 : x * 65536 < S2 := by omega
            clear HR HP HQ hr hS hS2 s2 hS3
            go_wp2_with fail
            go_ret
            exact ⟨rfl, HG2.out⟩
        · have yn : y < 0 := by omega
          obtain ⟨z1, z2⟩ := hq4 yn
          obtain ⟨V, hV⟩ : ∃ z, x * 65536 - Z = z := ⟨_, rfl⟩
          rw [hV] at z1 z2
          have z3 : decide (0 < V) = false := by simp; omega
          have z4 : decide (V ≤ y) = false := by simp; omega
          have z6 : (decide (0 < V) || decide (V ≤ y)) = false := by rw [z3, z4]; rfl
          have EZ : IntKind.i64.wrap (q * y) = Z := by rw [hZ, IntKind.wrap_i64]; omega
          clear hq3 hq4 hZ
          go_wp2_with fail
          refine (cr _).mono ?_
          rintro e w' ⟨rfl, hw⟩; rw [hw]
          by_cases cx : x < 0
          · have hr := HR.out
            unfold RootI at hr
            rw [if_pos cx] at hr
            subst hr
            clear HR HP HQ
            go_wp2_with fail
            go_ret
            exact ⟨rfl, HG2.out⟩
          · have hr := HR.out
            unfold RootI at hr
            rw [if_neg cx] at hr
            have s1 := hr.le
            have s2 := hr.lt
            rw [Int.add_mul, Int.mul_add, Int.mul_one, Int.one_mul] at s2
            obtain ⟨S, hS⟩ : ∃ z, r * r = z := ⟨_, rfl⟩
            obtain ⟨S2, hS2⟩ : ∃ z, (r + 1) * (r + 1) = z := ⟨_, rfl⟩
            have hS3 : S2 = S + r + (r + 1) := by rw [← hS2, ← hS, Int.add_mul, Int.mul_add, Int.mul_one, Int.one_mul]
            rw [hS] at s1 s2
            have S0 : 0 ≤ S := by rw [← hS]; exact Int.mul_nonneg r0 r0
            have E5 : IntKind.i64.wrap (r * r) = S := by rw [hS, IntKind.wrap_i64]; omega
            have E6 : IntKind.i64.wrap ((r + 1) * (r + 1)) = S2 := by rw [hS2, IntKind.wrap_i64]; omega
            have s3 : x * 65536 < S2 := by omega
            clear HR HP HQ hr hS hS2 s2 hS3
            go_wp2_with fail
            go_ret
            exact ⟨rfl, HG2.out⟩

theorem rounds_any (a b : Int) (_ha : In a) (_hb : In b) (w : World) (hk : Kc w) :
    Calls Tryd.prog 3 #[.int .i64 a, .int .i64 b] w fun e w' => e = .returned (.bool true) ∧ w.grownBy w' none := by
  have xb := tmod_range a
  have yb := tmod_range b
  have hx : In (a.tmod 2147483648) := by unfold In; omega
  have hy : In (b.tmod 2147483648) := by unfold In; omega
  have Pb := prod_small _ _ xb yb
  have rr := root_range (a.tmod 2147483648) hx
  have hs : addZ (a.tmod 2147483648) (b.tmod 2147483648) = a.tmod 2147483648 + b.tmod 2147483648 := by
    unfold addZ; rw [bd_eq]; (repeat' split) <;> omega
  have hroot : RootI (a.tmod 2147483648) (rootZ (a.tmod 2147483648)) := by
    unfold RootI
    by_cases c : a.tmod 2147483648 < 0
    · rw [if_pos c]; exact rootZ_neg c
    · rw [if_neg c]
      obtain ⟨r, hr, _⟩ := root_is _ c hx
      rw [rootZ_of c hr]; exact hr
  have cs := fun W => add_c _ _ hx hy W
  rw [hs] at cs
  exact rounds_walk a b _ _ _ _ _ _ w hk rfl rfl xb yb (by rw [IntKind.wrap_i64]; omega) Pb cs (fun W => mul_c _ _ hx hy W) (fun W => div_c _ _ hx hy W) (fun W => root_c _ hx W) ⟨fun h => by rw [h, Int.mul_zero]⟩ ⟨rp_of _⟩ ⟨fun h => rq_of _ _ h⟩ ⟨hroot⟩ rr.1 rr.2
end Go.Proofs.YtkfkhjafhlafhaaDoor
