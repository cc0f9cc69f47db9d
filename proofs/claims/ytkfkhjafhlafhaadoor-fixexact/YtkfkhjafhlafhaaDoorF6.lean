/- math/bits: Div64: the walk of the long way -/
import Derived.Test.YtkfkhjafhlafhaaDoorF5
namespace Go.Proofs.YtkfkhjafhlafhaaDoor
open Go Go.RowKit

set_option maxHeartbeats 8000000 in
set_option maxRecDepth 100000 in
theorem div64_walk (hi lo y Y y1 y0 u L u1 u0 : Int) (s : Nat) (w : World) (h1 : 0 < hi) (h2 : hi < y) (_h3 : y < 18446744073709551616) (_l0 : 0 ≤ lo) (_l1 : lo < 18446744073709551616)
    (hs : s < 64) (c : Calls Tryd.prog 41 #[.int .u64 y] w fun e w' => e = .returned (.int .i64 s) ∧ w' = w)
    (E1 : IntKind.u64.wrap (y * 2 ^ s) = Y) (E2 : Y / 4294967296 = y1) (E3 : bits .and .u64 Y 4294967295 = y0)
    (E4 : bits .or .u64 (IntKind.u64.wrap (hi * 2 ^ s)) (lo / 2 ^ (64 - s)) = u) (E5 : IntKind.u64.wrap (lo * 2 ^ s) = L)
    (E6 : L / 4294967296 = u1) (E7 : bits .and .u64 L 4294967295 = u0)
    (Y0 : 0 ≤ Y) (Y1 : Y < 18446744073709551616) (b0 : 0 ≤ u0) (b1 : u0 < 4294967296) (HD : Keep (Dg u u1 Y y1 y0)) :
    Calls Tryd.prog 34 #[.int .u64 hi, .int .u64 lo, .int .u64 y] w fun e w' => e = .returned (.tuple #[.int .u64 ((u * 4294967296 + u1) / Y * 4294967296 + ((u * 4294967296 + u1) % Y * 4294967296 + u0) / Y), .int .u64 (((u * 4294967296 + u1) % Y * 4294967296 + u0) % Y / 2 ^ s)]) ∧ w' = w := by
  have d := HD.out
  have ub := d.u0
  have ut := d.uY
  have y1b := d.y10
  have y1t := d.y11
  have y0b := d.y00
  have y0t := d.y01
  have u1b := d.u10
  have u1t := d.u11
  have hI := d.first
  obtain ⟨q, hq⟩ : ∃ q, u / y1 = q := ⟨_, rfl⟩
  obtain ⟨r, hr⟩ : ∃ r, u % y1 = r := ⟨_, rfl⟩
  obtain ⟨P, hP⟩ : ∃ P, q * y1 = P := ⟨_, rfl⟩
  rw [hq, hr] at hI
  have rt : r < y1 := by rw [← hr]; exact Int.emod_lt_of_pos _ (by omega)
  have he := hI.eq
  have q0 := hI.q0
  have r0 := hI.r0
  rw [hP] at he
  have qt : q < 18446744073709551616 := by
    have := Int.ediv_le_self y1 ub
    omega
  have P0 : 0 ≤ P := by rw [← hP]; exact Int.mul_nonneg q0 (by omega)
  have E8 : u / y1 = q := hq
  have E9 : IntKind.u64.wrap (q * y1) = P := by rw [hP, IntKind.wrap_u64]; omega
  have E10 : u - P = r := by omega
  have y1z : ¬ y1 = 0 := by omega
  have HI := Keep.mk hI
  have yz : ¬ y = 0 := by omega
  have yle : ¬ y ≤ hi := by omega
  have hz : ¬ hi = 0 := by omega
  have ut2 : u < 18446744073709551616 := by omega
  have rt2 : r < 4294967296 := by omega
  clear hI d hq hr hP he rt ut
  go_enter Tryd.func34, Tryd.ntmps34
  go_wp2_with (go_at_call 41; refine c.mono ?_; rintro e w' ⟨rfl, hw⟩; rw [hw])
  go_loopw [15, 16] (fun s15 s16 w' => ∃ q r : Int, 0 ≤ q ∧ q < 18446744073709551616 ∧ 0 ≤ r ∧ r < 4294967296 ∧ s15 = .int .u64 q ∧ s16 = .int .u64 r ∧ w' = w ∧ Keep (DgI u u1 Y y1 q r)) (fun s15 _ _ => (intOf s15).toNat)
  case atStart => exact ⟨q, r, q0, qt, r0, rt2, by first | rfl | rw [E8], by first | rfl | (rw [E8]; done) | trace_state, rfl, HI⟩
  case round =>
    clear E8 E9 E10 HI rt2 q0 r0 qt
    obtain ⟨q, r, q0, qt, r0, rt, rfl, rfl, rfl, HI⟩ := hrel
    by_cases c1 : 4294967296 ≤ q
    · obtain ⟨k1, k2⟩ := HI.out.step HD.out (.inl c1)
      have HS := Keep.mk k2
      clear k2
      by_cases c2 : r + y1 < 4294967296
      · clear HI
        go_wp2
        refine ⟨⟨q - 1, r + y1, by omega, by omega, by omega, by omega, rfl, rfl, trivial, HS⟩, ?_⟩
        simp only [intOf]; omega
      · obtain ⟨qx, hqx⟩ : ∃ z, q - 1 = z := ⟨_, rfl⟩
        rw [hqx] at HS
        have HQ : Keep (qx = (u * 4294967296 + u1) / Y) := ⟨HS.out.exit2 HD.out (by omega)⟩
        clear HI HS
        have d := HD.out
        obtain ⟨f1, f2, f3, f4, f5⟩ := d.digit
        rw [← HQ.out] at f1 f2 f5
        obtain ⟨R, hR⟩ : ∃ z, (u * 4294967296 + u1) % Y = z := ⟨_, rfl⟩
        have d2 := d.next u0 b0 b1
        rw [hR] at f3 f4 f5 d2
        have HD2 := Keep.mk d2
        obtain ⟨A1, hA1⟩ : ∃ z, IntKind.u64.wrap (u * 4294967296) = z := ⟨_, rfl⟩
        obtain ⟨A2, hA2⟩ : ∃ z, IntKind.u64.wrap (A1 + u1) = z := ⟨_, rfl⟩
        obtain ⟨A3, hA3⟩ : ∃ z, IntKind.u64.wrap (qx * Y) = z := ⟨_, rfl⟩
        have hA4 : IntKind.u64.wrap (A2 - A3) = R := by
          rw [← hA2, ← hA1, ← hA3]
          simp only [IntKind.wrap_u64]
          have f5' := f5
          generalize qx * Y = T at f5' ⊢
          omega
        have hI2 := d2.first
        obtain ⟨q2, hq2⟩ : ∃ z, R / y1 = z := ⟨_, rfl⟩
        obtain ⟨r2, hr2⟩ : ∃ z, R % y1 = z := ⟨_, rfl⟩
        obtain ⟨P2, hP2⟩ : ∃ z, q2 * y1 = z := ⟨_, rfl⟩
        rw [hq2, hr2] at hI2
        have rt2 : r2 < y1 := by rw [← hr2]; exact Int.emod_lt_of_pos _ (by omega)
        have he2 := hI2.eq
        have q20 := hI2.q0
        have r20 := hI2.r0
        rw [hP2] at he2
        have q2t : q2 < 18446744073709551616 := by
          have := Int.ediv_le_self y1 f3
          omega
        have P20 : 0 ≤ P2 := by rw [← hP2]; exact Int.mul_nonneg q20 (by omega)
        have F9 : IntKind.u64.wrap (q2 * y1) = P2 := by rw [hP2, IntKind.wrap_u64]; omega
        have F10 : R - P2 = r2 := by omega
        have r2t : r2 < 4294967296 := by omega
        have HI2 := Keep.mk hI2
        have F8 : R / y1 = q2 := hq2
        have Rt : R < 18446744073709551616 := by omega
        have qv0 : 0 ≤ qx := f1
        have qvt : qx < 4294967296 := f2
        have HR := Keep.mk hR
        clear hI2 d d2 hr2 hP2 he2 rt2 hR f5 f4 hq2
        go_wp2
        rename World => wo
        go_loopw [18, 16] (fun s18 s16 w' => ∃ q r : Int, 0 ≤ q ∧ q < 18446744073709551616 ∧ 0 ≤ r ∧ r < 4294967296 ∧ s18 = .int .u64 q ∧ s16 = .int .u64 r ∧ w' = wo ∧ Keep (DgI R u0 Y y1 q r)) (fun s18 _ _ => (intOf s18).toNat)
        case atStart => exact ⟨q2, r2, q20, q2t, r20, r2t, by first | rfl | rw [F8], by first | rfl | (rw [F8]; done) | trace_state, rfl, HI2⟩
        case round =>
          clear F8 F9 F10 HI2 r2t q20 r20 q2t hA1 hA2 hA3 hA4
          obtain ⟨q3, r3, q30, q3t, r30, r3t, rfl, rfl, rfl, HI⟩ := hrel
          by_cases c1 : 4294967296 ≤ q3
          · obtain ⟨k1, k2⟩ := HI.out.step HD2.out (.inl c1)
            have HS := Keep.mk k2
            clear k2
            by_cases c2 : r3 + y1 < 4294967296
            · clear HI HQ HR
              go_wp2
              refine ⟨⟨q3 - 1, r3 + y1, by omega, by omega, by omega, by omega, rfl, rfl, trivial, HS⟩, ?_⟩
              simp only [intOf]; omega
            · obtain ⟨q4, hq4⟩ : ∃ z, q3 - 1 = z := ⟨_, rfl⟩
              rw [hq4] at HS
              have HF : Keep (q4 = (R * 4294967296 + u0) / Y) := ⟨HS.out.exit2 HD2.out (by omega)⟩
              have d2 := HD2.out
              obtain ⟨f1, f2, f3, f4, f5⟩ := d2.digit
              rw [← HF.out] at f1 f2 f5
              obtain ⟨R0, hR0⟩ : ∃ z, (R * 4294967296 + u0) % Y = z := ⟨_, rfl⟩
              rw [hR0] at f3 f4 f5
              obtain ⟨B1, hB1⟩ : ∃ z, IntKind.u64.wrap (R * 4294967296) = z := ⟨_, rfl⟩
              obtain ⟨B2, hB2⟩ : ∃ z, IntKind.u64.wrap (B1 + u0) = z := ⟨_, rfl⟩
              obtain ⟨B3, hB3⟩ : ∃ z, IntKind.u64.wrap (q4 * Y) = z := ⟨_, rfl⟩
              have hB4 : IntKind.u64.wrap (B2 - B3) = R0 := by
                rw [← hB2, ← hB1, ← hB3]
                simp only [IntKind.wrap_u64]
                have f5' := f5
                generalize q4 * Y = T at f5' ⊢
                omega
              have KF := Keep.mk (And.intro HQ.out (And.intro HR.out (And.intro HF.out hR0)))
              clear f5 d2 hR0
              clear HQ HF HR HD HD2 HI HS
              go_wp2
              go_ret2
              rw [KF.out.2.1, KF.out.2.2.2, ← KF.out.1, ← KF.out.2.2.1]
              exact ⟨rfl, rfl⟩
          · obtain ⟨T, hT⟩ : ∃ z, q3 * y0 = z := ⟨_, rfl⟩
            have T0 : 0 ≤ T := by rw [← hT]; exact Int.mul_nonneg q30 y0b
            have T1 : T < 18446744073709551616 := by
              have h1 := Int.mul_le_mul_of_nonneg_right (show q3 ≤ 4294967295 by omega) y0b
              rw [hT] at h1
              omega
            have E11 : IntKind.u64.wrap (q3 * y0) = T := by rw [hT, IntKind.wrap_u64]; omega
            by_cases c3 : 4294967296 * r3 + u0 < T
            · obtain ⟨k1, k2⟩ := HI.out.step HD2.out (.inr (by rw [hT]; exact c3))
              have HS := Keep.mk k2
              clear k2
              by_cases c2 : r3 + y1 < 4294967296
              · clear HI hT HQ HR
                go_wp2
                refine ⟨⟨q3 - 1, r3 + y1, by omega, by omega, by omega, by omega, rfl, rfl, trivial, HS⟩, ?_⟩
                simp only [intOf]; omega
              · obtain ⟨q4, hq4⟩ : ∃ z, q3 - 1 = z := ⟨_, rfl⟩
                rw [hq4] at HS
                clear hT
                have HF : Keep (q4 = (R * 4294967296 + u0) / Y) := ⟨HS.out.exit2 HD2.out (by omega)⟩
                have d2 := HD2.out
                obtain ⟨f1, f2, f3, f4, f5⟩ := d2.digit
                rw [← HF.out] at f1 f2 f5
                obtain ⟨R0, hR0⟩ : ∃ z, (R * 4294967296 + u0) % Y = z := ⟨_, rfl⟩
                rw [hR0] at f3 f4 f5
                obtain ⟨B1, hB1⟩ : ∃ z, IntKind.u64.wrap (R * 4294967296) = z := ⟨_, rfl⟩
                obtain ⟨B2, hB2⟩ : ∃ z, IntKind.u64.wrap (B1 + u0) = z := ⟨_, rfl⟩
                obtain ⟨B3, hB3⟩ : ∃ z, IntKind.u64.wrap (q4 * Y) = z := ⟨_, rfl⟩
                have hB4 : IntKind.u64.wrap (B2 - B3) = R0 := by
                  rw [← hB2, ← hB1, ← hB3]
                  simp only [IntKind.wrap_u64]
                  have f5' := f5
                  generalize q4 * Y = T at f5' ⊢
                  omega
                have KF := Keep.mk (And.intro HQ.out (And.intro HR.out (And.intro HF.out hR0)))
                clear f5 d2 hR0
                clear HQ HF HR HD HD2 HI HS
                go_wp2
                go_ret2
                rw [KF.out.2.1, KF.out.2.2.2, ← KF.out.1, ← KF.out.2.2.1]
                exact ⟨rfl, rfl⟩
            · have HX := Keep.mk (HI.out.exit HD2.out (by rw [hT]; omega))
              clear hT
              have HF : Keep (q3 = (R * 4294967296 + u0) / Y) := ⟨HX.out⟩
              have d2 := HD2.out
              obtain ⟨f1, f2, f3, f4, f5⟩ := d2.digit
              rw [← HF.out] at f1 f2 f5
              obtain ⟨R0, hR0⟩ : ∃ z, (R * 4294967296 + u0) % Y = z := ⟨_, rfl⟩
              rw [hR0] at f3 f4 f5
              obtain ⟨B1, hB1⟩ : ∃ z, IntKind.u64.wrap (R * 4294967296) = z := ⟨_, rfl⟩
              obtain ⟨B2, hB2⟩ : ∃ z, IntKind.u64.wrap (B1 + u0) = z := ⟨_, rfl⟩
              obtain ⟨B3, hB3⟩ : ∃ z, IntKind.u64.wrap (q3 * Y) = z := ⟨_, rfl⟩
              have hB4 : IntKind.u64.wrap (B2 - B3) = R0 := by
                rw [← hB2, ← hB1, ← hB3]
                simp only [IntKind.wrap_u64]
                have f5' := f5
                generalize q3 * Y = T at f5' ⊢
                omega
              have KF := Keep.mk (And.intro HQ.out (And.intro HR.out (And.intro HF.out hR0)))
              clear f5 d2 hR0
              clear HQ HF HR HD HD2 HI HX
              go_wp2
              go_ret2
              rw [KF.out.2.1, KF.out.2.2.2, ← KF.out.1, ← KF.out.2.2.1]
              exact ⟨rfl, rfl⟩
    · obtain ⟨T, hT⟩ : ∃ z, q * y0 = z := ⟨_, rfl⟩
      have T0 : 0 ≤ T := by rw [← hT]; exact Int.mul_nonneg q0 y0b
      have T1 : T < 18446744073709551616 := by
        have h1 := Int.mul_le_mul_of_nonneg_right (show q ≤ 4294967295 by omega) y0b
        rw [hT] at h1
        omega
      have E11 : IntKind.u64.wrap (q * y0) = T := by rw [hT, IntKind.wrap_u64]; omega
      by_cases c3 : 4294967296 * r + u1 < T
      · obtain ⟨k1, k2⟩ := HI.out.step HD.out (.inr (by rw [hT]; exact c3))
        have HS := Keep.mk k2
        clear k2
        by_cases c2 : r + y1 < 4294967296
        · clear HI hT
          go_wp2
          refine ⟨⟨q - 1, r + y1, by omega, by omega, by omega, by omega, rfl, rfl, trivial, HS⟩, ?_⟩
          simp only [intOf]; omega
        · obtain ⟨qx, hqx⟩ : ∃ z, q - 1 = z := ⟨_, rfl⟩
          rw [hqx] at HS
          clear hT
          have HQ : Keep (qx = (u * 4294967296 + u1) / Y) := ⟨HS.out.exit2 HD.out (by omega)⟩
          clear HI HS
          have d := HD.out
          obtain ⟨f1, f2, f3, f4, f5⟩ := d.digit
          rw [← HQ.out] at f1 f2 f5
          obtain ⟨R, hR⟩ : ∃ z, (u * 4294967296 + u1) % Y = z := ⟨_, rfl⟩
          have d2 := d.next u0 b0 b1
          rw [hR] at f3 f4 f5 d2
          have HD2 := Keep.mk d2
          obtain ⟨A1, hA1⟩ : ∃ z, IntKind.u64.wrap (u * 4294967296) = z := ⟨_, rfl⟩
          obtain ⟨A2, hA2⟩ : ∃ z, IntKind.u64.wrap (A1 + u1) = z := ⟨_, rfl⟩
          obtain ⟨A3, hA3⟩ : ∃ z, IntKind.u64.wrap (qx * Y) = z := ⟨_, rfl⟩
          have hA4 : IntKind.u64.wrap (A2 - A3) = R := by
            rw [← hA2, ← hA1, ← hA3]
            simp only [IntKind.wrap_u64]
            have f5' := f5
            generalize qx * Y = T at f5' ⊢
            omega
          have hI2 := d2.first
          obtain ⟨q2, hq2⟩ : ∃ z, R / y1 = z := ⟨_, rfl⟩
          obtain ⟨r2, hr2⟩ : ∃ z, R % y1 = z := ⟨_, rfl⟩
          obtain ⟨P2, hP2⟩ : ∃ z, q2 * y1 = z := ⟨_, rfl⟩
          rw [hq2, hr2] at hI2
          have rt2 : r2 < y1 := by rw [← hr2]; exact Int.emod_lt_of_pos _ (by omega)
          have he2 := hI2.eq
          have q20 := hI2.q0
          have r20 := hI2.r0
          rw [hP2] at he2
          have q2t : q2 < 18446744073709551616 := by
            have := Int.ediv_le_self y1 f3
            omega
          have P20 : 0 ≤ P2 := by rw [← hP2]; exact Int.mul_nonneg q20 (by omega)
          have F9 : IntKind.u64.wrap (q2 * y1) = P2 := by rw [hP2, IntKind.wrap_u64]; omega
          have F10 : R - P2 = r2 := by omega
          have r2t : r2 < 4294967296 := by omega
          have HI2 := Keep.mk hI2
          have F8 : R / y1 = q2 := hq2
          have Rt : R < 18446744073709551616 := by omega
          have qv0 : 0 ≤ qx := f1
          have qvt : qx < 4294967296 := f2
          have HR := Keep.mk hR
          clear hI2 d d2 hr2 hP2 he2 rt2 hR f5 f4 hq2
          go_wp2
          rename World => wo
          go_loopw [18, 16] (fun s18 s16 w' => ∃ q r : Int, 0 ≤ q ∧ q < 18446744073709551616 ∧ 0 ≤ r ∧ r < 4294967296 ∧ s18 = .int .u64 q ∧ s16 = .int .u64 r ∧ w' = wo ∧ Keep (DgI R u0 Y y1 q r)) (fun s18 _ _ => (intOf s18).toNat)
          case atStart => exact ⟨q2, r2, q20, q2t, r20, r2t, by first | rfl | rw [F8], by first | rfl | (rw [F8]; done) | trace_state, rfl, HI2⟩
          case round =>
            clear F8 F9 F10 HI2 r2t q20 r20 q2t hA1 hA2 hA3 hA4
            obtain ⟨q3, r3, q30, q3t, r30, r3t, rfl, rfl, rfl, HI⟩ := hrel
            by_cases c1 : 4294967296 ≤ q3
            · obtain ⟨k1, k2⟩ := HI.out.step HD2.out (.inl c1)
              have HS := Keep.mk k2
              clear k2
              by_cases c2 : r3 + y1 < 4294967296
              · clear HI HQ HR
                go_wp2
                refine ⟨⟨q3 - 1, r3 + y1, by omega, by omega, by omega, by omega, rfl, rfl, trivial, HS⟩, ?_⟩
                simp only [intOf]; omega
              · obtain ⟨q4, hq4⟩ : ∃ z, q3 - 1 = z := ⟨_, rfl⟩
                rw [hq4] at HS
                have HF : Keep (q4 = (R * 4294967296 + u0) / Y) := ⟨HS.out.exit2 HD2.out (by omega)⟩
                have d2 := HD2.out
                obtain ⟨f1, f2, f3, f4, f5⟩ := d2.digit
                rw [← HF.out] at f1 f2 f5
                obtain ⟨R0, hR0⟩ : ∃ z, (R * 4294967296 + u0) % Y = z := ⟨_, rfl⟩
                rw [hR0] at f3 f4 f5
                obtain ⟨B1, hB1⟩ : ∃ z, IntKind.u64.wrap (R * 4294967296) = z := ⟨_, rfl⟩
                obtain ⟨B2, hB2⟩ : ∃ z, IntKind.u64.wrap (B1 + u0) = z := ⟨_, rfl⟩
                obtain ⟨B3, hB3⟩ : ∃ z, IntKind.u64.wrap (q4 * Y) = z := ⟨_, rfl⟩
                have hB4 : IntKind.u64.wrap (B2 - B3) = R0 := by
                  rw [← hB2, ← hB1, ← hB3]
                  simp only [IntKind.wrap_u64]
                  have f5' := f5
                  generalize q4 * Y = T at f5' ⊢
                  omega
                have KF := Keep.mk (And.intro HQ.out (And.intro HR.out (And.intro HF.out hR0)))
                clear f5 d2 hR0
                clear HQ HF HR HD HD2 HI HS
                go_wp2
                go_ret2
                rw [KF.out.2.1, KF.out.2.2.2, ← KF.out.1, ← KF.out.2.2.1]
                exact ⟨rfl, rfl⟩
            · obtain ⟨T, hT⟩ : ∃ z, q3 * y0 = z := ⟨_, rfl⟩
              have T0 : 0 ≤ T := by rw [← hT]; exact Int.mul_nonneg q30 y0b
              have T1 : T < 18446744073709551616 := by
                have h1 := Int.mul_le_mul_of_nonneg_right (show q3 ≤ 4294967295 by omega) y0b
                rw [hT] at h1
                omega
              have E11 : IntKind.u64.wrap (q3 * y0) = T := by rw [hT, IntKind.wrap_u64]; omega
              by_cases c3 : 4294967296 * r3 + u0 < T
              · obtain ⟨k1, k2⟩ := HI.out.step HD2.out (.inr (by rw [hT]; exact c3))
                have HS := Keep.mk k2
                clear k2
                by_cases c2 : r3 + y1 < 4294967296
                · clear HI hT HQ HR
                  go_wp2
                  refine ⟨⟨q3 - 1, r3 + y1, by omega, by omega, by omega, by omega, rfl, rfl, trivial, HS⟩, ?_⟩
                  simp only [intOf]; omega
                · obtain ⟨q4, hq4⟩ : ∃ z, q3 - 1 = z := ⟨_, rfl⟩
                  rw [hq4] at HS
                  clear hT
                  have HF : Keep (q4 = (R * 4294967296 + u0) / Y) := ⟨HS.out.exit2 HD2.out (by omega)⟩
                  have d2 := HD2.out
                  obtain ⟨f1, f2, f3, f4, f5⟩ := d2.digit
                  rw [← HF.out] at f1 f2 f5
                  obtain ⟨R0, hR0⟩ : ∃ z, (R * 4294967296 + u0) % Y = z := ⟨_, rfl⟩
                  rw [hR0] at f3 f4 f5
                  obtain ⟨B1, hB1⟩ : ∃ z, IntKind.u64.wrap (R * 4294967296) = z := ⟨_, rfl⟩
                  obtain ⟨B2, hB2⟩ : ∃ z, IntKind.u64.wrap (B1 + u0) = z := ⟨_, rfl⟩
                  obtain ⟨B3, hB3⟩ : ∃ z, IntKind.u64.wrap (q4 * Y) = z := ⟨_, rfl⟩
                  have hB4 : IntKind.u64.wrap (B2 - B3) = R0 := by
                    rw [← hB2, ← hB1, ← hB3]
                    simp only [IntKind.wrap_u64]
                    have f5' := f5
                    generalize q4 * Y = T at f5' ⊢
                    omega
                  have KF := Keep.mk (And.intro HQ.out (And.intro HR.out (And.intro HF.out hR0)))
                  clear f5 d2 hR0
                  clear HQ HF HR HD HD2 HI HS
                  go_wp2
                  go_ret2
                  rw [KF.out.2.1, KF.out.2.2.2, ← KF.out.1, ← KF.out.2.2.1]
                  exact ⟨rfl, rfl⟩
              · have HX := Keep.mk (HI.out.exit HD2.out (by rw [hT]; omega))
                clear hT
                have HF : Keep (q3 = (R * 4294967296 + u0) / Y) := ⟨HX.out⟩
                have d2 := HD2.out
                obtain ⟨f1, f2, f3, f4, f5⟩ := d2.digit
                rw [← HF.out] at f1 f2 f5
                obtain ⟨R0, hR0⟩ : ∃ z, (R * 4294967296 + u0) % Y = z := ⟨_, rfl⟩
                rw [hR0] at f3 f4 f5
                obtain ⟨B1, hB1⟩ : ∃ z, IntKind.u64.wrap (R * 4294967296) = z := ⟨_, rfl⟩
                obtain ⟨B2, hB2⟩ : ∃ z, IntKind.u64.wrap (B1 + u0) = z := ⟨_, rfl⟩
                obtain ⟨B3, hB3⟩ : ∃ z, IntKind.u64.wrap (q3 * Y) = z := ⟨_, rfl⟩
                have hB4 : IntKind.u64.wrap (B2 - B3) = R0 := by
                  rw [← hB2, ← hB1, ← hB3]
                  simp only [IntKind.wrap_u64]
                  have f5' := f5
                  generalize q3 * Y = T at f5' ⊢
                  omega
                have KF := Keep.mk (And.intro HQ.out (And.intro HR.out (And.intro HF.out hR0)))
                clear f5 d2 hR0
                clear HQ HF HR HD HD2 HI HX
                go_wp2
                go_ret2
                rw [KF.out.2.1, KF.out.2.2.2, ← KF.out.1, ← KF.out.2.2.1]
                exact ⟨rfl, rfl⟩
      · have HX := Keep.mk (HI.out.exit HD.out (by rw [hT]; omega))
        clear hT
        have HQ : Keep (q = (u * 4294967296 + u1) / Y) := ⟨HX.out⟩
        clear HI HX
        have d := HD.out
        obtain ⟨f1, f2, f3, f4, f5⟩ := d.digit
        rw [← HQ.out] at f1 f2 f5
        obtain ⟨R, hR⟩ : ∃ z, (u * 4294967296 + u1) % Y = z := ⟨_, rfl⟩
        have d2 := d.next u0 b0 b1
        rw [hR] at f3 f4 f5 d2
        have HD2 := Keep.mk d2
        obtain ⟨A1, hA1⟩ : ∃ z, IntKind.u64.wrap (u * 4294967296) = z := ⟨_, rfl⟩
        obtain ⟨A2, hA2⟩ : ∃ z, IntKind.u64.wrap (A1 + u1) = z := ⟨_, rfl⟩
        obtain ⟨A3, hA3⟩ : ∃ z, IntKind.u64.wrap (q * Y) = z := ⟨_, rfl⟩
        have hA4 : IntKind.u64.wrap (A2 - A3) = R := by
          rw [← hA2, ← hA1, ← hA3]
          simp only [IntKind.wrap_u64]
          have f5' := f5
          generalize q * Y = T at f5' ⊢
          omega
        have hI2 := d2.first
        obtain ⟨q2, hq2⟩ : ∃ z, R / y1 = z := ⟨_, rfl⟩
        obtain ⟨r2, hr2⟩ : ∃ z, R % y1 = z := ⟨_, rfl⟩
        obtain ⟨P2, hP2⟩ : ∃ z, q2 * y1 = z := ⟨_, rfl⟩
        rw [hq2, hr2] at hI2
        have rt2 : r2 < y1 := by rw [← hr2]; exact Int.emod_lt_of_pos _ (by omega)
        have he2 := hI2.eq
        have q20 := hI2.q0
        have r20 := hI2.r0
        rw [hP2] at he2
        have q2t : q2 < 18446744073709551616 := by
          have := Int.ediv_le_self y1 f3
          omega
        have P20 : 0 ≤ P2 := by rw [← hP2]; exact Int.mul_nonneg q20 (by omega)
        have F9 : IntKind.u64.wrap (q2 * y1) = P2 := by rw [hP2, IntKind.wrap_u64]; omega
        have F10 : R - P2 = r2 := by omega
        have r2t : r2 < 4294967296 := by omega
        have HI2 := Keep.mk hI2
        have F8 : R / y1 = q2 := hq2
        have Rt : R < 18446744073709551616 := by omega
        have qv0 : 0 ≤ q := f1
        have qvt : q < 4294967296 := f2
        have HR := Keep.mk hR
        clear hI2 d d2 hr2 hP2 he2 rt2 hR f5 f4 hq2
        go_wp2
        rename World => wo
        go_loopw [18, 16] (fun s18 s16 w' => ∃ q r : Int, 0 ≤ q ∧ q < 18446744073709551616 ∧ 0 ≤ r ∧ r < 4294967296 ∧ s18 = .int .u64 q ∧ s16 = .int .u64 r ∧ w' = wo ∧ Keep (DgI R u0 Y y1 q r)) (fun s18 _ _ => (intOf s18).toNat)
        case atStart => exact ⟨q2, r2, q20, q2t, r20, r2t, by first | rfl | rw [F8], by first | rfl | (rw [F8]; done) | trace_state, rfl, HI2⟩
        case round =>
          clear F8 F9 F10 HI2 r2t q20 r20 q2t hA1 hA2 hA3 hA4
          obtain ⟨q3, r3, q30, q3t, r30, r3t, rfl, rfl, rfl, HI⟩ := hrel
          by_cases c1 : 4294967296 ≤ q3
          · obtain ⟨k1, k2⟩ := HI.out.step HD2.out (.inl c1)
            have HS := Keep.mk k2
            clear k2
            by_cases c2 : r3 + y1 < 4294967296
            · clear HI HQ HR
              go_wp2
              refine ⟨⟨q3 - 1, r3 + y1, by omega, by omega, by omega, by omega, rfl, rfl, trivial, HS⟩, ?_⟩
              simp only [intOf]; omega
            · obtain ⟨q4, hq4⟩ : ∃ z, q3 - 1 = z := ⟨_, rfl⟩
              rw [hq4] at HS
              have HF : Keep (q4 = (R * 4294967296 + u0) / Y) := ⟨HS.out.exit2 HD2.out (by omega)⟩
              have d2 := HD2.out
              obtain ⟨f1, f2, f3, f4, f5⟩ := d2.digit
              rw [← HF.out] at f1 f2 f5
              obtain ⟨R0, hR0⟩ : ∃ z, (R * 4294967296 + u0) % Y = z := ⟨_, rfl⟩
              rw [hR0] at f3 f4 f5
              obtain ⟨B1, hB1⟩ : ∃ z, IntKind.u64.wrap (R * 4294967296) = z := ⟨_, rfl⟩
              obtain ⟨B2, hB2⟩ : ∃ z, IntKind.u64.wrap (B1 + u0) = z := ⟨_, rfl⟩
              obtain ⟨B3, hB3⟩ : ∃ z, IntKind.u64.wrap (q4 * Y) = z := ⟨_, rfl⟩
              have hB4 : IntKind.u64.wrap (B2 - B3) = R0 := by
                rw [← hB2, ← hB1, ← hB3]
                simp only [IntKind.wrap_u64]
                have f5' := f5
                generalize q4 * Y = T at f5' ⊢
                omega
              have KF := Keep.mk (And.intro HQ.out (And.intro HR.out (And.intro HF.out hR0)))
              clear f5 d2 hR0
              clear HQ HF HR HD HD2 HI HS
              go_wp2
              go_ret2
              rw [KF.out.2.1, KF.out.2.2.2, ← KF.out.1, ← KF.out.2.2.1]
              exact ⟨rfl, rfl⟩
          · obtain ⟨T, hT⟩ : ∃ z, q3 * y0 = z := ⟨_, rfl⟩
            have T0 : 0 ≤ T := by rw [← hT]; exact Int.mul_nonneg q30 y0b
            have T1 : T < 18446744073709551616 := by
              have h1 := Int.mul_le_mul_of_nonneg_right (show q3 ≤ 4294967295 by omega) y0b
              rw [hT] at h1
              omega
            have E11 : IntKind.u64.wrap (q3 * y0) = T := by rw [hT, IntKind.wrap_u64]; omega
            by_cases c3 : 4294967296 * r3 + u0 < T
            · obtain ⟨k1, k2⟩ := HI.out.step HD2.out (.inr (by rw [hT]; exact c3))
              have HS := Keep.mk k2
              clear k2
              by_cases c2 : r3 + y1 < 4294967296
              · clear HI hT HQ HR
                go_wp2
                refine ⟨⟨q3 - 1, r3 + y1, by omega, by omega, by omega, by omega, rfl, rfl, trivial, HS⟩, ?_⟩
                simp only [intOf]; omega
              · obtain ⟨q4, hq4⟩ : ∃ z, q3 - 1 = z := ⟨_, rfl⟩
                rw [hq4] at HS
                clear hT
                have HF : Keep (q4 = (R * 4294967296 + u0) / Y) := ⟨HS.out.exit2 HD2.out (by omega)⟩
                have d2 := HD2.out
                obtain ⟨f1, f2, f3, f4, f5⟩ := d2.digit
                rw [← HF.out] at f1 f2 f5
                obtain ⟨R0, hR0⟩ : ∃ z, (R * 4294967296 + u0) % Y = z := ⟨_, rfl⟩
                rw [hR0] at f3 f4 f5
                obtain ⟨B1, hB1⟩ : ∃ z, IntKind.u64.wrap (R * 4294967296) = z := ⟨_, rfl⟩
                obtain ⟨B2, hB2⟩ : ∃ z, IntKind.u64.wrap (B1 + u0) = z := ⟨_, rfl⟩
                obtain ⟨B3, hB3⟩ : ∃ z, IntKind.u64.wrap (q4 * Y) = z := ⟨_, rfl⟩
                have hB4 : IntKind.u64.wrap (B2 - B3) = R0 := by
                  rw [← hB2, ← hB1, ← hB3]
                  simp only [IntKind.wrap_u64]
                  have f5' := f5
                  generalize q4 * Y = T at f5' ⊢
                  omega
                have KF := Keep.mk (And.intro HQ.out (And.intro HR.out (And.intro HF.out hR0)))
                clear f5 d2 hR0
                clear HQ HF HR HD HD2 HI HS
                go_wp2
                go_ret2
                rw [KF.out.2.1, KF.out.2.2.2, ← KF.out.1, ← KF.out.2.2.1]
                exact ⟨rfl, rfl⟩
            · have HX := Keep.mk (HI.out.exit HD2.out (by rw [hT]; omega))
              clear hT
              have HF : Keep (q3 = (R * 4294967296 + u0) / Y) := ⟨HX.out⟩
              have d2 := HD2.out
              obtain ⟨f1, f2, f3, f4, f5⟩ := d2.digit
              rw [← HF.out] at f1 f2 f5
              obtain ⟨R0, hR0⟩ : ∃ z, (R * 4294967296 + u0) % Y = z := ⟨_, rfl⟩
              rw [hR0] at f3 f4 f5
              obtain ⟨B1, hB1⟩ : ∃ z, IntKind.u64.wrap (R * 4294967296) = z := ⟨_, rfl⟩
              obtain ⟨B2, hB2⟩ : ∃ z, IntKind.u64.wrap (B1 + u0) = z := ⟨_, rfl⟩
              obtain ⟨B3, hB3⟩ : ∃ z, IntKind.u64.wrap (q3 * Y) = z := ⟨_, rfl⟩
              have hB4 : IntKind.u64.wrap (B2 - B3) = R0 := by
                rw [← hB2, ← hB1, ← hB3]
                simp only [IntKind.wrap_u64]
                have f5' := f5
                generalize q3 * Y = T at f5' ⊢
                omega
              have KF := Keep.mk (And.intro HQ.out (And.intro HR.out (And.intro HF.out hR0)))
              clear f5 d2 hR0
              clear HQ HF HR HD HD2 HI HX
              go_wp2
              go_ret2
              rw [KF.out.2.1, KF.out.2.2.2, ← KF.out.1, ← KF.out.2.2.1]
              exact ⟨rfl, rfl⟩
end Go.Proofs.YtkfkhjafhlafhaaDoor
