/- BucketTicks' walk. -/
import Derived.Test.YtgdifgflofjeiaaA5
namespace Go.Proofs.Ytgdifgflofjeiaa
open Go Go.RowKit
theorem tk_one {r u y i : Int} (hr : 0 ≤ r) (hi : 0 ≤ i) (hi2 : i < 16000) : tk r u (tk r u y i) 1 = tk r u y (i + 1) := by
  unfold tk
  rw [show min i 16000 = i by omega, show min (i + 1) 16000 = i + 1 by omega, show min (1 : Int) 16000 = 1 by omega, Int.mul_add, Int.mul_one]
  omega
theorem tk_zero {r u y : Int} (h : y ≤ 16 * u) : tk r u y 0 = y := by
  unfold tk
  rw [show min (0 : Int) 16000 = 0 by omega, Int.mul_zero]; omega
theorem tk_cut {r u y n i : Int} (h : i = n ∨ (i = 16000 ∧ 16000 ≤ n)) : tk r u y i = tk r u y n := by
  unfold tk
  rw [show min i 16000 = min n 16000 by omega]
theorem tk_r0 {u y n : Int} (h : y ≤ 16 * u) : tk 0 u y n = y := by
  unfold tk
  rw [Int.zero_mul]; omega
theorem tk_all {r u y n : Int} (hr : 0 < r) (hu : u ≤ 1000) (hy : 0 ≤ y) (hn : 16000 ≤ n) : tk r u y n = 16 * u := by
  unfold tk
  have := Int.mul_le_mul_of_nonneg_right (show 1 ≤ r by omega) (show (0:Int) ≤ 16000 by omega)
  rw [show min n 16000 = 16000 by omega]
  omega
/-- two buckets of the call's own -/
structure M2 (w0 w : World) (kb kc : Nat) (r u y z : Int) : Prop where
  b : MB w0 w kb r u y
  c : MB w0 w kc r u z
  n : kb ≠ kc
set_option maxHeartbeats 16000000 in
theorem ticks_law (x x2 n : Int) (w : World) (hn : 0 ≤ n) (hn1 : n < 18446744073709551616) :
    Calls Try.prog 4 #[.int .i64 x, .int .i64 x2, .int .u64 n] w fun e w' => e = .returned (.bool true) ∧ w.grownBy w' none := by
  go_enter Try.func4, Try.ntmps4
  go_wp2_with fail
  refine (lfull_c x x2 _).mono ?_
  rintro e w1 ⟨r, u, hk, rfl, g1⟩
  have HM : Keep (MB w (w1.alloc (.cells #[.int .i64 r, .int .i64 u, .int .i64 (16 * u)] 24)) w1.heap.size r u (16 * u)) := ⟨MB.full g1 hk⟩
  obtain ⟨hr0, hr1, hu0, hu1⟩ := hk
  clear g1
  go_wp2_with fail
  generalize w1.alloc _ = w2 at *
  generalize w1.heap.size = kb at *
  clear w1
  have hd : u.tdiv 2 = u / 2 := Int.tdiv_eq_ediv_of_nonneg (by omega)
  obtain ⟨v, hv⟩ : ∃ v, u / 2 = v := ⟨_, rfl⟩
  have hv0 : 0 ≤ v := by omega
  have hv1 : v < u := by omega
  have hw0 : IntKind.i64.wrap v = v := wi _ (by omega) (by omega)
  have hw1 : IntKind.i64.wrap (v + 1) = v + 1 := wi _ (by omega) (by omega)
  have hw2 : IntKind.i64.wrap (u - v) = u - v := wi _ (by omega) (by omega)
  have hw3 : IntKind.i64.wrap (u - v - 1) = u - v - 1 := wi _ (by omega) (by omega)
  rw [hv] at hd
  clear hv
  go_loopw [11] (fun s w' => ∃ i : Int, 0 ≤ i ∧ i ≤ v + 1 ∧ s = .int .i64 i ∧ Keep (MB w w' kb r u (16 * (u - i)))) (fun s _ => (u - intOf s).toNat)
  case atStart => exact ⟨0, by omega, by omega, rfl, by simpa using HM⟩
  case round =>
    clear HM
    obtain ⟨i, i0, i1, rfl, HM⟩ := hrel
    by_cases hi : i < v + 1
    · have hwi : IntKind.i64.wrap (i + 1) = i + 1 := wi _ (by omega) (by omega)
      go_wp2_with fail
      have c := my_take HM.out
      rw [show tcode (16 * (u - i)) = 0 by unfold tcode; rw [if_neg (by omega)], show took (16 * (u - i)) = 16 * (u - (i + 1)) by unfold took; rw [if_neg (by omega)]; omega] at c
      refine c.mono ?_
      rintro e w3 ⟨rfl, hb, -⟩
      replace HM := Keep.mk hb
      clear c hb
      go_wp2_with fail
      refine ⟨⟨i + 1, by omega, by omega, rfl, HM⟩, ?_⟩
      simp only [intOf]; omega
    · have hiv : i = v + 1 := by omega
      subst hiv
      have HY : Keep (16 * (u - (v + 1)) = 16 * (u - v - 1)) := ⟨by omega⟩
      rw [HY.out] at HM
      have q0 := HM.out.b.has.cellv 0 _ rfl
      have q1 := HM.out.b.has.cellv 1 _ rfl
      have q2 := HM.out.b.has.cellv 2 _ rfl
      obtain ⟨y, hy⟩ : ∃ y, 16 * (u - v - 1) = y := ⟨_, rfl⟩
      rw [hy] at HM q2
      have HYY : Keep (y / 16 = u - v - 1 ∧ y ≤ 16 * u ∧ 0 ≤ y) := ⟨by omega, by omega, by omega⟩
      clear hy HY
      have HC := Keep.mk HM.out.copy
      have HB : Keep (MB w (wr.alloc (.cells #[.int .i64 r, .int .i64 u, .int .i64 y] 24)) kb r u y) := ⟨HM.out.al _⟩
      have HN : Keep (kb ≠ wr.heap.size) := ⟨by have := HM.out.lt; omega⟩
      go_wp2_with fail
      clear q0 q1 q2 HM i0 i1 hi
      generalize wr.alloc _ = w4 at *
      generalize wr.heap.size = kc at *
      have c := my_ticks n HB.out hn hn1
      refine c.mono ?_
      rintro e w5 ⟨rfl, hb, g⟩
      have HH : Keep (M2 w w5 kb kc r u (tk r u y n) y) := ⟨hb, HC.out.other g HB.out.lo (Ne.symm HN.out), HN.out⟩
      clear c hb g HB HC HN
      go_wp2_with fail
      go_loopw [13] (fun s w' => ∃ i : Int, 0 ≤ i ∧ i ≤ n ∧ i ≤ 16000 ∧ s = .int .u64 i ∧ Keep (M2 w w' kb kc r u (tk r u y n) (tk r u y i))) (fun s _ => (16000 - intOf s).toNat)
      case atStart => exact ⟨0, by omega, by omega, by omega, rfl, by rw [tk_zero HYY.out.2.1]; exact HH⟩
      case round =>
        clear HH
        obtain ⟨i, i0, i1, i2, rfl, HH⟩ := hrel
        by_cases hi : i < n ∧ i < 16000
        · obtain ⟨hi, hi2⟩ := hi
          go_wp2_with fail
          have c := my_tick HH.out.c
          rw [tk_one hr0 i0 hi2] at c
          refine c.mono ?_
          rintro e w6 ⟨rfl, hb, g⟩
          have HH2 : Keep (M2 w w6 kb kc r u (tk r u y n) (tk r u y (i + 1))) := ⟨HH.out.b.other g HH.out.c.lo HH.out.n, hb, HH.out.n⟩
          clear c hb g HH
          go_wp2_with fail
          refine ⟨⟨i + 1, by omega, by omega, by omega, rfl, HH2⟩, ?_⟩
          simp only [intOf]; omega
        · have he : tk r u y i = tk r u y n := tk_cut (by omega)
          rw [he] at HH
          clear he
          have HR0 : Keep (r = 0 → tk r u y n / 16 = u - v - 1) := ⟨fun q => by subst q; rw [tk_r0 HYY.out.2.1]; exact HYY.out.1⟩
          have HRn : Keep (0 < r → 16000 ≤ n → tk r u y n / 16 = u) := ⟨fun q q2 => by rw [tk_all q hu1 HYY.out.2.2 q2]; omega⟩
          have HT : Keep (0 ≤ tk r u y n) := ⟨tk_lo hr0 hu0 HYY.out.2.2 hn⟩
          generalize tk r u y n = Y at *
          have hc : (¬ i < n) ∨ (i < n ∧ ¬ i < 16000) := by omega
          clear hi HYY
          rcases (show r = 0 ∨ 0 < r by omega) with hr | hr
          · have hq := HR0.out hr
            subst hr
            clear HR0 HRn
            rcases hc with hi | ⟨hi, hi2⟩
            · rcases Int.lt_or_le n 16000 with hnn | hnn
              · go_wp2_with fail
                have c := my_left HH.out.b
                rw [hq] at c
                refine c.mono ?_
                rintro e w6 ⟨rfl, rfl⟩
                clear c
                go_wp2_with fail
                go_loopw [14] (fun s w' => ∃ j Z : Int, 0 ≤ j ∧ j ≤ 17 ∧ s = .int .i64 j ∧ Keep (M2 w w' kb kc 0 u Z Z)) (fun s _ => (17 - intOf s).toNat)
                case atStart => exact ⟨0, Y, by omega, by omega, rfl, HH⟩
                case round =>
                  clear HH
                  obtain ⟨j, Z, j0, j1, rfl, HH⟩ := hrel
                  by_cases hj : j < 17
                  · go_wp2_with fail
                    have c := my_left HH.out.b
                    refine c.mono ?_
                    rintro e w7 ⟨rfl, rfl⟩
                    clear c
                    go_wp2_with fail
                    have c := my_left HH.out.c
                    refine c.mono ?_
                    rintro e w8 ⟨rfl, rfl⟩
                    clear c
                    generalize Z / 16 = q at *
                    go_wp2_with fail
                    have c := my_tick HH.out.b
                    refine c.mono ?_
                    rintro e w9 ⟨rfl, hb, g⟩
                    have HH2 : Keep (M2 w w9 kb kc 0 u (tk 0 u Z 1) Z) := ⟨hb, HH.out.c.other g HH.out.b.lo (Ne.symm HH.out.n), HH.out.n⟩
                    clear c hb g HH
                    go_wp2_with fail
                    have c := my_tick HH2.out.c
                    refine c.mono ?_
                    rintro e w10 ⟨rfl, hb, g⟩
                    have HH3 : Keep (M2 w w10 kb kc 0 u (tk 0 u Z 1) (tk 0 u Z 1)) := ⟨HH2.out.b.other g HH2.out.c.lo HH2.out.n, hb, HH2.out.n⟩
                    clear c hb g HH2
                    go_wp2_with fail
                    refine ⟨⟨j + 1, tk 0 u Z 1, by omega, by omega, rfl, HH3⟩, ?_⟩
                    simp only [intOf]; omega
                  · go_wp2_with fail
                    go_ret
                    exact ⟨rfl, HH.out.b.g⟩
              · go_wp2_with fail
                have c := my_left HH.out.b
                rw [hq] at c
                refine c.mono ?_
                rintro e w6 ⟨rfl, rfl⟩
                clear c
                go_wp2_with fail
                go_loopw [14] (fun s w' => ∃ j Z : Int, 0 ≤ j ∧ j ≤ 17 ∧ s = .int .i64 j ∧ Keep (M2 w w' kb kc 0 u Z Z)) (fun s _ => (17 - intOf s).toNat)
                case atStart => exact ⟨0, Y, by omega, by omega, rfl, HH⟩
                case round =>
                  clear HH
                  obtain ⟨j, Z, j0, j1, rfl, HH⟩ := hrel
                  by_cases hj : j < 17
                  · go_wp2_with fail
                    have c := my_left HH.out.b
                    refine c.mono ?_
                    rintro e w7 ⟨rfl, rfl⟩
                    clear c
                    go_wp2_with fail
                    have c := my_left HH.out.c
                    refine c.mono ?_
                    rintro e w8 ⟨rfl, rfl⟩
                    clear c
                    generalize Z / 16 = q at *
                    go_wp2_with fail
                    have c := my_tick HH.out.b
                    refine c.mono ?_
                    rintro e w9 ⟨rfl, hb, g⟩
                    have HH2 : Keep (M2 w w9 kb kc 0 u (tk 0 u Z 1) Z) := ⟨hb, HH.out.c.other g HH.out.b.lo (Ne.symm HH.out.n), HH.out.n⟩
                    clear c hb g HH
                    go_wp2_with fail
                    have c := my_tick HH2.out.c
                    refine c.mono ?_
                    rintro e w10 ⟨rfl, hb, g⟩
                    have HH3 : Keep (M2 w w10 kb kc 0 u (tk 0 u Z 1) (tk 0 u Z 1)) := ⟨HH2.out.b.other g HH2.out.c.lo HH2.out.n, hb, HH2.out.n⟩
                    clear c hb g HH2
                    go_wp2_with fail
                    refine ⟨⟨j + 1, tk 0 u Z 1, by omega, by omega, rfl, HH3⟩, ?_⟩
                    simp only [intOf]; omega
                  · go_wp2_with fail
                    go_ret
                    exact ⟨rfl, HH.out.b.g⟩
            · have hnn : 16000 ≤ n := by omega
              go_wp2_with fail
              have c := my_left HH.out.b
              rw [hq] at c
              refine c.mono ?_
              rintro e w6 ⟨rfl, rfl⟩
              clear c
              go_wp2_with fail
              go_loopw [14] (fun s w' => ∃ j Z : Int, 0 ≤ j ∧ j ≤ 17 ∧ s = .int .i64 j ∧ Keep (M2 w w' kb kc 0 u Z Z)) (fun s _ => (17 - intOf s).toNat)
              case atStart => exact ⟨0, Y, by omega, by omega, rfl, HH⟩
              case round =>
                clear HH
                obtain ⟨j, Z, j0, j1, rfl, HH⟩ := hrel
                by_cases hj : j < 17
                · go_wp2_with fail
                  have c := my_left HH.out.b
                  refine c.mono ?_
                  rintro e w7 ⟨rfl, rfl⟩
                  clear c
                  go_wp2_with fail
                  have c := my_left HH.out.c
                  refine c.mono ?_
                  rintro e w8 ⟨rfl, rfl⟩
                  clear c
                  generalize Z / 16 = q at *
                  go_wp2_with fail
                  have c := my_tick HH.out.b
                  refine c.mono ?_
                  rintro e w9 ⟨rfl, hb, g⟩
                  have HH2 : Keep (M2 w w9 kb kc 0 u (tk 0 u Z 1) Z) := ⟨hb, HH.out.c.other g HH.out.b.lo (Ne.symm HH.out.n), HH.out.n⟩
                  clear c hb g HH
                  go_wp2_with fail
                  have c := my_tick HH2.out.c
                  refine c.mono ?_
                  rintro e w10 ⟨rfl, hb, g⟩
                  have HH3 : Keep (M2 w w10 kb kc 0 u (tk 0 u Z 1) (tk 0 u Z 1)) := ⟨HH2.out.b.other g HH2.out.c.lo HH2.out.n, hb, HH2.out.n⟩
                  clear c hb g HH2
                  go_wp2_with fail
                  refine ⟨⟨j + 1, tk 0 u Z 1, by omega, by omega, rfl, HH3⟩, ?_⟩
                  simp only [intOf]; omega
                · go_wp2_with fail
                  go_ret
                  exact ⟨rfl, HH.out.b.g⟩
          · clear HR0
            rcases hc with hi | ⟨hi, hi2⟩
            · rcases Int.lt_or_le n 16000 with hnn | hnn
              · clear HRn
                go_wp2_with fail
                go_loopw [14] (fun s w' => ∃ j Z : Int, 0 ≤ j ∧ j ≤ 17 ∧ s = .int .i64 j ∧ Keep (M2 w w' kb kc r u Z Z)) (fun s _ => (17 - intOf s).toNat)
                case atStart => exact ⟨0, Y, by omega, by omega, rfl, HH⟩
                case round =>
                  clear HH
                  obtain ⟨j, Z, j0, j1, rfl, HH⟩ := hrel
                  by_cases hj : j < 17
                  · go_wp2_with fail
                    have c := my_left HH.out.b
                    refine c.mono ?_
                    rintro e w7 ⟨rfl, rfl⟩
                    clear c
                    go_wp2_with fail
                    have c := my_left HH.out.c
                    refine c.mono ?_
                    rintro e w8 ⟨rfl, rfl⟩
                    clear c
                    generalize Z / 16 = q at *
                    go_wp2_with fail
                    have c := my_tick HH.out.b
                    refine c.mono ?_
                    rintro e w9 ⟨rfl, hb, g⟩
                    have HH2 : Keep (M2 w w9 kb kc r u (tk r u Z 1) Z) := ⟨hb, HH.out.c.other g HH.out.b.lo (Ne.symm HH.out.n), HH.out.n⟩
                    clear c hb g HH
                    go_wp2_with fail
                    have c := my_tick HH2.out.c
                    refine c.mono ?_
                    rintro e w10 ⟨rfl, hb, g⟩
                    have HH3 : Keep (M2 w w10 kb kc r u (tk r u Z 1) (tk r u Z 1)) := ⟨HH2.out.b.other g HH2.out.c.lo HH2.out.n, hb, HH2.out.n⟩
                    clear c hb g HH2
                    go_wp2_with fail
                    refine ⟨⟨j + 1, tk r u Z 1, by omega, by omega, rfl, HH3⟩, ?_⟩
                    simp only [intOf]; omega
                  · go_wp2_with fail
                    go_ret
                    exact ⟨rfl, HH.out.b.g⟩
              · have hq := HRn.out hr hnn
                clear HRn
                go_wp2_with fail
                have c := my_left HH.out.b
                rw [hq] at c
                refine c.mono ?_
                rintro e w6 ⟨rfl, rfl⟩
                clear c
                go_wp2_with fail
                go_loopw [14] (fun s w' => ∃ j Z : Int, 0 ≤ j ∧ j ≤ 17 ∧ s = .int .i64 j ∧ Keep (M2 w w' kb kc r u Z Z)) (fun s _ => (17 - intOf s).toNat)
                case atStart => exact ⟨0, Y, by omega, by omega, rfl, HH⟩
                case round =>
                  clear HH
                  obtain ⟨j, Z, j0, j1, rfl, HH⟩ := hrel
                  by_cases hj : j < 17
                  · go_wp2_with fail
                    have c := my_left HH.out.b
                    refine c.mono ?_
                    rintro e w7 ⟨rfl, rfl⟩
                    clear c
                    go_wp2_with fail
                    have c := my_left HH.out.c
                    refine c.mono ?_
                    rintro e w8 ⟨rfl, rfl⟩
                    clear c
                    generalize Z / 16 = q at *
                    go_wp2_with fail
                    have c := my_tick HH.out.b
                    refine c.mono ?_
                    rintro e w9 ⟨rfl, hb, g⟩
                    have HH2 : Keep (M2 w w9 kb kc r u (tk r u Z 1) Z) := ⟨hb, HH.out.c.other g HH.out.b.lo (Ne.symm HH.out.n), HH.out.n⟩
                    clear c hb g HH
                    go_wp2_with fail
                    have c := my_tick HH2.out.c
                    refine c.mono ?_
                    rintro e w10 ⟨rfl, hb, g⟩
                    have HH3 : Keep (M2 w w10 kb kc r u (tk r u Z 1) (tk r u Z 1)) := ⟨HH2.out.b.other g HH2.out.c.lo HH2.out.n, hb, HH2.out.n⟩
                    clear c hb g HH2
                    go_wp2_with fail
                    refine ⟨⟨j + 1, tk r u Z 1, by omega, by omega, rfl, HH3⟩, ?_⟩
                    simp only [intOf]; omega
                  · go_wp2_with fail
                    go_ret
                    exact ⟨rfl, HH.out.b.g⟩
            · have hnn : 16000 ≤ n := by omega
              have hq := HRn.out hr hnn
              clear HRn
              go_wp2_with fail
              have c := my_left HH.out.b
              rw [hq] at c
              refine c.mono ?_
              rintro e w6 ⟨rfl, rfl⟩
              clear c
              go_wp2_with fail
              go_loopw [14] (fun s w' => ∃ j Z : Int, 0 ≤ j ∧ j ≤ 17 ∧ s = .int .i64 j ∧ Keep (M2 w w' kb kc r u Z Z)) (fun s _ => (17 - intOf s).toNat)
              case atStart => exact ⟨0, Y, by omega, by omega, rfl, HH⟩
              case round =>
                clear HH
                obtain ⟨j, Z, j0, j1, rfl, HH⟩ := hrel
                by_cases hj : j < 17
                · go_wp2_with fail
                  have c := my_left HH.out.b
                  refine c.mono ?_
                  rintro e w7 ⟨rfl, rfl⟩
                  clear c
                  go_wp2_with fail
                  have c := my_left HH.out.c
                  refine c.mono ?_
                  rintro e w8 ⟨rfl, rfl⟩
                  clear c
                  generalize Z / 16 = q at *
                  go_wp2_with fail
                  have c := my_tick HH.out.b
                  refine c.mono ?_
                  rintro e w9 ⟨rfl, hb, g⟩
                  have HH2 : Keep (M2 w w9 kb kc r u (tk r u Z 1) Z) := ⟨hb, HH.out.c.other g HH.out.b.lo (Ne.symm HH.out.n), HH.out.n⟩
                  clear c hb g HH
                  go_wp2_with fail
                  have c := my_tick HH2.out.c
                  refine c.mono ?_
                  rintro e w10 ⟨rfl, hb, g⟩
                  have HH3 : Keep (M2 w w10 kb kc r u (tk r u Z 1) (tk r u Z 1)) := ⟨HH2.out.b.other g HH2.out.c.lo HH2.out.n, hb, HH2.out.n⟩
                  clear c hb g HH2
                  go_wp2_with fail
                  refine ⟨⟨j + 1, tk r u Z 1, by omega, by omega, rfl, HH3⟩, ?_⟩
                  simp only [intOf]; omega
                · go_wp2_with fail
                  go_ret
                  exact ⟨rfl, HH.out.b.g⟩
end Go.Proofs.Ytgdifgflofjeiaa
