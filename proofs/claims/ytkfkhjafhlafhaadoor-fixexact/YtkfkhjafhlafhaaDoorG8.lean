/- the reference: Div -/
import Derived.Test.YtkfkhjafhlafhaaDoorG7
namespace Go.Proofs.YtkfkhjafhlafhaaDoor
open Go Go.RowKit

theorem power_i (i : Int) (h0 : 0 ≤ i) (h1 : i ≤ 63) (w : World) :
    Calls Tryd.prog 40 #[.int .i64 i] w fun e w' => e = .returned (.int .u64 (p2 i.toNat)) ∧ w' = w := by
  obtain ⟨n, rfl⟩ := Int.eq_ofNat_of_zero_le h0
  exact power_c n (by omega) w

/-- what holds at the loop's head -/
structure DvI (X B i n rest : Int) : Prop where
  r : rest = X / p2 (i + 1).toNat % B
  q : n = lid (X / p2 (i + 1).toNat / B)

theorem DvI.first {X B : Int} (h : X / p2 80 = 0) : DvI X B 79 0 0 := by
  refine ⟨?_, ?_⟩
  · rw [show ((79 : Int) + 1).toNat = 80 from rfl, h]; simp
  · rw [show ((79 : Int) + 1).toNat = 80 from rfl, h]; simp [lid]

theorem DvI.next {X B i n rest bit : Int} (h : DvI X B i n rest) (i0 : 0 ≤ i) (hB : 0 < B) (hb0 : 0 ≤ bit) (hb1 : bit ≤ 1) (hbit : X / p2 i.toNat % 2 = bit) :
    (B ≤ rest * 2 + bit → DvI X B (i - 1) (lid (n * 2 + 1)) (rest * 2 + bit - B)) ∧ (¬ B ≤ rest * 2 + bit → DvI X B (i - 1) (lid (n * 2)) (rest * 2 + bit)) := by
  have e := bit_split X i.toNat
  rw [hbit] at e
  have e1 : (i + 1).toNat = i.toNat + 1 := by omega
  have e2 : (i - 1 + 1).toNat = i.toNat := by omega
  obtain ⟨h1, h2⟩ := h
  rw [e1] at h1 h2
  obtain ⟨s1, s2⟩ := dv_next (T := X / p2 (i.toNat + 1)) hB hb0 hb1 h2
  rw [← h1, ← e] at s1 s2
  refine ⟨fun c => ?_, fun c => ?_⟩
  · obtain ⟨a, b⟩ := s1 c
    exact ⟨by rw [e2]; exact a, by rw [e2]; exact b⟩
  · obtain ⟨a, b⟩ := s2 c
    exact ⟨by rw [e2]; exact a, by rw [e2]; exact b⟩

theorem DvI.last {X B n rest : Int} (h : DvI X B (-1) n rest) : rest = X % B ∧ n = lid (X / B) := by
  obtain ⟨h1, h2⟩ := h
  have e : p2 ((-1 : Int) + 1).toNat = 1 := rfl
  rw [e, Int.ediv_one] at h1 h2
  exact ⟨h1, h2⟩

set_option maxHeartbeats 8000000 in
theorem rdiv_pos (a b A B X R : Int) (w : World) (hz : ¬ b = 0) (hbl : (decide (a < 0) != decide (b < 0)) = false)
    (c1 : Calls Tryd.prog 38 #[.int .i64 a] w fun e w' => e = .returned (.int .u64 A) ∧ w' = w)
    (c2 : Calls Tryd.prog 38 #[.int .i64 b] w fun e w' => e = .returned (.int .u64 B) ∧ w' = w)
    (A0 : 0 ≤ A) (A1 : A ≤ 9223372036854775808) (B0 : 0 < B) (B1 : B ≤ 9223372036854775808) (HX : Keep (A * 65536 = X)) (HR : Keep (sideZ false (X / B) (X % B) = R)) :
    Calls Tryd.prog 27 #[.int .i64 a, .int .i64 b] w fun e w' => e = .returned (.int .i64 R) ∧ w' = w := by
  have hne := neq_b
  have HI : Keep (DvI X B 79 0 0) := ⟨DvI.first (by rw [← HX.out]; exact top_zero A A0 A1)⟩
  go_enter Tryd.func27, Tryd.ntmps27
  go_wp2_with fail
  refine c1.mono ?_
  rintro e w' ⟨rfl, hw⟩; rw [hw]
  go_wp2_with fail
  refine c2.mono ?_
  rintro e w' ⟨rfl, hw⟩; rw [hw]
  go_wp2_with fail
  clear c1 c2
  go_loopw [8, 9, 10] (fun s8 s9 s10 w' => ∃ n rest i : Int, 0 ≤ n ∧ n ≤ 4398046511104 ∧ 0 ≤ rest ∧ rest < B ∧ -1 ≤ i ∧ i ≤ 79 ∧ s8 = .int .u64 n ∧ s9 = .int .u64 rest ∧ s10 = .int .i64 i ∧ w' = w ∧ Keep (DvI X B i n rest)) (fun _ _ s10 _ => (intOf s10 + 1).toNat)
  case atStart => exact ⟨0, 0, 79, by omega, by omega, by omega, by omega, by omega, by omega, rfl, rfl, rfl, rfl, HI⟩
  case round =>
    clear HI
    obtain ⟨n, rest, i, n0, n1, r0, r1, im, it, rfl, rfl, rfl, rfl, HI⟩ := hrel
    by_cases i0 : 0 ≤ i
    · by_cases c16 : 16 ≤ i
      · have cp := power_i (i - 16) (by omega) (by omega) wr
        obtain ⟨bit, hbit⟩ : ∃ z, X / p2 i.toNat % 2 = z := ⟨_, rfl⟩
        have hb2 : bit = A / p2 (i - 16).toNat % 2 := by
          rw [← hbit, ← HX.out, show i.toNat = (i - 16).toNat + 16 by omega, bit_high]
        have Pp := p2_pos (i - 16).toNat
        have Pt : p2 (i - 16).toNat ≤ 9223372036854775808 := by rw [← p2_63]; exact p2_le (by omega)
        have b0 : 0 ≤ bit := by omega
        have b1 : bit ≤ 1 := by omega
        obtain ⟨N1, N2⟩ := HI.out.next i0 B0 b0 b1 hbit
        generalize p2 (i - 16).toNat = P at *
        have Q0 : 0 ≤ A / P := Int.ediv_nonneg A0 (by omega)
        have Q1 : A / P ≤ A := Int.ediv_le_self _ A0
        obtain ⟨Q, hQ⟩ : ∃ z, A / P = z := ⟨_, rfl⟩
        rw [hQ] at hb2 Q0 Q1
        have hb3 : Q % 2 = bit := hb2.symm
        have Pz : ¬ P = 0 := by omega
        clear hb2 hbit
        by_cases g1 : B ≤ rest * 2 + bit
        · have HS := Keep.mk (N1 g1)
          clear N1 N2 HI
          have r1 : rest * 2 + bit - B < B := by omega
          by_cases g2 : 4398046511104 < n * 2 + 1
          · rw [show lid (n * 2 + 1) = 4398046511104 from if_pos g2] at HS
            go_wp2_with fail
            refine cp.mono ?_
            rintro e w' ⟨rfl, hw⟩; rw [hw]
            go_wp2_with fail
            refine ⟨⟨4398046511104, rest * 2 + bit - B, i - 1, by omega, by omega, by omega, by omega, by omega, by omega, rfl, rfl, rfl, trivial, HS⟩, ?_⟩
            simp only [intOf]; omega
          · rw [show lid (n * 2 + 1) = n * 2 + 1 from if_neg g2] at HS
            go_wp2_with fail
            refine cp.mono ?_
            rintro e w' ⟨rfl, hw⟩; rw [hw]
            go_wp2_with fail
            refine ⟨⟨n * 2 + 1, rest * 2 + bit - B, i - 1, by omega, by omega, by omega, by omega, by omega, by omega, rfl, rfl, rfl, trivial, HS⟩, ?_⟩
            simp only [intOf]; omega
        · have HS := Keep.mk (N2 g1)
          clear N1 N2 HI
          by_cases g2 : 4398046511104 < n * 2
          · rw [show lid (n * 2) = 4398046511104 from if_pos g2] at HS
            go_wp2_with fail
            refine cp.mono ?_
            rintro e w' ⟨rfl, hw⟩; rw [hw]
            go_wp2_with fail
            refine ⟨⟨4398046511104, rest * 2 + bit, i - 1, by omega, by omega, by omega, by omega, by omega, by omega, rfl, rfl, rfl, trivial, HS⟩, ?_⟩
            simp only [intOf]; omega
          · rw [show lid (n * 2) = n * 2 from if_neg g2] at HS
            go_wp2_with fail
            refine cp.mono ?_
            rintro e w' ⟨rfl, hw⟩; rw [hw]
            go_wp2_with fail
            refine ⟨⟨n * 2, rest * 2 + bit, i - 1, by omega, by omega, by omega, by omega, by omega, by omega, rfl, rfl, rfl, trivial, HS⟩, ?_⟩
            simp only [intOf]; omega

      · have c16' : i < 16 := by omega
        have hbit : X / p2 i.toNat % 2 = 0 := by rw [← HX.out]; exact bit_low A _ (by omega)
        obtain ⟨N1, N2⟩ := HI.out.next i0 B0 (by omega) (by omega) hbit
        rw [Int.add_zero] at N1 N2
        clear hbit
        by_cases g1 : B ≤ rest * 2
        · have HS := Keep.mk (N1 g1)
          clear N1 N2 HI
          have r1 : rest * 2 - B < B := by omega
          by_cases g2 : 4398046511104 < n * 2 + 1
          · rw [show lid (n * 2 + 1) = 4398046511104 from if_pos g2] at HS
            go_wp2_with fail
            refine ⟨⟨4398046511104, rest * 2 - B, i - 1, by omega, by omega, by omega, by omega, by omega, by omega, rfl, rfl, rfl, trivial, HS⟩, ?_⟩
            simp only [intOf]; omega
          · rw [show lid (n * 2 + 1) = n * 2 + 1 from if_neg g2] at HS
            go_wp2_with fail
            refine ⟨⟨n * 2 + 1, rest * 2 - B, i - 1, by omega, by omega, by omega, by omega, by omega, by omega, rfl, rfl, rfl, trivial, HS⟩, ?_⟩
            simp only [intOf]; omega
        · have HS := Keep.mk (N2 g1)
          clear N1 N2 HI
          by_cases g2 : 4398046511104 < n * 2
          · rw [show lid (n * 2) = 4398046511104 from if_pos g2] at HS
            go_wp2_with fail
            refine ⟨⟨4398046511104, rest * 2, i - 1, by omega, by omega, by omega, by omega, by omega, by omega, rfl, rfl, rfl, trivial, HS⟩, ?_⟩
            simp only [intOf]; omega
          · rw [show lid (n * 2) = n * 2 from if_neg g2] at HS
            go_wp2_with fail
            refine ⟨⟨n * 2, rest * 2, i - 1, by omega, by omega, by omega, by omega, by omega, by omega, rfl, rfl, rfl, trivial, HS⟩, ?_⟩
            simp only [intOf]; omega

    · obtain rfl : i = -1 := by omega
      have HL := Keep.mk HI.out.last
      clear HI
      have c4 := rbounded_c false n (by omega) (by omega) wr
      have HE : bdS false n = R := by
        have h2 := HL.out.2
        rw [← HR.out]
        generalize X / B = q at *
        unfold lid at h2
        unfold bdS sideZ
        simp only [Bool.false_eq_true, if_false]
        (repeat' split) <;> (repeat' split at h2) <;> omega
      rw [HE] at c4
      clear HE HL
      go_wp2_with fail
      refine c4.mono ?_
      rintro e w' ⟨rfl, hw⟩; rw [hw]
      go_wp2_with fail
      go_ret
      exact ⟨rfl, rfl⟩

set_option maxHeartbeats 8000000 in
theorem rdiv_zer (a b A B X R : Int) (w : World) (hz : ¬ b = 0) (hbl : (decide (a < 0) != decide (b < 0)) = true) (ha : (a != 0) = false)
    (c1 : Calls Tryd.prog 38 #[.int .i64 a] w fun e w' => e = .returned (.int .u64 A) ∧ w' = w)
    (c2 : Calls Tryd.prog 38 #[.int .i64 b] w fun e w' => e = .returned (.int .u64 B) ∧ w' = w)
    (A0 : 0 ≤ A) (A1 : A ≤ 9223372036854775808) (B0 : 0 < B) (B1 : B ≤ 9223372036854775808) (HX : Keep (A * 65536 = X)) (HR : Keep (sideZ false (X / B) (X % B) = R)) :
    Calls Tryd.prog 27 #[.int .i64 a, .int .i64 b] w fun e w' => e = .returned (.int .i64 R) ∧ w' = w := by
  have hne := neq_b
  have HI : Keep (DvI X B 79 0 0) := ⟨DvI.first (by rw [← HX.out]; exact top_zero A A0 A1)⟩
  go_enter Tryd.func27, Tryd.ntmps27
  go_wp2_with fail
  refine c1.mono ?_
  rintro e w' ⟨rfl, hw⟩; rw [hw]
  go_wp2_with fail
  refine c2.mono ?_
  rintro e w' ⟨rfl, hw⟩; rw [hw]
  go_wp2_with fail
  clear c1 c2
  go_loopw [8, 9, 10] (fun s8 s9 s10 w' => ∃ n rest i : Int, 0 ≤ n ∧ n ≤ 4398046511104 ∧ 0 ≤ rest ∧ rest < B ∧ -1 ≤ i ∧ i ≤ 79 ∧ s8 = .int .u64 n ∧ s9 = .int .u64 rest ∧ s10 = .int .i64 i ∧ w' = w ∧ Keep (DvI X B i n rest)) (fun _ _ s10 _ => (intOf s10 + 1).toNat)
  case atStart => exact ⟨0, 0, 79, by omega, by omega, by omega, by omega, by omega, by omega, rfl, rfl, rfl, rfl, HI⟩
  case round =>
    clear HI
    obtain ⟨n, rest, i, n0, n1, r0, r1, im, it, rfl, rfl, rfl, rfl, HI⟩ := hrel
    by_cases i0 : 0 ≤ i
    · by_cases c16 : 16 ≤ i
      · have cp := power_i (i - 16) (by omega) (by omega) wr
        obtain ⟨bit, hbit⟩ : ∃ z, X / p2 i.toNat % 2 = z := ⟨_, rfl⟩
        have hb2 : bit = A / p2 (i - 16).toNat % 2 := by
          rw [← hbit, ← HX.out, show i.toNat = (i - 16).toNat + 16 by omega, bit_high]
        have Pp := p2_pos (i - 16).toNat
        have Pt : p2 (i - 16).toNat ≤ 9223372036854775808 := by rw [← p2_63]; exact p2_le (by omega)
        have b0 : 0 ≤ bit := by omega
        have b1 : bit ≤ 1 := by omega
        obtain ⟨N1, N2⟩ := HI.out.next i0 B0 b0 b1 hbit
        generalize p2 (i - 16).toNat = P at *
        have Q0 : 0 ≤ A / P := Int.ediv_nonneg A0 (by omega)
        have Q1 : A / P ≤ A := Int.ediv_le_self _ A0
        obtain ⟨Q, hQ⟩ : ∃ z, A / P = z := ⟨_, rfl⟩
        rw [hQ] at hb2 Q0 Q1
        have hb3 : Q % 2 = bit := hb2.symm
        have Pz : ¬ P = 0 := by omega
        clear hb2 hbit
        by_cases g1 : B ≤ rest * 2 + bit
        · have HS := Keep.mk (N1 g1)
          clear N1 N2 HI
          have r1 : rest * 2 + bit - B < B := by omega
          by_cases g2 : 4398046511104 < n * 2 + 1
          · rw [show lid (n * 2 + 1) = 4398046511104 from if_pos g2] at HS
            go_wp2_with fail
            refine cp.mono ?_
            rintro e w' ⟨rfl, hw⟩; rw [hw]
            go_wp2_with fail
            refine ⟨⟨4398046511104, rest * 2 + bit - B, i - 1, by omega, by omega, by omega, by omega, by omega, by omega, rfl, rfl, rfl, trivial, HS⟩, ?_⟩
            simp only [intOf]; omega
          · rw [show lid (n * 2 + 1) = n * 2 + 1 from if_neg g2] at HS
            go_wp2_with fail
            refine cp.mono ?_
            rintro e w' ⟨rfl, hw⟩; rw [hw]
            go_wp2_with fail
            refine ⟨⟨n * 2 + 1, rest * 2 + bit - B, i - 1, by omega, by omega, by omega, by omega, by omega, by omega, rfl, rfl, rfl, trivial, HS⟩, ?_⟩
            simp only [intOf]; omega
        · have HS := Keep.mk (N2 g1)
          clear N1 N2 HI
          by_cases g2 : 4398046511104 < n * 2
          · rw [show lid (n * 2) = 4398046511104 from if_pos g2] at HS
            go_wp2_with fail
            refine cp.mono ?_
            rintro e w' ⟨rfl, hw⟩; rw [hw]
            go_wp2_with fail
            refine ⟨⟨4398046511104, rest * 2 + bit, i - 1, by omega, by omega, by omega, by omega, by omega, by omega, rfl, rfl, rfl, trivial, HS⟩, ?_⟩
            simp only [intOf]; omega
          · rw [show lid (n * 2) = n * 2 from if_neg g2] at HS
            go_wp2_with fail
            refine cp.mono ?_
            rintro e w' ⟨rfl, hw⟩; rw [hw]
            go_wp2_with fail
            refine ⟨⟨n * 2, rest * 2 + bit, i - 1, by omega, by omega, by omega, by omega, by omega, by omega, rfl, rfl, rfl, trivial, HS⟩, ?_⟩
            simp only [intOf]; omega

      · have c16' : i < 16 := by omega
        have hbit : X / p2 i.toNat % 2 = 0 := by rw [← HX.out]; exact bit_low A _ (by omega)
        obtain ⟨N1, N2⟩ := HI.out.next i0 B0 (by omega) (by omega) hbit
        rw [Int.add_zero] at N1 N2
        clear hbit
        by_cases g1 : B ≤ rest * 2
        · have HS := Keep.mk (N1 g1)
          clear N1 N2 HI
          have r1 : rest * 2 - B < B := by omega
          by_cases g2 : 4398046511104 < n * 2 + 1
          · rw [show lid (n * 2 + 1) = 4398046511104 from if_pos g2] at HS
            go_wp2_with fail
            refine ⟨⟨4398046511104, rest * 2 - B, i - 1, by omega, by omega, by omega, by omega, by omega, by omega, rfl, rfl, rfl, trivial, HS⟩, ?_⟩
            simp only [intOf]; omega
          · rw [show lid (n * 2 + 1) = n * 2 + 1 from if_neg g2] at HS
            go_wp2_with fail
            refine ⟨⟨n * 2 + 1, rest * 2 - B, i - 1, by omega, by omega, by omega, by omega, by omega, by omega, rfl, rfl, rfl, trivial, HS⟩, ?_⟩
            simp only [intOf]; omega
        · have HS := Keep.mk (N2 g1)
          clear N1 N2 HI
          by_cases g2 : 4398046511104 < n * 2
          · rw [show lid (n * 2) = 4398046511104 from if_pos g2] at HS
            go_wp2_with fail
            refine ⟨⟨4398046511104, rest * 2, i - 1, by omega, by omega, by omega, by omega, by omega, by omega, rfl, rfl, rfl, trivial, HS⟩, ?_⟩
            simp only [intOf]; omega
          · rw [show lid (n * 2) = n * 2 from if_neg g2] at HS
            go_wp2_with fail
            refine ⟨⟨n * 2, rest * 2, i - 1, by omega, by omega, by omega, by omega, by omega, by omega, rfl, rfl, rfl, trivial, HS⟩, ?_⟩
            simp only [intOf]; omega

    · obtain rfl : i = -1 := by omega
      have HL := Keep.mk HI.out.last
      clear HI
      have c4 := rbounded_c false n (by omega) (by omega) wr
      have HE : bdS false n = R := by
        have h2 := HL.out.2
        rw [← HR.out]
        generalize X / B = q at *
        unfold lid at h2
        unfold bdS sideZ
        simp only [Bool.false_eq_true, if_false]
        (repeat' split) <;> (repeat' split at h2) <;> omega
      rw [HE] at c4
      clear HE HL
      go_wp2_with fail
      refine c4.mono ?_
      rintro e w' ⟨rfl, hw⟩; rw [hw]
      go_wp2_with fail
      go_ret
      exact ⟨rfl, rfl⟩

set_option maxHeartbeats 8000000 in
theorem rdiv_neg (a b A B X R : Int) (w : World) (hz : ¬ b = 0) (hbl : (decide (a < 0) != decide (b < 0)) = true) (ha : (a != 0) = true)
    (c1 : Calls Tryd.prog 38 #[.int .i64 a] w fun e w' => e = .returned (.int .u64 A) ∧ w' = w)
    (c2 : Calls Tryd.prog 38 #[.int .i64 b] w fun e w' => e = .returned (.int .u64 B) ∧ w' = w)
    (A0 : 0 ≤ A) (A1 : A ≤ 9223372036854775808) (B0 : 0 < B) (B1 : B ≤ 9223372036854775808) (HX : Keep (A * 65536 = X)) (HR : Keep (sideZ true (X / B) (X % B) = R)) :
    Calls Tryd.prog 27 #[.int .i64 a, .int .i64 b] w fun e w' => e = .returned (.int .i64 R) ∧ w' = w := by
  have hne := neq_b
  have HI : Keep (DvI X B 79 0 0) := ⟨DvI.first (by rw [← HX.out]; exact top_zero A A0 A1)⟩
  go_enter Tryd.func27, Tryd.ntmps27
  go_wp2_with fail
  refine c1.mono ?_
  rintro e w' ⟨rfl, hw⟩; rw [hw]
  go_wp2_with fail
  refine c2.mono ?_
  rintro e w' ⟨rfl, hw⟩; rw [hw]
  go_wp2_with fail
  clear c1 c2
  go_loopw [8, 9, 10] (fun s8 s9 s10 w' => ∃ n rest i : Int, 0 ≤ n ∧ n ≤ 4398046511104 ∧ 0 ≤ rest ∧ rest < B ∧ -1 ≤ i ∧ i ≤ 79 ∧ s8 = .int .u64 n ∧ s9 = .int .u64 rest ∧ s10 = .int .i64 i ∧ w' = w ∧ Keep (DvI X B i n rest)) (fun _ _ s10 _ => (intOf s10 + 1).toNat)
  case atStart => exact ⟨0, 0, 79, by omega, by omega, by omega, by omega, by omega, by omega, rfl, rfl, rfl, rfl, HI⟩
  case round =>
    clear HI
    obtain ⟨n, rest, i, n0, n1, r0, r1, im, it, rfl, rfl, rfl, rfl, HI⟩ := hrel
    by_cases i0 : 0 ≤ i
    · by_cases c16 : 16 ≤ i
      · have cp := power_i (i - 16) (by omega) (by omega) wr
        obtain ⟨bit, hbit⟩ : ∃ z, X / p2 i.toNat % 2 = z := ⟨_, rfl⟩
        have hb2 : bit = A / p2 (i - 16).toNat % 2 := by
          rw [← hbit, ← HX.out, show i.toNat = (i - 16).toNat + 16 by omega, bit_high]
        have Pp := p2_pos (i - 16).toNat
        have Pt : p2 (i - 16).toNat ≤ 9223372036854775808 := by rw [← p2_63]; exact p2_le (by omega)
        have b0 : 0 ≤ bit := by omega
        have b1 : bit ≤ 1 := by omega
        obtain ⟨N1, N2⟩ := HI.out.next i0 B0 b0 b1 hbit
        generalize p2 (i - 16).toNat = P at *
        have Q0 : 0 ≤ A / P := Int.ediv_nonneg A0 (by omega)
        have Q1 : A / P ≤ A := Int.ediv_le_self _ A0
        obtain ⟨Q, hQ⟩ : ∃ z, A / P = z := ⟨_, rfl⟩
        rw [hQ] at hb2 Q0 Q1
        have hb3 : Q % 2 = bit := hb2.symm
        have Pz : ¬ P = 0 := by omega
        clear hb2 hbit
        by_cases g1 : B ≤ rest * 2 + bit
        · have HS := Keep.mk (N1 g1)
          clear N1 N2 HI
          have r1 : rest * 2 + bit - B < B := by omega
          by_cases g2 : 4398046511104 < n * 2 + 1
          · rw [show lid (n * 2 + 1) = 4398046511104 from if_pos g2] at HS
            go_wp2_with fail
            refine cp.mono ?_
            rintro e w' ⟨rfl, hw⟩; rw [hw]
            go_wp2_with fail
            refine ⟨⟨4398046511104, rest * 2 + bit - B, i - 1, by omega, by omega, by omega, by omega, by omega, by omega, rfl, rfl, rfl, trivial, HS⟩, ?_⟩
            simp only [intOf]; omega
          · rw [show lid (n * 2 + 1) = n * 2 + 1 from if_neg g2] at HS
            go_wp2_with fail
            refine cp.mono ?_
            rintro e w' ⟨rfl, hw⟩; rw [hw]
            go_wp2_with fail
            refine ⟨⟨n * 2 + 1, rest * 2 + bit - B, i - 1, by omega, by omega, by omega, by omega, by omega, by omega, rfl, rfl, rfl, trivial, HS⟩, ?_⟩
            simp only [intOf]; omega
        · have HS := Keep.mk (N2 g1)
          clear N1 N2 HI
          by_cases g2 : 4398046511104 < n * 2
          · rw [show lid (n * 2) = 4398046511104 from if_pos g2] at HS
            go_wp2_with fail
            refine cp.mono ?_
            rintro e w' ⟨rfl, hw⟩; rw [hw]
            go_wp2_with fail
            refine ⟨⟨4398046511104, rest * 2 + bit, i - 1, by omega, by omega, by omega, by omega, by omega, by omega, rfl, rfl, rfl, trivial, HS⟩, ?_⟩
            simp only [intOf]; omega
          · rw [show lid (n * 2) = n * 2 from if_neg g2] at HS
            go_wp2_with fail
            refine cp.mono ?_
            rintro e w' ⟨rfl, hw⟩; rw [hw]
            go_wp2_with fail
            refine ⟨⟨n * 2, rest * 2 + bit, i - 1, by omega, by omega, by omega, by omega, by omega, by omega, rfl, rfl, rfl, trivial, HS⟩, ?_⟩
            simp only [intOf]; omega

      · have c16' : i < 16 := by omega
        have hbit : X / p2 i.toNat % 2 = 0 := by rw [← HX.out]; exact bit_low A _ (by omega)
        obtain ⟨N1, N2⟩ := HI.out.next i0 B0 (by omega) (by omega) hbit
        rw [Int.add_zero] at N1 N2
        clear hbit
        by_cases g1 : B ≤ rest * 2
        · have HS := Keep.mk (N1 g1)
          clear N1 N2 HI
          have r1 : rest * 2 - B < B := by omega
          by_cases g2 : 4398046511104 < n * 2 + 1
          · rw [show lid (n * 2 + 1) = 4398046511104 from if_pos g2] at HS
            go_wp2_with fail
            refine ⟨⟨4398046511104, rest * 2 - B, i - 1, by omega, by omega, by omega, by omega, by omega, by omega, rfl, rfl, rfl, trivial, HS⟩, ?_⟩
            simp only [intOf]; omega
          · rw [show lid (n * 2 + 1) = n * 2 + 1 from if_neg g2] at HS
            go_wp2_with fail
            refine ⟨⟨n * 2 + 1, rest * 2 - B, i - 1, by omega, by omega, by omega, by omega, by omega, by omega, rfl, rfl, rfl, trivial, HS⟩, ?_⟩
            simp only [intOf]; omega
        · have HS := Keep.mk (N2 g1)
          clear N1 N2 HI
          by_cases g2 : 4398046511104 < n * 2
          · rw [show lid (n * 2) = 4398046511104 from if_pos g2] at HS
            go_wp2_with fail
            refine ⟨⟨4398046511104, rest * 2, i - 1, by omega, by omega, by omega, by omega, by omega, by omega, rfl, rfl, rfl, trivial, HS⟩, ?_⟩
            simp only [intOf]; omega
          · rw [show lid (n * 2) = n * 2 from if_neg g2] at HS
            go_wp2_with fail
            refine ⟨⟨n * 2, rest * 2, i - 1, by omega, by omega, by omega, by omega, by omega, by omega, rfl, rfl, rfl, trivial, HS⟩, ?_⟩
            simp only [intOf]; omega

    · obtain rfl : i = -1 := by omega
      have HL := Keep.mk HI.out.last
      clear HI
      by_cases g : rest = 0
      · have c4 := rbounded_c true n (by omega) (by omega) wr
        have HE : bdS true n = R := by
          rw [← HR.out, ← HL.out.1]
          have h2 := HL.out.2
          generalize X / B = q at *
          unfold lid at h2
          unfold bdS sideZ
          simp only [if_true, if_pos g]
          (repeat' split) <;> (repeat' split at h2) <;> omega
        rw [HE] at c4
        clear HE HL
        go_wp2_with fail
        refine c4.mono ?_
        rintro e w' ⟨rfl, hw⟩; rw [hw]
        go_wp2_with fail
        go_ret
        exact ⟨rfl, rfl⟩
      · have c4 := rbounded_c true (n + 1) (by omega) (by omega) wr
        have HE : bdS true (n + 1) = R := by
          rw [← HR.out, ← HL.out.1]
          have h2 := HL.out.2
          generalize X / B = q at *
          unfold lid at h2
          unfold bdS sideZ
          simp only [if_true, if_neg g]
          (repeat' split) <;> (repeat' split at h2) <;> omega
        rw [HE] at c4
        clear HE HL
        have g2 : 0 < rest := by omega
        go_wp2_with fail
        refine c4.mono ?_
        rintro e w' ⟨rfl, hw⟩; rw [hw]
        go_wp2_with fail
        go_ret
        exact ⟨rfl, rfl⟩

set_option maxHeartbeats 1000000 in
theorem rdiv_by0 (a : Int) (w : World) :
    Calls Tryd.prog 27 #[.int .i64 a, .int .i64 0] w fun e w' => e = .returned (.int .i64 (clampZ a (-1) 1 * 1099511627776)) ∧ w' = w := by
  by_cases h : a = 0
  · subst h
    go_enter Tryd.func27, Tryd.ntmps27
    go_wp2_with fail
    go_ret
    exact ⟨rfl, rfl⟩
  · have c := rbounded_c (decide (a < 0)) 1099511627776 (by omega) (by omega) w
    have HE : bdS (decide (a < 0)) 1099511627776 = clampZ a (-1) 1 * 1099511627776 := by
      unfold bdS clampZ
      by_cases c : a < 0
      · have c2 : a < -1 ∨ a = -1 := by omega
        simp only [c, decide_true, if_true]
        (repeat' split) <;> omega
      · simp only [c, decide_false, Bool.false_eq_true, if_false]
        (repeat' split) <;> omega
    rw [HE] at c
    clear HE
    go_enter Tryd.func27, Tryd.ntmps27
    go_wp2_with fail
    refine c.mono ?_
    rintro e w' ⟨rfl, hw⟩; rw [hw]
    go_wp2_with fail
    go_ret
    exact ⟨rfl, rfl⟩

theorem rdiv_c (a b : Int) (ha : In a) (hb : In b) (w : World) :
    Calls Tryd.prog 27 #[.int .i64 a, .int .i64 b] w fun e w' => e = .returned (.int .i64 (divZ a b)) ∧ w' = w := by
  by_cases hz : b = 0
  · subst hz
    have e0 : divZ a 0 = clampZ a (-1) 1 * 1099511627776 := by unfold divZ; rw [if_pos rfl]
    rw [e0]
    exact rdiv_by0 a w
  · have A1 := abs64_in a ha
    have B1 := abs64_in b hb
    have B0 := abs64_pos b hz
    have e0 : divZ a b = sideZ (decide (a < 0) != decide (b < 0)) (abs64 a * 65536 / abs64 b) (abs64 a * 65536 % abs64 b) := by unfold divZ; rw [if_neg hz]
    rw [e0]
    by_cases hbl : (decide (a < 0) != decide (b < 0)) = true
    · by_cases h0 : (a != 0) = true
      · exact rdiv_neg a b (abs64 a) (abs64 b) _ _ w hz hbl h0 (rsize_c a ha w) (rsize_c b hb w) A1.1 A1.2 B0 B1.2 ⟨rfl⟩ ⟨by rw [hbl]⟩
      · have h0' : (a != 0) = false := by simpa using h0
        have ha0 : a = 0 := by simpa using h0'
        refine rdiv_zer a b (abs64 a) (abs64 b) _ _ w hz hbl h0' (rsize_c a ha w) (rsize_c b hb w) A1.1 A1.2 B0 B1.2 ⟨rfl⟩ ⟨?_⟩
        rw [hbl]
        have e1 : abs64 a = 0 := by rw [ha0]; rfl
        rw [e1, Int.zero_mul, Int.zero_ediv, Int.zero_emod]
        decide
    · have hbl' : (decide (a < 0) != decide (b < 0)) = false := by simpa using hbl
      exact rdiv_pos a b (abs64 a) (abs64 b) _ _ w hz hbl' (rsize_c a ha w) (rsize_c b hb w) A1.1 A1.2 B0 B1.2 ⟨rfl⟩ ⟨by rw [hbl']⟩
end Go.Proofs.YtkfkhjafhlafhaaDoor
