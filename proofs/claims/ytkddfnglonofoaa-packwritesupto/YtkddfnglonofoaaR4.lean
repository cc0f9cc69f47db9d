/- the reference's Writer: Signed. -/
import Derived.Test.YtkddfnglonofoaaR3
namespace Go.Proofs.Ytkddfnglonofoaa
open Go Go.RowKit

theorem half_fits (i : Int) (k h : Nat) (hk : 1 ≤ k) (hk8 : k < 8) (hh : h = 2 ^ (8 * k - 1)) : fitsS i k ↔ (-(h : Int) ≤ i ∧ i < h) := by
  have e : (256 : Nat) ^ k = 2 * h := by
    rw [hh, ← Nat.pow_succ', show (8 * k - 1).succ = 8 * k by omega, Nat.pow_mul]
  unfold fitsS
  rw [Int.toNat_natCast, e]
  constructor
  · rintro ⟨_, h1, h2⟩; omega
  · rintro ⟨h1, h2⟩; exact ⟨⟨by omega, by omega⟩, by omega, by omega⟩
theorem eight_fits (i : Int) (hi : -9223372036854775808 ≤ i ∧ i < 9223372036854775808) : fitsS i 8 := by
  refine ⟨⟨by omega, by omega⟩, ?_⟩
  show -((18446744073709551616 : Nat) : Int) ≤ 2 * i ∧ 2 * i < ((18446744073709551616 : Nat) : Int)
  omega
set_option maxRecDepth 100000 in
set_option maxHeartbeats 8000000 in
theorem vSigned_c (vb : Nat) (st : WS) (x : Int) (size : Int) (w : World) (h : VAt w vb st) (hx : -9223372036854775808 ≤ x ∧ x < 9223372036854775808) (hl : (st.getD []).length ≤ 140737488355320) :
    Calls Try.prog 27 #[.pointer (some ⟨vb, 0, none⟩), .int .i64 x, .int .i64 size] w fun e w' => e = .returned (.tuple #[]) ∧ VDid w w' vb (wSig st x size) := by
  have HH : Keep (VAt w vb st) := ⟨h⟩
  have HX : Keep ((-9223372036854775808 ≤ x ∧ x < 9223372036854775808) ∧ (st.getD []).length ≤ 140737488355320) := ⟨hx, hl⟩
  clear h hx hl
  go_enter Try.func27, Try.ntmps27
  by_cases hs : sized size
  · have h1 : ¬ size < 1 := by have := hs.1; omega
    have h2 : ¬ size > 8 := by have := hs.2; omega
    have hF := fails_c vb st false w HH.out
    rw [Bool.or_false, if_neg (by simp)] at hF
    have HF := Keep.mk hF
    clear hF
    obtain ⟨k, rfl, hk8⟩ : ∃ k : Nat, size = k ∧ k ≤ 8 := ⟨size.toNat, by omega, by omega⟩
    have hk1 : 1 ≤ k := by omega
    have HS : Keep (sized (k : Int)) := ⟨hs⟩
    clear hs
    go_wp2_with fail
    refine HF.out.mono ?_
    rintro e w1 ⟨rfl, d1⟩
    have HD : Keep (VDid w w1 vb st) := ⟨d1⟩
    clear d1 HF
    cases st with
    | none =>
      have HN : Keep (wSig none x k = none) := ⟨by unfold wSig; split <;> rfl⟩
      simp only [Option.isNone_none]
      go_wp2_with fail
      refine bodyPost_ret (results_none rfl _ _ _) rfl ?_
      exact ⟨rfl, by rw [HN.out]; exact HD.out⟩
    | some l =>
      simp only [Option.isNone_some]
      have HWU : Keep (IntKind.u64.wrap x = (u64 x : Nat)) := ⟨by rw [wu]; unfold u64; omega⟩
      by_cases hk : k < 8
      · have hkk : (k : Int) < 8 := by omega
        have hw1 : IntKind.i64.wrap (8 * (k : Int)) = 8 * k := wi _ (by omega) (by omega)
        have hw2 : IntKind.i64.wrap (8 * (k : Int) - 1) = 8 * k - 1 := wi _ (by omega) (by omega)
        go_wp2_with fail
        go_loopw [6, 7] (fun s6 s7 w' => ∃ (j q : Nat), j ≤ 8 * k - 1 ∧ q ≤ 36028797018963968 ∧ s6 = .int .i64 q ∧ s7 = .int .i64 j ∧ Keep (q = 2 ^ j) ∧ w' = w1) (fun _ s7 _ => 8 * k - (intOf s7).toNat)
        case atStart => exact ⟨0, 1, by omega, by omega, rfl, rfl, ⟨rfl⟩, rfl⟩
        case round =>
          obtain ⟨j, q, hj, hq, rfl, rfl, HQ, rfl⟩ := hrel
          by_cases hjk : j < 8 * k - 1
          · have hjk2 : (j : Int) < 8 * (k : Int) - 1 := by omega
            have hwj : IntKind.i64.wrap ((j : Int) + 1) = ((j + 1 : Nat) : Int) := by rw [wi _ (by omega) (by omega)]; omega
            have hwq : IntKind.i64.wrap (2 * (q : Int)) = ((2 * q : Nat) : Int) := by rw [wi _ (by omega) (by omega)]; omega
            have HQ2 : Keep (2 * q = 2 ^ (j + 1)) := ⟨by rw [HQ.out, Nat.pow_succ']⟩
            have hq2 : 2 * q ≤ 36028797018963968 := by
              rw [HQ2.out]
              have h3 : 2 ^ (j + 1) ≤ 2 ^ 55 := Nat.pow_le_pow_right (by omega) (by omega)
              have h4 : (2 : Nat) ^ 55 = 36028797018963968 := by decide
              omega
            go_wp2_with fail
            refine ⟨⟨j + 1, 2 * q, by omega, hq2, by simp, by simp, HQ2, by trivial⟩, ?_⟩
            simp only [intOf]; omega
          · have hjk2 : ¬ ((j : Int) < 8 * (k : Int) - 1) := by omega
            obtain rfl : j = 8 * k - 1 := by omega
            have HFI : Keep (fitsS x k ↔ (-(q : Int) ≤ x ∧ x < q)) := ⟨half_fits x k q hk1 hk HQ.out⟩
            have hwn : IntKind.i64.wrap (-(q : Int)) = -(q : Int) := wi _ (by omega) (by omega)
            by_cases ha : x < -(q : Int)
            · have HN : Keep (wSig (some l) x k = none) := ⟨by unfold wSig; rw [if_neg (fun p => by have := HFI.out.1 p; omega)]⟩
              have HF := Keep.mk (fails_c vb (some l) true wr HD.out.a)
              go_wp2_with fail
              refine HF.out.mono ?_
              rintro e w2 ⟨rfl, d2⟩
              have HE : Keep (VDid w w2 vb none) := ⟨HD.out.trans d2⟩
              clear d2 HF HD
              simp only [Bool.or_true]
              go_wp2_with fail
              refine bodyPost_ret (results_none rfl _ _ _) rfl ?_
              exact ⟨rfl, by rw [HN.out]; exact HE.out⟩
            · by_cases hc : x < (q : Int)
              · have hc2 : ¬ (x ≥ (q : Int)) := by omega
                have hfit : fitsS x k := HFI.out.2 ⟨by omega, hc⟩
                have hF := fails_c vb (some l) false wr HD.out.a
                rw [Bool.or_false, if_neg (by simp)] at hF
                have HF := Keep.mk hF
                clear hF
                have HN : Keep (wSig (some l) x k = some (l ++ be k (u64 x))) := ⟨by unfold wSig; rw [if_pos hfit]; rfl⟩
                clear hfit
                go_wp2_with fail
                refine HF.out.mono ?_
                rintro e w2 ⟨rfl, d2⟩
                have HD2 : Keep (VDid w w2 vb (some l)) := ⟨HD.out.trans d2⟩
                clear d2 HF HD
                simp only [Option.isNone_some]
                go_wp2_with fail
                try rw [HWU.out]
                refine (digits_c (u64 x) k w2 (u64_lt x) (by omega)).mono ?_
                rintro e w3 ⟨rfl, g3⟩
                have HD3 : Keep (VDid w w3 vb (some l)) := ⟨HD2.out.grown g3⟩
                clear HD2 g3
                obtain ⟨s0, p1, p2⟩ := HD3.out.a.h
                have c0 : w3.cell? ⟨vb, 0, none⟩ = some (.string s0) := p1.cellv 0 _ rfl
                have f0 := p1.frozen 0
                have hsl : sl s0 = l := p2 l rfl
                have had := addS s0 ⟨(be k (u64 x)).toArray⟩ (by
                  have h1 := sz_mk' (be k (u64 x))
                  rw [be_len] at h1
                  have h2 : l.length ≤ 140737488355320 := HX.out.2
                  rw [← hsl, sl_len] at h2
                  omega)
                have HE : Keep (VDid w (w3.setCell ⟨vb, 0, none⟩ (.string (s0 ++ ⟨(be k (u64 x)).toArray⟩))) vb (some (l ++ be k (u64 x)))) := ⟨by
                  have := HD3.out.trans (HD3.out.a.set (s0 ++ ⟨(be k (u64 x)).toArray⟩))
                  rwa [sl_app, hsl, sl_mk] at this⟩
                clear p1 p2 hsl HD3
                generalize (⟨(be k (u64 x)).toArray⟩ : ByteArray) = sb at *
                go_wp2_with fail
                go_end0
                exact ⟨rfl, by rw [HN.out]; exact HE.out⟩
              · have hc2 : x ≥ (q : Int) := by omega
                have HN : Keep (wSig (some l) x k = none) := ⟨by unfold wSig; rw [if_neg (fun p => by have := HFI.out.1 p; omega)]⟩
                have HF := Keep.mk (fails_c vb (some l) true wr HD.out.a)
                go_wp2_with fail
                refine HF.out.mono ?_
                rintro e w2 ⟨rfl, d2⟩
                have HE : Keep (VDid w w2 vb none) := ⟨HD.out.trans d2⟩
                clear d2 HF HD
                simp only [Bool.or_true]
                go_wp2_with fail
                refine bodyPost_ret (results_none rfl _ _ _) rfl ?_
                exact ⟨rfl, by rw [HN.out]; exact HE.out⟩
      · have hkk : ¬ ((k : Int) < 8) := by omega
        obtain rfl : k = 8 := by omega
        have HN : Keep (wSig (some l) x (8 : Nat) = some (l ++ be 8 (u64 x))) := ⟨by unfold wSig; rw [if_pos (show fitsS x ((8 : Nat) : Int) from eight_fits x HX.out.1)]; rfl⟩
        have HD2 : Keep (VDid w w1 vb (some l)) := HD
        obtain ⟨w2, hw2⟩ : ∃ w2, w1 = w2 := ⟨_, rfl⟩
        rw [hw2] at HD2 ⊢
        clear HD hw2
        go_wp2_with fail
        try rw [HWU.out]
        refine (digits_c (u64 x) 8 w2 (u64_lt x) (by omega)).mono ?_
        rintro e w3 ⟨rfl, g3⟩
        have HD3 : Keep (VDid w w3 vb (some l)) := ⟨HD2.out.grown g3⟩
        clear HD2 g3
        obtain ⟨s0, p1, p2⟩ := HD3.out.a.h
        have c0 : w3.cell? ⟨vb, 0, none⟩ = some (.string s0) := p1.cellv 0 _ rfl
        have f0 := p1.frozen 0
        have hsl : sl s0 = l := p2 l rfl
        have had := addS s0 ⟨(be 8 (u64 x)).toArray⟩ (by
          have h1 := sz_mk' (be 8 (u64 x))
          rw [be_len] at h1
          have h2 : l.length ≤ 140737488355320 := HX.out.2
          rw [← hsl, sl_len] at h2
          omega)
        have HE : Keep (VDid w (w3.setCell ⟨vb, 0, none⟩ (.string (s0 ++ ⟨(be 8 (u64 x)).toArray⟩))) vb (some (l ++ be 8 (u64 x)))) := ⟨by
          have := HD3.out.trans (HD3.out.a.set (s0 ++ ⟨(be 8 (u64 x)).toArray⟩))
          rwa [sl_app, hsl, sl_mk] at this⟩
        clear p1 p2 hsl HD3
        generalize (⟨(be 8 (u64 x)).toArray⟩ : ByteArray) = sb at *
        go_wp2_with fail
        go_end0
        exact ⟨rfl, by rw [HN.out]; exact HE.out⟩
  · have HN : Keep (wSig st x size = none) := ⟨by unfold wSig; rw [if_neg (fun q => hs q.1)]⟩
    have hF := fails_c vb st true w HH.out
    rw [Bool.or_true] at hF
    have HF := Keep.mk hF
    clear hF
    by_cases h1 : size < 1
    · clear hs
      go_wp2_with fail
      refine HF.out.mono ?_
      rintro e w1 ⟨rfl, d1⟩
      have HD : Keep (VDid w w1 vb none) := ⟨d1⟩
      clear d1 HF
      go_wp2_with fail
      refine bodyPost_ret (results_none rfl _ _ _) rfl ?_
      exact ⟨rfl, by rw [HN.out]; exact HD.out⟩
    · have h2 : size > 8 := by
        have : ¬ (1 ≤ size ∧ size ≤ 8) := hs
        omega
      clear hs
      go_wp2_with fail
      refine HF.out.mono ?_
      rintro e w1 ⟨rfl, d1⟩
      have HD : Keep (VDid w w1 vb none) := ⟨d1⟩
      clear d1 HF
      go_wp2_with fail
      refine bodyPost_ret (results_none rfl _ _ _) rfl ?_
      exact ⟨rfl, by rw [HN.out]; exact HD.out⟩
end Go.Proofs.Ytkddfnglonofoaa
