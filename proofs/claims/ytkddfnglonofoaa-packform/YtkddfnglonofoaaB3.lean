/- pack: the Reader. -/
import Derived.Test.YtkddfnglonofoaaB2
namespace Go.Proofs.Ytkddfnglonofoaa
open Go Go.RowKit

theorem rNumL_len (st : RS) (size : Int) : (rNumL st size).1.length ≤ 8 := by
  unfold rNumL
  split
  · rename_i h
    have := rTake_len st size
    have := h.2
    omega
  · simp
theorem val8 (l : List UInt8) (h : l.length ≤ 8) : val l < 18446744073709551616 := by
  have h1 := val_lt l
  have h3 : 256 ^ l.length ≤ 256 ^ 8 := Nat.pow_le_pow_right (by omega) h
  have h4 : (256 : Nat) ^ 8 = 18446744073709551616 := by decide
  omega
theorem sval8 (l : List UInt8) (h : l.length ≤ 8) : -9223372036854775808 ≤ sval l ∧ sval l < 9223372036854775808 := by
  have h1 := val_lt l
  unfold sval
  obtain ⟨n, hn⟩ : ∃ n, val l = n := ⟨_, rfl⟩
  obtain ⟨k, hk⟩ : ∃ k, l.length = k := ⟨_, rfl⟩
  rw [hn, hk] at h1 ⊢
  have h9 : k = 0 ∨ k = 1 ∨ k = 2 ∨ k = 3 ∨ k = 4 ∨ k = 5 ∨ k = 6 ∨ k = 7 ∨ k = 8 := by omega
  clear hk hn h
  have key : ∀ p : Nat, p ≤ 18446744073709551616 → n < p → -9223372036854775808 ≤ (if 2 * n < p then (n : Int) else (n : Int) - (p : Nat)) ∧ (if 2 * n < p then (n : Int) else (n : Int) - (p : Nat)) < 9223372036854775808 := fun p hp hn => by
    split <;> omega
  refine key _ ?_ h1
  have h3 : 256 ^ k ≤ 256 ^ 8 := Nat.pow_le_pow_right (by omega) (by omega)
  have h4 : (256 : Nat) ^ 8 = 18446744073709551616 := by decide
  omega
theorem rNum_lt (st : RS) (size : Int) : (rNum st size).1 < 18446744073709551616 := val8 _ (rNumL_len st size)
theorem rNum_lt1 (st : RS) : (rNum st 1).1 < 256 := by
  have h1 := val_lt (rNumL st 1).1
  have h2 : (rNumL st 1).1.length ≤ 1 := by
    unfold rNumL
    split
    · have := rTake_len st 1; omega
    · simp
  have h3 : 256 ^ (rNumL st 1).1.length ≤ 256 ^ 1 := Nat.pow_le_pow_right (by omega) h2
  show val (rNumL st 1).1 < 256
  omega
theorem newR_c (s : ByteArray) (w : World) :
    Calls Try.prog 10 #[.string s] w fun e w' => ∃ rb B, e = .returned (.pointer (some ⟨rb, 0, none⟩)) ∧ RAt w' rb B (sl s, 0) ∧ w.grownBy w' none ∧ w.heap.size ≤ rb ∧ w.heap.size ≤ B := by
  have hcv : ∀ W : World, (convert 9 53 (.string s)).run Try.prog W = .ok (.slice (some ⟨W.heap.size, 0, none⟩) s.size (grownCap W s.size 0 5)) (Lib.bytesWorld W 5 s) := fun W => Lib.run_convert_string_bytes (P := Try.prog) W 9 53 5 s (u := .string) under9 under53 under5
  have g1 : w.grownBy (Lib.bytesWorld w 5 s) none := ⟨rfl, rfl, rfl, by rw [Lib.bytesWorld_size]; omega, fun k hk _ => Lib.bytesWorld_at_old _ _ _ _ hk⟩
  have hb : Bs (Lib.bytesWorld w 5 s) w.heap.size (some ⟨w.heap.size, 0, none⟩) s.size (grownCap w s.size 0 5) (sl s) := by
    refine ⟨sl_len s, grownCap_ge w s.size 0 5, fun e => (by cases e), fun _ => ⟨0, rfl, fun j x hx => ?_⟩⟩
    have hj : j < s.size := by rw [← sl_len]; exact (List.getElem?_eq_some_iff.1 hx).1
    rw [Nat.zero_add, Lib.bytesWorld_cell _ _ _ j hj]
    unfold sl at hx
    simp [List.getD, hx]
  have hz : w.heap.size < (Lib.bytesWorld w 5 s).heap.size := by rw [Lib.bytesWorld_size]; omega
  have HG : Keep (w.grownBy (Lib.bytesWorld w 5 s) none ∧ Bs (Lib.bytesWorld w 5 s) w.heap.size (some ⟨w.heap.size, 0, none⟩) s.size (grownCap w s.size 0 5) (sl s) ∧ w.heap.size < (Lib.bytesWorld w 5 s).heap.size) := ⟨g1, hb, hz⟩
  clear g1 hb hz
  have hcw := hcv w
  clear hcv
  obtain ⟨w1, hw1⟩ : ∃ w1, Lib.bytesWorld w 5 s = w1 := ⟨_, rfl⟩
  obtain ⟨B, hB⟩ : ∃ B, w.heap.size = B := ⟨_, rfl⟩
  obtain ⟨c, hc⟩ : ∃ c, grownCap w s.size 0 5 = c := ⟨_, rfl⟩
  rw [hw1, hB, hc] at HG hcw
  clear hw1 hc
  go_enter Try.func10, Try.ntmps10
  go_wp2
  go_ret
  obtain ⟨q1, q2, q3⟩ := HG.out
  have g2 := World.grownBy_alloc w1 (.cells #[.slice (some ⟨B, 0, none⟩) s.size c, .int .i64 0] 55) none
  refine ⟨_, B, rfl, ⟨⟨some ⟨B, 0, none⟩, c, ?_, ?_⟩, by omega, Nat.lt_of_lt_of_le q3 g2.size, fun e => absurd rfl e⟩, q1.trans g2, by omega, by omega⟩
  · simp only [sl_len]; exact Has.newA w1 _ 55
  · simp only [sl_len]; exact q2.fr (S := fun _ => False) (Fr.ofNone g2) (fun e => e)
theorem rNumber_c (rb B : Nat) (st : RS) (size : Int) (w : World) (h : RAt w rb B st) :
    Calls Try.prog 13 #[.pointer (some ⟨rb, 0, none⟩), .int .i64 size] w fun e w' => e = .returned (.int .u64 ((rNum st size).1 : Nat)) ∧ RDid w w' rb B (rNum st size).2 := by
  have HH : Keep (RAt w rb B st) := ⟨h⟩
  clear h
  go_enter Try.func13, Try.ntmps13
  go_wp2_with fail
  refine (plain_c w).mono ?_
  rintro e w1 ⟨rfl, g1⟩
  go_wp2_with fail
  refine (rnumber_plain rb B st size w1 (HH.out.kept g1)).mono ?_
  rintro e w2 ⟨rfl, d2⟩
  have HD : Keep (RDid w w2 rb B (rNum st size).2) := ⟨d2.ahead g1⟩
  clear d2 g1 HH
  go_wp2
  go_ret
  exact ⟨rfl, HD.out⟩
theorem rSigned_c (rb B : Nat) (st : RS) (size : Int) (w : World) (h : RAt w rb B st) :
    Calls Try.prog 15 #[.pointer (some ⟨rb, 0, none⟩), .int .i64 size] w fun e w' => e = .returned (.int .i64 (rSig st size).1) ∧ RDid w w' rb B (rSig st size).2 := by
  have HH : Keep (RAt w rb B st) := ⟨h⟩
  have HW : Keep (wrap64 (u64 (rSig st size).1 : Nat) = (rSig st size).1) := ⟨by
    have := sval8 _ (rNumL_len st size)
    have e : (rSig st size).1 = sval (rNumL st size).1 := rfl
    rw [e]
    unfold u64 wrap64
    omega⟩
  clear h
  go_enter Try.func15, Try.ntmps15
  go_wp2_with fail
  refine (signed_c w).mono ?_
  rintro e w1 ⟨rfl, g1⟩
  go_wp2_with fail
  refine (rnumber_signed rb B st size w1 (HH.out.kept g1)).mono ?_
  rintro e w2 ⟨rfl, d2⟩
  have HD : Keep (RDid w w2 rb B (rSig st size).2) := ⟨d2.ahead g1⟩
  clear d2 g1 HH
  go_wp2
  go_ret
  exact ⟨congrArg (fun z => Ending.returned (.int .i64 z)) HW.out, HD.out⟩
theorem rBytes_c (rb B : Nat) (st : RS) (n : Int) (w : World) (h : RAt w rb B st) :
    Calls Try.prog 17 #[.pointer (some ⟨rb, 0, none⟩), .int .i64 n] w fun e w' => e = .returned (.string ⟨(rTake st n).1.toArray⟩) ∧ RDid w w' rb B (rTake st n).2 := by
  have HH : Keep (RAt w rb B st) := ⟨h⟩
  clear h
  go_enter Try.func17, Try.ntmps17
  go_wp2_with fail
  refine (rtake_c rb B st n w HH.out).mono ?_
  rintro e w1 ⟨a, c, rfl, hb, d1⟩
  have hcv := hb.cvt
  have HD : Keep (RDid w w1 rb B (rTake st n).2) := ⟨d1⟩
  obtain ⟨s, hs⟩ : ∃ s, (⟨(rTake st n).1.toArray⟩ : ByteArray) = s := ⟨_, rfl⟩
  rw [hs] at hcv
  have HS : Keep ((⟨(rTake st n).1.toArray⟩ : ByteArray) = s) := ⟨hs⟩
  clear d1 hb HH hs
  generalize (rTake st n).1.length = k at *
  go_wp2
  go_ret
  exact ⟨by rw [HS.out]; rfl, HD.out⟩
theorem rText_c (rb B : Nat) (st : RS) (w : World) (h : RAt w rb B st) :
    Calls Try.prog 19 #[.pointer (some ⟨rb, 0, none⟩)] w fun e w' => e = .returned (.string ⟨(rText st).1.toArray⟩) ∧ RDid w w' rb B (rText st).2 := by
  have HH : Keep (RAt w rb B st) := ⟨h⟩
  clear h
  go_enter Try.func19, Try.ntmps19
  go_wp2_with fail
  refine (rNumber_c rb B st 1 w HH.out).mono ?_
  rintro e w1 ⟨rfl, d1⟩
  obtain ⟨k, hk⟩ : ∃ k, (rNum st 1).1 = k := ⟨_, rfl⟩
  obtain ⟨st1, hst1⟩ : ∃ q, (rNum st 1).2 = q := ⟨_, rfl⟩
  have hkl : k < 256 := by rw [← hk]; exact rNum_lt1 st
  have HT : Keep (rText st = rTake st1 k) := ⟨by unfold rText; rw [hk, hst1]⟩
  rw [hst1] at d1
  rw [hk]
  have HD : Keep (RDid w w1 rb B st1) := ⟨d1⟩
  have HW : Keep (IntKind.i64.wrap (k : Int) = (k : Int)) := ⟨wi _ (by omega) (by omega)⟩
  clear d1 HH hk hst1
  go_wp2_with fail
  try rw [HW.out]
  refine (rBytes_c rb B st1 k w1 HD.out.a).mono ?_
  rintro e w2 ⟨rfl, d2⟩
  have HE : Keep (RDid w w2 rb B (rText st).2) := ⟨by rw [HT.out]; exact HD.out.trans d2⟩
  clear d2 HD
  go_wp2
  go_ret
  exact ⟨by rw [HT.out]; rfl, HE.out⟩
theorem rTake_rest (st : RS) : rTake st st.1.length = (st.1, ([], st.2)) := by
  unfold rTake
  rw [if_neg (by omega), if_neg (by omega)]
  simp
theorem rRest_c (rb B : Nat) (st : RS) (w : World) (h : RAt w rb B st) :
    Calls Try.prog 20 #[.pointer (some ⟨rb, 0, none⟩)] w fun e w' => e = .returned (.string ⟨st.1.toArray⟩) ∧ RDid w w' rb B ([], st.2) := by
  have HH : Keep (RAt w rb B st) := ⟨h⟩
  have hr := rBytes_c rb B st st.1.length w h
  rw [rTake_rest] at hr
  have HR := Keep.mk hr
  obtain ⟨⟨a, c, h1, _⟩, _⟩ := h
  have c0 : w.cell? ⟨rb, 0, none⟩ = some (.slice a st.1.length c) := h1.cellv 0 _ rfl
  clear h1 hr
  go_enter Try.func20, Try.ntmps20
  go_wp2_with fail
  refine (HR.out).mono ?_
  rintro e w1 ⟨rfl, d1⟩
  have HD : Keep (RDid w w1 rb B ([], st.2)) := ⟨d1⟩
  clear d1 HR
  go_wp2
  go_ret
  exact ⟨rfl, HD.out⟩
theorem rLeft_c (rb B : Nat) (st : RS) (w : World) (h : RAt w rb B st) :
    Calls Try.prog 25 #[.pointer (some ⟨rb, 0, none⟩)] w fun e w' => e = .returned (.int .i64 (st.1.length : Nat)) ∧ w' = w := by
  obtain ⟨⟨a, c, h1, _⟩, _⟩ := h
  have c0 : w.cell? ⟨rb, 0, none⟩ = some (.slice a st.1.length c) := h1.cellv 0 _ rfl
  clear h1
  go_enter Try.func25, Try.ntmps25
  go_wp2
  go_ret
  exact ⟨rfl, rfl⟩
theorem rDone_c (rb B : Nat) (st : RS) (w : World) (h : RAt w rb B st) :
    Calls Try.prog 21 #[.pointer (some ⟨rb, 0, none⟩)] w fun e w' => e = .returned (.int .i64 (rDone st)) ∧ w' = w := by
  obtain ⟨⟨a, c, h1, _⟩, _⟩ := h
  have c0 : w.cell? ⟨rb, 0, none⟩ = some (.slice a st.1.length c) := h1.cellv 0 _ rfl
  have c1 : w.cell? ⟨rb, 1, none⟩ = some (.int .i64 st.2) := h1.cellv 1 _ rfl
  clear h1
  unfold rDone
  by_cases hl : 0 < st.1.length
  · rw [if_pos hl]
    have hl2 : (0 : Int) < (st.1.length : Nat) := by omega
    go_enter Try.func21, Try.ntmps21
    go_wp2
    go_ret
    exact ⟨rfl, rfl⟩
  · rw [if_neg hl]
    have hl2 : ¬ (0 : Int) < (st.1.length : Nat) := by omega
    go_enter Try.func21, Try.ntmps21
    go_wp2
    go_ret
    exact ⟨rfl, rfl⟩
end Go.Proofs.Ytkddfnglonofoaa
