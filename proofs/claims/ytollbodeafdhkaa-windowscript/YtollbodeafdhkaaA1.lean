/- window: above, within, Check, High, Bits. -/
import Derived.Test.YtollbodeafdhkaaBase
import Derived.Test.YtollbodeafdhkaaP0
import Derived.Deep.RegionHeld
namespace Go.Proofs.Ytollbodeafdhkaa
open Go Go.RowKit

abbrev uv (x : Nat) : Value := .int .u64 (x : Nat)
abbrev wv (h B : Nat) : List Value := [uv h, uv B]
theorem wu (x : Int) (h : 0 ≤ x) (h2 : x < 18446744073709551616) : IntKind.u64.wrap x = x := by
  simp [IntKind.wrap, IntKind.bits, IntKind.signed]; omega
theorem wi (x : Int) (h : -9223372036854775808 ≤ x) (h2 : x ≤ 9223372036854775807) : IntKind.i64.wrap x = x := by
  rw [IntKind.wrap_i64]; omega
theorem above_c (h B s : Nat) (w : World) (hs : s < 18446744073709551616) (h1 : h < s) :
    Calls Try.prog 17 #[.agg #[uv h, uv B], uv s] w fun e w' => e = .returned (.int .i64 (chk h B s : Nat)) ∧ w.grownBy w' none := by
  have hw : IntKind.u64.wrap ((s : Int) - (h : Int)) = ((s - h : Nat) : Int) := by rw [wu _ (by omega) (by omega)]; omega
  have HC : Keep (chk h B s = if 64 < s - h then 92 else 0) := ⟨by unfold chk; rw [if_pos h1]⟩
  generalize chk h B s = c at *
  obtain ⟨d, hd⟩ : ∃ d, s - h = d := ⟨_, rfl⟩
  rw [hd] at hw HC
  clear hd
  go_enter Try.func17, Try.ntmps17
  go_wp2_with fail
  · go_ret
    rename_i q
    exact ⟨by rw [HC.out, if_pos (by omega)]; rfl, World.grownBy_alloc _ _ _⟩
  · go_ret
    rename_i q
    exact ⟨by rw [HC.out, if_neg (by omega)]; rfl, World.grownBy_alloc _ _ _⟩
theorem bit_is (B d : Nat) (hB : B < 18446744073709551616) : (bits BinOp.and IntKind.u64 ((B : Int) / 2 ^ d) 1 == 1) = B.testBit d := by
  have e1 : ((B : Int) / 2 ^ d) = ((B / 2 ^ d : Nat) : Int) := by simp
  have e2 : B / 2 ^ d < 18446744073709551616 := Nat.lt_of_le_of_lt (Nat.div_le_self _ _) hB
  have := u64_and_nat (B / 2 ^ d) 1 e2 (by omega)
  rw [e1]
  rw [show ((1 : Nat) : Int) = 1 by rfl] at this
  rw [this, nat_mask1, Nat.testBit_eq_decide_div_mod_eq]
  rw [Bool.eq_iff_iff]
  simp only [beq_iff_eq, decide_eq_true_eq]
  omega
theorem within_c (h B s : Nat) (w : World) (hh : h < 18446744073709551616) (hB : B < 18446744073709551616) (h1 : ¬ h < s) :
    Calls Try.prog 18 #[.agg #[uv h, uv B], uv s] w fun e w' => e = .returned (.int .i64 (chk h B s : Nat)) ∧ w.grownBy w' none := by
  have hw : IntKind.u64.wrap ((h : Int) - (s : Int)) = ((h - s : Nat) : Int) := by rw [wu _ (by omega) (by omega)]; omega
  have HC : Keep (chk h B s = if s = 0 ∨ 64 ≤ h - s then 90 else if B.testBit (h - s) then 91 else 0) := ⟨by unfold chk; rw [if_neg h1]⟩
  generalize chk h B s = c at *
  obtain ⟨d, hd⟩ : ∃ d, h - s = d := ⟨_, rfl⟩
  rw [hd] at hw HC
  have HB := Keep.mk (bit_is B d hB)
  clear hd
  go_enter Try.func18, Try.ntmps18
  go_wp2_with fail
  · go_ret
    have q : ((s : Int) == 0) = true := by assumption
    exact ⟨by rw [HC.out, if_pos (by simp at q; omega)]; rfl, World.grownBy_alloc _ _ _⟩
  · go_ret
    have q : (64 : Int) ≤ (d : Int) := by assumption
    exact ⟨by rw [HC.out, if_pos (by omega)]; rfl, World.grownBy_alloc _ _ _⟩
  · have q1 : ((s : Int) == 0) = false := by assumption
    have q2 : (d : Int) < 64 := by assumption
    have q3 : (bits BinOp.and IntKind.u64 ((B : Int) / 2 ^ d) 1 == 1) = true := by assumption
    rw [HB.out] at q3
    go_ret
    exact ⟨by rw [HC.out, if_neg (by simp at q1; omega), if_pos q3]; rfl, World.grownBy_alloc _ _ _⟩
  · have q1 : ((s : Int) == 0) = false := by assumption
    have q2 : (d : Int) < 64 := by assumption
    have q3 : (bits BinOp.and IntKind.u64 ((B : Int) / 2 ^ d) 1 == 1) = false := by assumption
    rw [HB.out] at q3
    go_ret
    exact ⟨by rw [HC.out, if_neg (by simp at q1; omega), if_neg (by simp [q3])]; rfl, World.grownBy_alloc _ _ _⟩
theorem check_c (h B s : Nat) (w : World) (hh : h < 18446744073709551616) (hB : B < 18446744073709551616) (hs : s < 18446744073709551616) :
    Calls Try.prog 11 #[.agg #[uv h, uv B], uv s] w fun e w' => e = .returned (.int .i64 (chk h B s : Nat)) ∧ w.grownBy w' none := by
  have HA : Keep (h < s → ∀ w, Calls Try.prog 17 #[.agg #[uv h, uv B], uv s] w fun e w' => e = .returned (.int .i64 (chk h B s : Nat)) ∧ w.grownBy w' none) := ⟨fun q w => above_c h B s w hs q⟩
  have HW : Keep (¬ h < s → ∀ w, Calls Try.prog 18 #[.agg #[uv h, uv B], uv s] w fun e w' => e = .returned (.int .i64 (chk h B s : Nat)) ∧ w.grownBy w' none) := ⟨fun q w => within_c h B s w hh hB q⟩
  generalize chk h B s = c at *
  by_cases h1 : h < s
  · have h1i : (h : Int) < (s : Int) := by omega
    go_enter Try.func11, Try.ntmps11
    go_wp2_with fail
    refine (HA.out h1 _).mono ?_
    rintro e w1 ⟨rfl, g⟩
    go_wp2_with fail
    go_ret
    exact ⟨rfl, (World.grownBy_alloc _ _ _).trans g⟩
  · have h1i : ¬ (h : Int) < (s : Int) := by omega
    go_enter Try.func11, Try.ntmps11
    go_wp2_with fail
    refine (HW.out h1 _).mono ?_
    rintro e w1 ⟨rfl, g⟩
    go_wp2_with fail
    go_ret
    exact ⟨rfl, (World.grownBy_alloc _ _ _).trans g⟩
theorem high_c (h B : Nat) (w : World) : Calls Try.prog 10 #[.agg #[uv h, uv B]] w fun e w' => e = .returned (uv h) ∧ w.grownBy w' none := by
  go_enter Try.func10, Try.ntmps10
  go_wp2_with fail
  go_ret
  exact ⟨rfl, World.grownBy_alloc _ _ _⟩
theorem bits_c (h B : Nat) (w : World) : Calls Try.prog 13 #[.agg #[uv h, uv B]] w fun e w' => e = .returned (uv B) ∧ w.grownBy w' none := by
  go_enter Try.func13, Try.ntmps13
  go_wp2_with fail
  go_ret
  exact ⟨rfl, World.grownBy_alloc _ _ _⟩
theorem num_c (x : Int) (w : World) : Calls Try.prog 8 #[.int .i64 x] w fun e w' => e = .returned (.int .i64 x) ∧ w' = w := by
  go_enter Try.func8, Try.ntmps8
  go_wp2_with fail
  go_ret
  exact ⟨rfl, rfl⟩
end Go.Proofs.Ytollbodeafdhkaa
