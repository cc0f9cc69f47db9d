/- fix: the small functions. -/
import Derived.Test.YtmacmoikjgmaoaaDoorProg
import Derived.WalkKit
import Derived.WalkSpells
import Derived.WalkLawsBesides
import Derived.BigQuiet
import Derived.Deep.QuietTactic
import Derived.Laws.BitsAllLaws
import Derived.Laws.MathBits
namespace Go.Proofs.YtmacmoikjgmaoaaDoor
open Go Go.RowKit

/-- A fact that no tactic looks into. -/
structure Keep (p : Prop) : Prop where
  out : p
set_option maxRecDepth 100000 in
theorem ret_int {k : IntKind} {a b : Int} (h : a = b) : Ending.returned (.int k a) = .returned (.int k b) := by rw [h]
set_option maxRecDepth 100000 in
theorem gr_drewN (w : World) (n : Nat) (row : Option Nat) : w.grownBy (w.drewN n) row := ⟨rfl, rfl, rfl, Nat.le_refl _, fun _ _ _ => rfl⟩
set_option maxRecDepth 100000 in
theorem gr_drew (w : World) (row : Option Nat) : w.grownBy w.drew row := ⟨rfl, rfl, rfl, Nat.le_refl _, fun _ _ _ => rfl⟩

def In (a : Int) : Prop := -9223372036854775808 ≤ a ∧ a ≤ 9223372036854775807

def clampZ (x lo hi : Int) : Int := if hi < (if x < lo then lo else x) then hi else (if x < lo then lo else x)
def bd (n : Int) : Int := clampZ n (-1099511627776) 1099511627776
set_option maxRecDepth 100000 in
theorem bd_eq (n : Int) : bd n = if n < -1099511627776 then -1099511627776 else if 1099511627776 < n then 1099511627776 else n := by
  unfold bd clampZ; split <;> split <;> omega

set_option maxRecDepth 100000 in
theorem clamp_c (x lo hi : Int) (w : World) :
    Calls Tryd.prog 63 #[.int .i64 x, .int .i64 lo, .int .i64 hi] w fun e w' => e = .returned (.int .i64 (clampZ x lo hi)) ∧ w' = w := by
  go_enter Tryd.func63, Tryd.ntmps63
  unfold clampZ
  by_cases h : x < lo <;> simp only [h, if_true, if_false]
  · by_cases h2 : hi < lo
    · rw [if_pos h2]
      go_wp2
      go_ret
      exact ⟨rfl, rfl⟩
    · rw [if_neg h2]
      go_wp2
      go_ret
      exact ⟨rfl, rfl⟩
  · by_cases h2 : hi < x
    · rw [if_pos h2]
      go_wp2
      go_ret
      exact ⟨rfl, rfl⟩
    · rw [if_neg h2]
      go_wp2
      go_ret
      exact ⟨rfl, rfl⟩

def mostZ (b : Bool) : Int := if b then -1099511627776 else 1099511627776
set_option maxRecDepth 100000 in
theorem most_c (b : Bool) (w : World) :
    Calls Tryd.prog 50 #[.bool b] w fun e w' => e = .returned (.int .i64 (mostZ b)) ∧ w' = w := by
  go_enter Tryd.func50, Tryd.ntmps50
  unfold mostZ
  cases b
  · go_wp2
    go_ret
    exact ⟨rfl, rfl⟩
  · go_wp2
    go_ret
    exact ⟨rfl, rfl⟩

set_option maxRecDepth 100000 in
theorem bounded_c (x : Int) (w : World) :
    Calls Tryd.prog 51 #[.int .i64 x] w fun e w' => e = .returned (.int .i64 (bd x)) ∧ w' = w := by
  go_enter Tryd.func51, Tryd.ntmps51
  unfold bd
  have c := clamp_c x (-1099511627776) 1099511627776 w
  go_wp2_with (go_at_call 63; refine c.mono ?_; rintro e w' ⟨rfl, hw⟩; rw [hw])
  go_ret
  exact ⟨rfl, rfl⟩

def abs64 (a : Int) : Int := if a < 0 then -a else a
set_option maxRecDepth 100000 in
set_option maxHeartbeats 1000000 in
theorem mul64_c (x y : Int) (hx0 : 0 ≤ x) (hx : x < 18446744073709551616) (hy0 : 0 ≤ y) (hy : y < 18446744073709551616) (w : World) :
    Calls Tryd.prog 65 #[.int .u64 x, .int .u64 y] w fun e w' => e = .returned (.tuple #[.int .u64 (x * y / 18446744073709551616), .int .u64 (x * y % 18446744073709551616)]) ∧ w' = w := by
  have A := mul64_arith x y hx0 hx hy0 hy
  have m1 := and_low32 x hx0 hx
  have m2 := and_low32 y hy0 hy
  have m3 : ∀ z : Int, bits .and .u64 (IntKind.u64.wrap z) 4294967295 = IntKind.u64.wrap z % 4294967296 := fun z =>
    and_low32 _ (by rw [IntKind.wrap_u64]; omega) (by rw [IntKind.wrap_u64]; omega)
  go_enter Tryd.func65, Tryd.ntmps65
  go_wp2
  go_ret2
  simp only [IntKind.wrap_u64]
  rw [A]
  exact ⟨rfl, trivial⟩

/-- the signs of 64 bits -/
theorem bits_i64 (f : BitVec 64 → BitVec 64 → BitVec 64) (a b : Int) : IntKind.i64.wrap ((f (BitVec.ofInt 64 a) (BitVec.ofInt 64 b)).toNat : Nat) = (f (BitVec.ofInt 64 a) (BitVec.ofInt 64 b)).toInt := by
  generalize f (BitVec.ofInt 64 a) (BitVec.ofInt 64 b) = v
  rw [IntKind.wrap_i64, BitVec.toInt_eq_toNat_cond]
  have := v.isLt
  split <;> omega
set_option maxRecDepth 100000 in
theorem xor_i64 (a b : Int) : bits .xor .i64 a b = (BitVec.ofInt 64 a ^^^ BitVec.ofInt 64 b).toInt := bits_i64 (· ^^^ ·) a b
set_option maxRecDepth 100000 in
theorem and_i64 (a b : Int) : bits .and .i64 a b = (BitVec.ofInt 64 a &&& BitVec.ofInt 64 b).toInt := bits_i64 (· &&& ·) a b
set_option maxRecDepth 100000 in
theorem or_i64 (a b : Int) : bits .or .i64 a b = (BitVec.ofInt 64 a ||| BitVec.ofInt 64 b).toInt := bits_i64 (· ||| ·) a b
set_option maxRecDepth 100000 in
theorem msb_ofInt (a : Int) (h : In a) : (BitVec.ofInt 64 a).msb = decide (a < 0) := by
  obtain ⟨h1, h2⟩ := h
  rw [BitVec.msb_eq_toInt, BitVec.toInt_ofInt]
  have : a.bmod (2 ^ 64) = a := by
    rw [Int.bmod_eq_of_le] <;> omega
  rw [this]
set_option maxRecDepth 100000 in
theorem neg_msb (v : BitVec 64) : v.toInt < 0 ↔ v.msb = true := by rw [BitVec.msb_eq_toInt, decide_eq_true_iff]

/-- a sum that wraps has another sign than both -/
theorem add_sign (a b : Int) (ha : In a) (hb : In b) :
    (bits .and .i64 (bits .xor .i64 a (IntKind.i64.wrap (a + b))) (bits .xor .i64 b (IntKind.i64.wrap (a + b))) < 0) ↔ (9223372036854775807 < a + b ∨ a + b < -9223372036854775808) := by
  have hs : In (IntKind.i64.wrap (a + b)) := by unfold In; rw [IntKind.wrap_i64]; omega
  rw [and_i64, xor_i64, xor_i64, BitVec.ofInt_toInt, BitVec.ofInt_toInt, neg_msb, BitVec.msb_and, BitVec.msb_xor, BitVec.msb_xor, msb_ofInt a ha, msb_ofInt b hb, msb_ofInt _ hs]
  have hw := IntKind.wrap_i64 (a + b)
  obtain ⟨a1, a2⟩ := ha
  obtain ⟨b1, b2⟩ := hb
  clear hs
  generalize IntKind.i64.wrap (a + b) = s at *
  by_cases h1 : a < 0 <;> by_cases h2 : b < 0 <;> by_cases h3 : s < 0 <;> simp only [h1, h2, h3, decide_true, decide_false, Bool.xor_self, Bool.xor_false, Bool.false_xor, Bool.and_true, Bool.and_false, Bool.false_eq_true, false_iff, true_iff] <;> omega

def addZ (a b : Int) : Int := bd (a + b)
set_option maxRecDepth 100000 in
set_option maxHeartbeats 1000000 in
theorem add_c (a b : Int) (ha : In a) (hb : In b) (w : World) :
    Calls Tryd.prog 29 #[.int .i64 a, .int .i64 b] w fun e w' => e = .returned (.int .i64 (addZ a b)) ∧ w' = w := by
  have A := add_sign a b ha hb
  have hsum : ∃ s, IntKind.i64.wrap (a + b) = s := ⟨_, rfl⟩
  obtain ⟨s, hs⟩ := hsum
  rw [hs] at A
  obtain ⟨x, hx⟩ : ∃ x, bits .and .i64 (bits .xor .i64 a s) (bits .xor .i64 b s) = x := ⟨_, rfl⟩
  rw [hx] at A
  have h29 := most_c (decide (a < 0)) w
  have h30 := bounded_c s w
  go_enter Tryd.func29, Tryd.ntmps29
  by_cases hn : x < 0
  · go_wp2_with (go_at_call 50; refine h29.mono ?_; rintro e w' ⟨rfl, hw⟩; rw [hw])
    go_ret
    refine ⟨ret_int ?_, rfl⟩
    unfold addZ mostZ
    rw [bd_eq]
    obtain ⟨a1, a2⟩ := ha
    obtain ⟨b1, b2⟩ := hb
    have := A.1 hn
    simp only [decide_eq_true_eq]
    split <;> split <;> omega
  · go_wp2_with (go_at_call 51; refine h30.mono ?_; rintro e w' ⟨rfl, hw⟩; rw [hw])
    go_ret
    refine ⟨ret_int ?_, rfl⟩
    unfold addZ
    have : s = a + b := by
      rw [← hs, IntKind.wrap_i64]
      have : ¬ (9223372036854775807 < a + b ∨ a + b < -9223372036854775808) := fun h => by have := A.2 h; omega
      omega
    rw [this]

/-- the product's upper half, with its sign -/
theorem mul_high (a b : Int) (ha : In a) (hb : In b) :
    IntKind.i64.wrap (IntKind.u64.wrap (IntKind.u64.wrap (IntKind.u64.wrap a * IntKind.u64.wrap b / 18446744073709551616 - (if a < 0 then IntKind.u64.wrap b else 0)) - (if b < 0 then IntKind.u64.wrap a else 0))) = a * b / 18446744073709551616
    ∧ IntKind.u64.wrap a * IntKind.u64.wrap b % 18446744073709551616 = a * b % 18446744073709551616
    ∧ -9223372036854775808 ≤ a * b / 18446744073709551616 ∧ a * b / 18446744073709551616 ≤ 9223372036854775807 := by
  obtain ⟨a1, a2⟩ := ha
  obtain ⟨b1, b2⟩ := hb
  have hP : -85070591730234615865843651857942052864 ≤ a * b ∧ a * b ≤ 85070591730234615865843651857942052864 := by
    have h := Int.natAbs_mul a b
    have h2 := Nat.mul_le_mul (show a.natAbs ≤ 9223372036854775808 by omega) (show b.natAbs ≤ 9223372036854775808 by omega)
    rw [← h] at h2
    omega
  have ea : IntKind.u64.wrap a = if a < 0 then a + 18446744073709551616 else a := by rw [IntKind.wrap_u64]; split <;> omega
  have eb : IntKind.u64.wrap b = if b < 0 then b + 18446744073709551616 else b := by rw [IntKind.wrap_u64]; split <;> omega
  rw [ea, eb]
  simp only [IntKind.wrap_u64, IntKind.wrap_i64]
  by_cases ca : a < 0 <;> by_cases cb : b < 0 <;> simp only [ca, cb, if_true, if_false]
  · rw [Int.add_mul, Int.mul_add, Int.mul_add]
    generalize a * b = P at *
    omega
  · rw [Int.add_mul]
    generalize a * b = P at *
    omega
  · rw [Int.mul_add]
    generalize a * b = P at *
    omega
  · clear ea eb
    generalize a * b = P at *
    exact ⟨by omega, trivial, by omega, by omega⟩

set_option maxRecDepth 100000 in
theorem or_shift (h x : Int) (hh : h = 0 ∨ h = -1) (hx0 : 0 ≤ x) (hx : x < 281474976710656) :
    bits .or .i64 (IntKind.i64.wrap (h * 281474976710656)) x = h * 281474976710656 + x := by
  rcases hh with rfl | rfl
  · have e : IntKind.i64.wrap (0 * 281474976710656) = 0 := by decide
    rw [e, or_i64]
    have : BitVec.ofInt 64 0 ||| BitVec.ofInt 64 x = BitVec.ofInt 64 x := by simp
    rw [this, BitVec.toInt_ofInt, Int.bmod_eq_of_le] <;> omega
  · have e : IntKind.i64.wrap (-1 * 281474976710656) = -281474976710656 := by decide
    obtain ⟨n, rfl⟩ := Int.eq_ofNat_of_zero_le hx0
    rw [e]
    show IntKind.i64.wrap ((BitVec.ofInt 64 (-281474976710656) ||| BitVec.ofInt 64 (n : Int)).toNat : Nat) = _
    rw [BitVec.toNat_or]
    have e1 : (BitVec.ofInt 64 (-281474976710656)).toNat = 18446462598732840960 := by decide
    have e2 : (BitVec.ofInt 64 (n : Int)).toNat = n := ofInt_u64 n (by omega)
    rw [e1, e2, nat_join 48 _ _ (by decide) (by omega), IntKind.wrap_i64]
    omega

end Go.Proofs.YtmacmoikjgmaoaaDoor
