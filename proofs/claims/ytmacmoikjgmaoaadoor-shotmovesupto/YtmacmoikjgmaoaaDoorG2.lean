/- Root: the digits, over Int; fix.Root -/
import Derived.Test.YtmacmoikjgmaoaaDoorF1
namespace Go.Proofs.YtmacmoikjgmaoaaDoor
open Go Go.RowKit

structure IsRt (n r : Int) : Prop where
  p : 0 ≤ r
  le : r * r ≤ n
  lt : n < (r + 1) * (r + 1)
structure RtI (n root b : Int) : Prop where
  le : root * root ≤ n
  lt : n < (root + 2 * b) * (root + 2 * b)
structure RInv (n root b : Int) : Prop where
  r0 : 0 ≤ root
  b0 : 0 ≤ b
  b1 : b ≤ 1099511627776
  or : (∃ k : Nat, b = ((2 ^ k : Nat) : Int) ∧ RtI n root b) ∨ (b = 0 ∧ IsRt n root)

set_option maxRecDepth 100000 in
theorem sq_le {a b : Int} (h0 : 0 ≤ a) (h : a ≤ b) : a * a ≤ b * b := Int.mul_le_mul h h h0 (by omega)
set_option maxRecDepth 100000 in
theorem IsRt.eq {n r s : Int} (h : IsRt n r) (k : IsRt n s) : r = s := by
  have h1 := h.p; have h2 := k.p
  have a : r < s + 1 := Int.lt_of_not_ge fun c => by
    have := sq_le (show 0 ≤ s + 1 by omega) c
    have := h.le; have := k.lt; omega
  have b : s < r + 1 := Int.lt_of_not_ge fun c => by
    have := sq_le (show 0 ≤ r + 1 by omega) c
    have := k.le; have := h.lt; omega
  omega

set_option maxRecDepth 100000 in
theorem RInv.root_lt {n root b : Int} (h : RInv n root b) (hn : n < 604462909807314587353088) : root < 1099511627776 := by
  apply Int.lt_of_not_ge
  intro c
  have h1 := sq_le (show (0 : Int) ≤ 1099511627776 by omega) c
  have : root * root ≤ n := by
    rcases h.or with ⟨_, _, h⟩ | ⟨_, h⟩
    · exact h.le
    · exact h.le
  omega

set_option maxRecDepth 100000 in
theorem RInv.first {n b : Int} (k : Nat) (hb : b = ((2 ^ k : Nat) : Int)) (b1 : b ≤ 1099511627776) (hn : 0 ≤ n) (h : n < (2 * b) * (2 * b)) : RInv n 0 b :=
  ⟨by omega, by rw [hb]; exact Int.natCast_nonneg _, b1, .inl ⟨k, hb, by simpa using hn, by simpa using h⟩⟩

set_option maxRecDepth 100000 in
theorem RInv.next {n root b : Int} (h : RInv n root b) (hb : 0 < b) :
    ((root + b) * (root + b) ≤ n → RInv n (root + b) (b / 2)) ∧ (¬ (root + b) * (root + b) ≤ n → RInv n root (b / 2)) := by
  have r0 := h.r0; have b1 := h.b1
  rcases h.or with ⟨k, e, i⟩ | ⟨e, _⟩
  · cases k with
    | zero =>
      have e1 : b = 1 := by rw [e]; rfl
      subst e1
      have hlt := i.lt
      refine ⟨fun c => ⟨by omega, by omega, by omega, .inr ⟨by omega, by omega, c, ?_⟩⟩, fun c => ⟨by omega, by omega, by omega, .inr ⟨by omega, r0, i.le, by omega⟩⟩⟩
      rw [show root + 1 + 1 = root + 2 * 1 by omega]; exact hlt
    | succ k =>
      have e1 : b / 2 = ((2 ^ k : Nat) : Int) := by rw [e, Nat.pow_succ]; omega
      have e2 : 2 * (b / 2) = b := by rw [e, Nat.pow_succ]; omega
      have hlt := i.lt
      refine ⟨fun c => ⟨by omega, by omega, by omega, .inl ⟨k, e1, c, ?_⟩⟩, fun c => ⟨by omega, by omega, by omega, .inl ⟨k, e1, i.le, ?_⟩⟩⟩
      · rw [e2, show root + b + b = root + 2 * b by omega]; exact hlt
      · rw [e2]; omega
  · omega

set_option maxRecDepth 100000 in
theorem RInv.last {n root : Int} (h : RInv n root 0) : IsRt n root := by
  rcases h.or with ⟨k, e, _⟩ | ⟨_, i⟩
  · have := Nat.two_pow_pos k; omega
  · exact i

/-- the greatest root -/
def RootI (a r : Int) : Prop := if a < 0 then r = 0 else IsRt (a * 65536) r
noncomputable def rootZ (a : Int) : Int := Classical.epsilon (RootI a)
set_option maxRecDepth 100000 in
theorem rootZ_eq {a r : Int} (h : RootI a r) : rootZ a = r := by
  have k : RootI a (rootZ a) := Classical.epsilon_spec ⟨r, h⟩
  unfold RootI at h k
  by_cases c : a < 0
  · rw [if_pos c] at h k; rw [h, k]
  · rw [if_neg c] at h k; exact k.eq h
set_option maxRecDepth 100000 in
theorem rootZ_neg {a : Int} (h : a < 0) : rootZ a = 0 := rootZ_eq (by unfold RootI; rw [if_pos h])
set_option maxRecDepth 100000 in
theorem rootZ_of {a r : Int} (h : ¬ a < 0) (k : IsRt (a * 65536) r) : rootZ a = r := rootZ_eq (by unfold RootI; rw [if_neg h]; exact k)

set_option maxRecDepth 100000 in
theorem halves (x n : Int) : (x / 18446744073709551616 < n / 18446744073709551616 ∨ (x / 18446744073709551616 = n / 18446744073709551616 ∧ x % 18446744073709551616 ≤ n % 18446744073709551616)) ↔ x ≤ n := by omega

end Go.Proofs.YtmacmoikjgmaoaaDoor
