/- pack: holds. -/
import Derived.Test.YtkddfnglonofoaaA1
namespace Go.Proofs.Ytkddfnglonofoaa
open Go Go.RowKit

theorem sx_fits (i size : Int) (hs : sized size) (hi : -9223372036854775808 ≤ i ∧ i < 9223372036854775808) : sx (u64 i) size.toNat = u64 i ↔ fitsS i size := by
  have h8 : size = 1 ∨ size = 2 ∨ size = 3 ∨ size = 4 ∨ size = 5 ∨ size = 6 ∨ size = 7 ∨ size = 8 := by obtain ⟨h1, h2⟩ := hs; omega
  obtain ⟨n, hn⟩ : ∃ n, u64 i = n := ⟨_, rfl⟩
  have hn' : (n : Int) = i % 18446744073709551616 := by rw [← hn]; unfold u64; omega
  unfold fitsS
  rw [hn]
  clear hn
  simp only [hs, true_and]
  rcases h8 with rfl | rfl | rfl | rfl | rfl | rfl | rfl | rfl
  · show (if 2 * (n % 256) < 256 then n % 256 else n % 256 + 18446744073709551616 - 256) = n ↔ -((256 : Nat) : Int) ≤ 2 * i ∧ 2 * i < ((256 : Nat) : Int)
    split <;> omega
  · show (if 2 * (n % 65536) < 65536 then n % 65536 else n % 65536 + 18446744073709551616 - 65536) = n ↔ -((65536 : Nat) : Int) ≤ 2 * i ∧ 2 * i < ((65536 : Nat) : Int)
    split <;> omega
  · show (if 2 * (n % 16777216) < 16777216 then n % 16777216 else n % 16777216 + 18446744073709551616 - 16777216) = n ↔ -((16777216 : Nat) : Int) ≤ 2 * i ∧ 2 * i < ((16777216 : Nat) : Int)
    split <;> omega
  · show (if 2 * (n % 4294967296) < 4294967296 then n % 4294967296 else n % 4294967296 + 18446744073709551616 - 4294967296) = n ↔ -((4294967296 : Nat) : Int) ≤ 2 * i ∧ 2 * i < ((4294967296 : Nat) : Int)
    split <;> omega
  · show (if 2 * (n % 1099511627776) < 1099511627776 then n % 1099511627776 else n % 1099511627776 + 18446744073709551616 - 1099511627776) = n ↔ -((1099511627776 : Nat) : Int) ≤ 2 * i ∧ 2 * i < ((1099511627776 : Nat) : Int)
    split <;> omega
  · show (if 2 * (n % 281474976710656) < 281474976710656 then n % 281474976710656 else n % 281474976710656 + 18446744073709551616 - 281474976710656) = n ↔ -((281474976710656 : Nat) : Int) ≤ 2 * i ∧ 2 * i < ((281474976710656 : Nat) : Int)
    split <;> omega
  · show (if 2 * (n % 72057594037927936) < 72057594037927936 then n % 72057594037927936 else n % 72057594037927936 + 18446744073709551616 - 72057594037927936) = n ↔ -((72057594037927936 : Nat) : Int) ≤ 2 * i ∧ 2 * i < ((72057594037927936 : Nat) : Int)
    split <;> omega
  · show (if 2 * (n % 18446744073709551616) < 18446744073709551616 then n % 18446744073709551616 else n % 18446744073709551616 + 18446744073709551616 - 18446744073709551616) = n ↔ -((18446744073709551616 : Nat) : Int) ≤ 2 * i ∧ 2 * i < ((18446744073709551616 : Nat) : Int)
    split <;> omega

set_option maxRecDepth 100000 in
theorem holds_plain (x : Nat) (size : Int) (w : World) (hx : x < 18446744073709551616) :
    Calls Try.prog 38 #[.agg #[fv 40], .int .u64 x, .int .i64 size] w fun e w' => e = .returned (.bool (decide (sized size ∧ (x % 256 ^ size.toNat) = x))) ∧ w.grownBy w' none := by
  go_enter Try.func38, Try.ntmps38
  by_cases hs : sized size
  · have HS : Keep (sized size) := ⟨hs⟩
    have c41 : ∀ W : World, Calls Try.prog 41 #[.int .i64 size] W fun e w' => e = .returned (.bool true) ∧ w' = W := fun W => by
      have := sized_c size W
      rwa [decide_eq_true hs] at this
    have HC : Keep (∀ W : World, Calls Try.prog 41 #[.int .i64 size] W fun e w' => e = .returned (.bool true) ∧ w' = W) := ⟨c41⟩
    have HW : Keep (∀ W : World, Calls Try.prog 40 #[.int .u64 x, .int .i64 (8 * (8 - size))] W fun e w' => e = .returned (.int .u64 ((x % 256 ^ size.toNat) : Nat)) ∧ w' = W) := ⟨fun W => plain1_c x size W hx hs⟩
    clear c41
    obtain ⟨y, hy⟩ : ∃ y : Nat, (x % 256 ^ size.toNat) = y := ⟨_, rfl⟩
    rw [hy] at HW ⊢
    have hd : decide (sized size ∧ y = x) = decide (y = x) := by simp [hs]
    rw [hd]
    clear hd hy hs
    go_wp2_with fail
    obtain ⟨w1, hw1⟩ : ∃ w1, w.alloc (.cells #[fv 40] 61) = w1 := ⟨_, rfl⟩
    have HG : Keep (w.grownBy w1 none) := ⟨by rw [← hw1]; exact World.grownBy_alloc _ _ _⟩
    have hc0 : w1.cell? ⟨w.heap.size, 0, none⟩ = some (fv 40) := by rw [← hw1]; exact (Has.newA w #[fv 40] 61).cellv 0 _ rfl
    rw [hw1]
    clear hw1
    generalize w.heap.size = kb at *
    go_quiet (first | (go_at_call 41; exact Calls.quiet_of_same (HC.out _)) | (go_at_call 43; exact Calls.quiet_of_same (spare_c size _ HS.out)) | (go_at_call 40; exact Calls.quiet_of_same (HW.out _)))
    go_wp2
    go_ret
    refine ⟨?_, HG.out.trans (gr_drewN _ _ _)⟩
    by_cases e : y = x
    · subst e; simp
    · rw [decide_eq_false e]
      have : ((y : Int) == (x : Int)) = false := by simp; omega
      simp [this]
  · have HC : Keep (∀ W : World, Calls Try.prog 41 #[.int .i64 size] W fun e w' => e = .returned (.bool false) ∧ w' = W) := ⟨fun W => by
      have := sized_c size W
      rwa [decide_eq_false hs] at this⟩
    have hd : decide (sized size ∧ (x % 256 ^ size.toNat) = x) = false := by simp [hs]
    rw [hd]
    clear hd hs
    go_wp2_with fail
    obtain ⟨w1, hw1⟩ : ∃ w1, w.alloc (.cells #[fv 40] 61) = w1 := ⟨_, rfl⟩
    have HG : Keep (w.grownBy w1 none) := ⟨by rw [← hw1]; exact World.grownBy_alloc _ _ _⟩
    rw [hw1]
    clear hw1
    generalize w.heap.size = kb at *
    go_quiet ((go_at_call 41; exact Calls.quiet_of_same (HC.out _)))
    go_wp2
    go_ret
    exact ⟨rfl, HG.out.trans (gr_drewN _ _ _)⟩

set_option maxRecDepth 100000 in
theorem holds_signed (x : Nat) (size : Int) (w : World) (hx : x < 18446744073709551616) :
    Calls Try.prog 38 #[.agg #[fv 44], .int .u64 x, .int .i64 size] w fun e w' => e = .returned (.bool (decide (sized size ∧ (sx x size.toNat) = x))) ∧ w.grownBy w' none := by
  go_enter Try.func38, Try.ntmps38
  by_cases hs : sized size
  · have HS : Keep (sized size) := ⟨hs⟩
    have c41 : ∀ W : World, Calls Try.prog 41 #[.int .i64 size] W fun e w' => e = .returned (.bool true) ∧ w' = W := fun W => by
      have := sized_c size W
      rwa [decide_eq_true hs] at this
    have HC : Keep (∀ W : World, Calls Try.prog 41 #[.int .i64 size] W fun e w' => e = .returned (.bool true) ∧ w' = W) := ⟨c41⟩
    have HW : Keep (∀ W : World, Calls Try.prog 44 #[.int .u64 x, .int .i64 (8 * (8 - size))] W fun e w' => e = .returned (.int .u64 ((sx x size.toNat) : Nat)) ∧ w' = W) := ⟨fun W => signed1_c x size W hx hs⟩
    clear c41
    obtain ⟨y, hy⟩ : ∃ y : Nat, (sx x size.toNat) = y := ⟨_, rfl⟩
    rw [hy] at HW ⊢
    have hd : decide (sized size ∧ y = x) = decide (y = x) := by simp [hs]
    rw [hd]
    clear hd hy hs
    go_wp2_with fail
    obtain ⟨w1, hw1⟩ : ∃ w1, w.alloc (.cells #[fv 44] 61) = w1 := ⟨_, rfl⟩
    have HG : Keep (w.grownBy w1 none) := ⟨by rw [← hw1]; exact World.grownBy_alloc _ _ _⟩
    have hc0 : w1.cell? ⟨w.heap.size, 0, none⟩ = some (fv 44) := by rw [← hw1]; exact (Has.newA w #[fv 44] 61).cellv 0 _ rfl
    rw [hw1]
    clear hw1
    generalize w.heap.size = kb at *
    go_quiet (first | (go_at_call 41; exact Calls.quiet_of_same (HC.out _)) | (go_at_call 43; exact Calls.quiet_of_same (spare_c size _ HS.out)) | (go_at_call 44; exact Calls.quiet_of_same (HW.out _)))
    go_wp2
    go_ret
    refine ⟨?_, HG.out.trans (gr_drewN _ _ _)⟩
    by_cases e : y = x
    · subst e; simp
    · rw [decide_eq_false e]
      have : ((y : Int) == (x : Int)) = false := by simp; omega
      simp [this]
  · have HC : Keep (∀ W : World, Calls Try.prog 41 #[.int .i64 size] W fun e w' => e = .returned (.bool false) ∧ w' = W) := ⟨fun W => by
      have := sized_c size W
      rwa [decide_eq_false hs] at this⟩
    have hd : decide (sized size ∧ (sx x size.toNat) = x) = false := by simp [hs]
    rw [hd]
    clear hd hs
    go_wp2_with fail
    obtain ⟨w1, hw1⟩ : ∃ w1, w.alloc (.cells #[fv 44] 61) = w1 := ⟨_, rfl⟩
    have HG : Keep (w.grownBy w1 none) := ⟨by rw [← hw1]; exact World.grownBy_alloc _ _ _⟩
    rw [hw1]
    clear hw1
    generalize w.heap.size = kb at *
    go_quiet ((go_at_call 41; exact Calls.quiet_of_same (HC.out _)))
    go_wp2
    go_ret
    exact ⟨rfl, HG.out.trans (gr_drewN _ _ _)⟩

theorem fitsU_iff (x : Nat) (size : Int) : (sized size ∧ x % 256 ^ size.toNat = x) ↔ fitsU x size := by
  unfold fitsU
  refine and_congr_right fun _ => ⟨fun h => ?_, fun h => Nat.mod_eq_of_lt h⟩
  rw [← h]
  exact Nat.mod_lt _ (Nat.pos_of_ne_zero (by simp))
end Go.Proofs.Ytkddfnglonofoaa
