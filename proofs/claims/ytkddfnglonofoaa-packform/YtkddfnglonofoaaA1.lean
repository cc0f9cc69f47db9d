/- pack: kinds of numbers. -/
import Derived.Test.YtkddfnglonofoaaBase
namespace Go.Proofs.Ytkddfnglonofoaa
open Go Go.RowKit

theorem sized_c (size : Int) (w : World) :
    Calls Try.prog 41 #[.int .i64 size] w fun e w' => e = .returned (.bool (decide (sized size))) ∧ w' = w := by
  go_enter Try.func41, Try.ntmps41
  by_cases h1 : 1 ≤ size
  · by_cases h2 : size ≤ 8
    · have hd : decide (sized size) = true := decide_eq_true ⟨h1, h2⟩
      rw [hd]
      go_wp2
      go_ret
      exact ⟨rfl, rfl⟩
    · have hd : decide (sized size) = false := decide_eq_false (fun q => h2 q.2)
      rw [hd]
      go_wp2
      go_ret
      exact ⟨rfl, rfl⟩
  · have hd : decide (sized size) = false := decide_eq_false (fun q => h1 q.1)
    rw [hd]
    go_wp2
    go_ret
    exact ⟨rfl, rfl⟩
theorem spare_c (size : Int) (w : World) (h : sized size) :
    Calls Try.prog 43 #[.int .i64 size] w fun e w' => e = .returned (.int .i64 (8 * (8 - size))) ∧ w' = w := by
  go_enter Try.func43, Try.ntmps43
  obtain ⟨h1, h2⟩ := h
  go_wp2
  go_ret
  exact ⟨rfl, rfl⟩
abbrev fv (n : Nat) : Value := .func (.func n) #[] #[]
theorem under61 : ∃ d, Try.prog.underlying 61 = some d ∧ d.isRow = true := ⟨_, Try.underlying61, rfl⟩
theorem info61 : (Try.prog.info? 61).map (·.size) = some 1 := by kernel_rfl
set_option maxRecDepth 100000 in
theorem plain_c (w : World) :
    Calls Try.prog 32 #[] w fun e w' => e = .returned (.agg #[fv 40]) ∧ w.grownBy w' none := by
  go_enter Try.func32, Try.ntmps32
  go_wp2
  obtain ⟨d, hd, hr⟩ := under61
  refine ret_cell rfl rfl (show Has _ w.heap.size [fv 40] 61 from Has.newA w _ 61) hd hr info61 rfl ⟨rfl, ?_⟩
  exact World.grownBy_alloc w _ none
set_option maxRecDepth 100000 in
theorem signed_c (w : World) :
    Calls Try.prog 34 #[] w fun e w' => e = .returned (.agg #[fv 44]) ∧ w.grownBy w' none := by
  go_enter Try.func34, Try.ntmps34
  go_wp2
  obtain ⟨d, hd, hr⟩ := under61
  refine ret_cell rfl rfl (show Has _ w.heap.size [fv 44] 61 from Has.newA w _ 61) hd hr info61 rfl ⟨rfl, ?_⟩
  exact World.grownBy_alloc w _ none
theorem ret_u64 {a b : Int} (h : a = b) : Ending.returned (.int .u64 a) = .returned (.int .u64 b) := by rw [h]
theorem wu (a : Int) : IntKind.u64.wrap a = a % 18446744073709551616 := by
  have e : IntKind.u64.wrap a = a % 2 ^ 64 := by rfl
  rw [e]; rfl
/-- the lowest bits -/
theorem plain1_c (x : Nat) (size : Int) (w : World) (hx : x < 18446744073709551616) (h : sized size) :
    Calls Try.prog 40 #[.int .u64 x, .int .i64 (8 * (8 - size))] w fun e w' => e = .returned (.int .u64 (x % 256 ^ size.toNat : Nat)) ∧ w' = w := by
  go_enter Try.func40, Try.ntmps40
  have h8 : size = 1 ∨ size = 2 ∨ size = 3 ∨ size = 4 ∨ size = 5 ∨ size = 6 ∨ size = 7 ∨ size = 8 := by obtain ⟨h1, h2⟩ := h; omega
  rcases h8 with rfl | rfl | rfl | rfl | rfl | rfl | rfl | rfl
  all_goals
    go_wp2
    go_ret
    refine ⟨ret_u64 ?_, rfl⟩
    try simp only [wu]
  · show _ = ((x % 256 : Nat) : Int); omega
  · show _ = ((x % 65536 : Nat) : Int); omega
  · show _ = ((x % 16777216 : Nat) : Int); omega
  · show _ = ((x % 4294967296 : Nat) : Int); omega
  · show _ = ((x % 1099511627776 : Nat) : Int); omega
  · show _ = ((x % 281474976710656 : Nat) : Int); omega
  · show _ = ((x % 72057594037927936 : Nat) : Int); omega
  · show _ = ((x % 18446744073709551616 : Nat) : Int); omega
/-- the lowest bits with their sign -/
def sx (x : Nat) (k : Nat) : Nat := if 2 * (x % 256 ^ k) < 256 ^ k then x % 256 ^ k else x % 256 ^ k + 18446744073709551616 - 256 ^ k
theorem signed1_c (x : Nat) (size : Int) (w : World) (hx : x < 18446744073709551616) (h : sized size) :
    Calls Try.prog 44 #[.int .u64 x, .int .i64 (8 * (8 - size))] w fun e w' => e = .returned (.int .u64 (sx x size.toNat : Nat)) ∧ w' = w := by
  go_enter Try.func44, Try.ntmps44
  have h8 : size = 1 ∨ size = 2 ∨ size = 3 ∨ size = 4 ∨ size = 5 ∨ size = 6 ∨ size = 7 ∨ size = 8 := by obtain ⟨h1, h2⟩ := h; omega
  rcases h8 with rfl | rfl | rfl | rfl | rfl | rfl | rfl | rfl
  all_goals
    go_wp2
    go_ret
    refine ⟨ret_u64 ?_, rfl⟩
    simp only [wu, wrap64, sx]
  · show _ = ((if 2 * (x % 256) < 256 then x % 256 else x % 256 + 18446744073709551616 - 256 : Nat) : Int)
    split <;> omega
  · show _ = ((if 2 * (x % 65536) < 65536 then x % 65536 else x % 65536 + 18446744073709551616 - 65536 : Nat) : Int)
    split <;> omega
  · show _ = ((if 2 * (x % 16777216) < 16777216 then x % 16777216 else x % 16777216 + 18446744073709551616 - 16777216 : Nat) : Int)
    split <;> omega
  · show _ = ((if 2 * (x % 4294967296) < 4294967296 then x % 4294967296 else x % 4294967296 + 18446744073709551616 - 4294967296 : Nat) : Int)
    split <;> omega
  · show _ = ((if 2 * (x % 1099511627776) < 1099511627776 then x % 1099511627776 else x % 1099511627776 + 18446744073709551616 - 1099511627776 : Nat) : Int)
    split <;> omega
  · show _ = ((if 2 * (x % 281474976710656) < 281474976710656 then x % 281474976710656 else x % 281474976710656 + 18446744073709551616 - 281474976710656 : Nat) : Int)
    split <;> omega
  · show _ = ((if 2 * (x % 72057594037927936) < 72057594037927936 then x % 72057594037927936 else x % 72057594037927936 + 18446744073709551616 - 72057594037927936 : Nat) : Int)
    split <;> omega
  · show _ = ((if 2 * (x % 18446744073709551616) < 18446744073709551616 then x % 18446744073709551616 else x % 18446744073709551616 + 18446744073709551616 - 18446744073709551616 : Nat) : Int)
    split <;> omega
end Go.Proofs.Ytkddfnglonofoaa
