/- the reference: size, bounded, product, Root, Add, Mul -/
import Derived.Test.YtobdcngjpgndiabDoorG2
namespace Go.Proofs.YtobdcngjpgndiabDoor
open Go Go.RowKit

set_option maxRecDepth 100000 in
theorem rsize_c (a : Int) (h : In a) (w : World) :
    Calls Tryd.prog 41 #[.int .i64 a] w fun e w' => e = .returned (.int .u64 (abs64 a)) ∧ w' = w := by
  obtain ⟨h1, h2⟩ := h
  go_enter Tryd.func41, Tryd.ntmps41
  unfold abs64
  by_cases hn : a < 0
  · rw [if_pos hn]
    go_wp2
    go_ret
    exact ⟨ret_int (by omega), rfl⟩
  · rw [if_neg hn]
    go_wp2
    go_ret
    exact ⟨rfl, rfl⟩

def bdS (minus : Bool) (n : Int) : Int := if minus then -(if 1099511627776 < n then 1099511627776 else n) else (if 1099511627776 < n then 1099511627776 else n)
set_option maxRecDepth 100000 in
theorem rbounded_c (m : Bool) (n : Int) (h0 : 0 ≤ n) (h1 : n < 18446744073709551616) (w : World) :
    Calls Tryd.prog 42 #[.bool m, .int .u64 n] w fun e w' => e = .returned (.int .i64 (bdS m n)) ∧ w' = w := by
  go_enter Tryd.func42, Tryd.ntmps42
  unfold bdS
  by_cases hn : 1099511627776 < n
  · simp only [hn, if_true]
    cases m
    · go_wp2
      go_ret
      exact ⟨rfl, rfl⟩
    · go_wp2
      go_ret
      exact ⟨rfl, rfl⟩
  · simp only [hn, if_false]
    cases m
    · go_wp2
      go_ret
      exact ⟨rfl, rfl⟩
    · go_wp2
      go_ret
      exact ⟨rfl, rfl⟩

set_option maxRecDepth 100000 in
theorem prod_low (x y : Int) (hx0 : 0 ≤ x) (hx : x < 18446744073709551616) (hy0 : 0 ≤ y) (hy : y < 18446744073709551616) :
    (((x % 4294967296 * (y / 4294967296)) % 18446744073709551616 + (((x / 4294967296 * (y % 4294967296)) % 18446744073709551616 + ((x % 4294967296 * (y % 4294967296)) % 18446744073709551616) / 4294967296) % 18446744073709551616) % 4294967296) % 18446744073709551616 * 4294967296 % 18446744073709551616 + ((x % 4294967296 * (y % 4294967296)) % 18446744073709551616) % 4294967296) % 18446744073709551616 = x * y % 18446744073709551616 := by
  have ex : x = x / 4294967296 * 4294967296 + x % 4294967296 := by omega
  have ey : y = y / 4294967296 * 4294967296 + y % 4294967296 := by omega
  have hxy : x * y = (x / 4294967296) * (y / 4294967296) * 18446744073709551616 + ((x / 4294967296) * (y % 4294967296) + (x % 4294967296) * (y / 4294967296)) * 4294967296 + (x % 4294967296) * (y % 4294967296) := by
    have := split_mul (x / 4294967296) (x % 4294967296) (y / 4294967296) (y % 4294967296)
    rw [← ex, ← ey] at this
    exact this
  rw [hxy]
  have pB := prod_bound (x / 4294967296) (y % 4294967296) (by omega) (by omega) (by omega) (by omega)
  have pC := prod_bound (x % 4294967296) (y % 4294967296) (by omega) (by omega) (by omega) (by omega)
  have pD := prod_bound (x % 4294967296) (y / 4294967296) (by omega) (by omega) (by omega) (by omega)
  clear hxy ex ey
  generalize x / 4294967296 * (y / 4294967296) = A at *
  generalize x / 4294967296 * (y % 4294967296) = B at *
  generalize x % 4294967296 * (y % 4294967296) = C at *
  generalize x % 4294967296 * (y / 4294967296) = D at *
  omega

set_option maxRecDepth 100000 in
set_option maxHeartbeats 2000000 in
theorem product_c (x y : Int) (hx0 : 0 ≤ x) (hx : x < 18446744073709551616) (hy0 : 0 ≤ y) (hy : y < 18446744073709551616) (w : World) :
    Calls Tryd.prog 59 #[.int .u64 x, .int .u64 y] w fun e w' => e = .returned (.tuple #[.int .u64 (x * y / 18446744073709551616), .int .u64 (x * y % 18446744073709551616)]) ∧ w' = w := by
  have A := mul64_arith x y hx0 hx hy0 hy
  have B := prod_low x y hx0 hx hy0 hy
  rw [Int.add_comm _ (x % 4294967296 * (y / 4294967296) % 18446744073709551616)] at A
  have td : ∀ z : Int, (IntKind.u64.wrap z).tdiv 4294967296 = IntKind.u64.wrap z / 4294967296 := fun z => Int.tdiv_eq_ediv_of_nonneg (by rw [IntKind.wrap_u64]; omega)
  have tm : ∀ z : Int, (IntKind.u64.wrap z).tmod 4294967296 = IntKind.u64.wrap z % 4294967296 := fun z => Int.tmod_eq_emod_of_nonneg (by rw [IntKind.wrap_u64]; omega)
  have wd : ∀ z : Int, IntKind.u64.wrap (IntKind.u64.wrap z / 4294967296) = IntKind.u64.wrap z / 4294967296 := fun z => by simp only [IntKind.wrap_u64]; omega
  have HA := Keep.mk A
  have HB := Keep.mk B
  have HT := Keep.mk (And.intro td (And.intro tm wd))
  clear A B td tm wd
  go_enter Tryd.func59, Tryd.ntmps59
  go_wp2
  go_ret2
  obtain ⟨td, tm, wd⟩ := HT.out
  simp only [td, tm, wd]
  simp only [IntKind.wrap_u64]
  rw [HA.out, HB.out]
  exact ⟨rfl, trivial⟩


set_option maxRecDepth 100000 in
theorem neq_b (x y : Bool) (W : World) : (binOp .neq 4 (.bool x) (.bool y)).run Tryd.prog W = .ok (.bool (x != y)) W := by
  rw [run_neq_bool (P := Tryd.prog) W 4 x y (by kernel_rfl)]
  cases x <;> cases y <;> rfl
set_option maxRecDepth 100000 in
theorem abs64_in (a : Int) (h : In a) : 0 ≤ abs64 a ∧ abs64 a ≤ 9223372036854775808 := by
  obtain ⟨_, _⟩ := h; unfold abs64; split <;> omega
set_option maxRecDepth 100000 in
theorem abs64_pos (a : Int) (h : a ≠ 0) : 0 < abs64 a := by unfold abs64; split <;> omega
end Go.Proofs.YtobdcngjpgndiabDoor
