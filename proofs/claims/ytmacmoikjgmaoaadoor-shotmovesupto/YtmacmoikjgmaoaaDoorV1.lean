/- vec: kept, less, square. -/
import Derived.Test.YtmacmoikjgmaoaaDoorBase
import Derived.Test.YtmacmoikjgmaoaaDoorR1
import Derived.Test.YtmacmoikjgmaoaaDoorF2
namespace Go.Proofs.YtmacmoikjgmaoaaDoor
open Go Go.RowKit

abbrev vv (x y : Int) : Value := .agg #[.int .i64 x, .int .i64 y]
def kz (x lo hi : Int) : Int := max lo (min x hi)
set_option maxRecDepth 100000 in
theorem kept_i (x lo hi : Int) (w : World) :
    Calls Tryd.prog 31 #[.int .i64 x, .int .i64 lo, .int .i64 hi] w fun e w' => e = .returned (.int .i64 (kz x lo hi)) ∧ w' = w := by
  go_enter Tryd.func31, Tryd.ntmps31
  go_wp2
  all_goals
    go_ret
    exact ⟨ret_int (by unfold kz; omega), rfl⟩
set_option maxRecDepth 100000 in
theorem kept_u (x lo hi : Int) (w : World) :
    Calls Tryd.prog 70 #[.int .u64 x, .int .u64 lo, .int .u64 hi] w fun e w' => e = .returned (.int .u64 (kz x lo hi)) ∧ w' = w := by
  go_enter Tryd.func70, Tryd.ntmps70
  go_wp2
  all_goals
    go_ret
    exact ⟨ret_int (by unfold kz; omega), rfl⟩
def lz (a b m : Int) : Int := kz (a - b) (-m) m
set_option maxRecDepth 100000 in
theorem less_ge (a b m : Int) (ha : In a) (hb : In b) (hm : 0 ≤ m ∧ m ≤ 9223372036854775807) (h : b ≤ a) (w : World) :
    Calls Tryd.prog 64 #[.int .i64 a, .int .i64 b, .int .i64 m] w fun e w' => e = .returned (.int .i64 (lz a b m)) ∧ w' = w := by
  obtain ⟨a0, a1⟩ := ha
  obtain ⟨b0, b1⟩ := hb
  obtain ⟨m0, m1⟩ := hm
  have c1 := kept_u (a - b) 0 m w
  have HZ : Keep (kz (a - b) 0 m = lz a b m ∧ 0 ≤ lz a b m ∧ lz a b m ≤ 9223372036854775807) := ⟨by unfold lz kz; omega⟩
  rw [HZ.out.1] at c1
  obtain ⟨-, z0, z1⟩ := HZ.out
  clear HZ
  generalize lz a b m = v at *
  have e1 : IntKind.u64.wrap (IntKind.u64.wrap a - IntKind.u64.wrap b) = a - b := by
    rw [IntKind.wrap_u64, IntKind.wrap_u64, IntKind.wrap_u64]; omega
  have hn : ¬ a < b := by omega
  go_enter Tryd.func64, Tryd.ntmps64
  go_wp2_with fail
  refine c1.mono ?_
  rintro e w' ⟨rfl, hw⟩; rw [hw]
  go_wp2_with fail
  go_ret
  exact ⟨rfl, rfl⟩
set_option maxRecDepth 100000 in
theorem less_c (a b m : Int) (ha : In a) (hb : In b) (hm : 0 ≤ m ∧ m ≤ 9223372036854775807) (w : World) :
    Calls Tryd.prog 64 #[.int .i64 a, .int .i64 b, .int .i64 m] w fun e w' => e = .returned (.int .i64 (lz a b m)) ∧ w' = w := by
  by_cases h : b ≤ a
  · exact less_ge a b m ha hb hm h w
  · have c1 := less_ge b a m hb ha hm (by omega) w
    have HZ : Keep (lz a b m = - lz b a m ∧ 0 ≤ lz b a m ∧ lz b a m ≤ 9223372036854775807) := ⟨by unfold lz kz; omega⟩
    rw [HZ.out.1]
    obtain ⟨-, z0, z1⟩ := HZ.out
    clear HZ
    generalize lz b a m = v at *
    have hn : a < b := by omega
    clear h ha hb hm
    go_enter Tryd.func64, Tryd.ntmps64
    go_wp2_with fail
    refine c1.mono ?_
    rintro e w' ⟨rfl, hw⟩; rw [hw]
    go_wp2_with fail
    go_ret
    exact ⟨rfl, rfl⟩
set_option maxRecDepth 100000 in
theorem sq0 (x : Int) : 0 ≤ x * x := by
  rcases Int.le_total 0 x with h | h
  · exact Int.mul_nonneg h h
  · have := Int.mul_nonneg (a := -x) (b := -x) (by omega) (by omega)
    grind
set_option maxRecDepth 100000 in
theorem square_c (x y : Int) (hx : -2147483647 ≤ x ∧ x ≤ 2147483647) (hy : -2147483647 ≤ y ∧ y ≤ 2147483647) (w : World) :
    Calls Tryd.prog 53 #[vv x y] w fun e w' => e = .returned (.int .i64 (x * x + y * y)) ∧ w.grownBy w' none := by
  have hx2 : 0 ≤ x * x ∧ x * x ≤ 4611686014132420609 := by
    constructor
    · exact sq0 x
    · obtain ⟨h1, h2⟩ := hx
      have : 0 ≤ (2147483647 - x) * (2147483647 + x) := Int.mul_nonneg (by omega) (by omega)
      grind
  have hy2 : 0 ≤ y * y ∧ y * y ≤ 4611686014132420609 := by
    constructor
    · exact sq0 y
    · obtain ⟨h1, h2⟩ := hy
      have : 0 ≤ (2147483647 - y) * (2147483647 + y) := Int.mul_nonneg (by omega) (by omega)
      grind
  have e1 : IntKind.i64.wrap (x * x) = x * x := by rw [IntKind.wrap_i64]; omega
  have e2 : IntKind.i64.wrap (y * y) = y * y := by rw [IntKind.wrap_i64]; omega
  have e3 : IntKind.i64.wrap (x * x + y * y) = x * x + y * y := by rw [IntKind.wrap_i64]; omega
  go_enter Tryd.func53, Tryd.ntmps53
  go_wp2_with fail
  go_ret
  exact ⟨rfl, gr_alloc _ _ _⟩
end Go.Proofs.YtmacmoikjgmaoaaDoor
