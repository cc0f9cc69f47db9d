/- vec: kept, less, square. -/
import Derived.Test.YtobdcngjpgndiabDoorBase
import Derived.Test.YtobdcngjpgndiabDoorR1
import Derived.Test.YtobdcngjpgndiabDoorF2
namespace Go.Proofs.YtobdcngjpgndiabDoor
open Go Go.RowKit

abbrev vv (x y : Int) : Value := .agg #[.int .i64 x, .int .i64 y]
def kz (x lo hi : Int) : Int := max lo (min x hi)
set_option maxRecDepth 100000 in
theorem kept_i (x lo hi : Int) (w : World) :
    Calls Tryd.prog 66 #[.int .i64 x, .int .i64 lo, .int .i64 hi] w fun e w' => e = .returned (.int .i64 (kz x lo hi)) ∧ w' = w := by
  go_enter Tryd.func66, Tryd.ntmps66
  go_wp2
  all_goals
    go_ret
    exact ⟨ret_int (by unfold kz; omega), rfl⟩
def lz (a b m : Int) : Int := kz (a - b) (-m) m
set_option maxRecDepth 100000 in
theorem sq0 (x : Int) : 0 ≤ x * x := by
  rcases Int.le_total 0 x with h | h
  · exact Int.mul_nonneg h h
  · have := Int.mul_nonneg (a := -x) (b := -x) (by omega) (by omega)
    grind
end Go.Proofs.YtobdcngjpgndiabDoor
