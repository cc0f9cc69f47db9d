/- the reference: Sin, Cos -/
import Derived.Test.YtobdcngjpgndiaaDoorS1
namespace Go.Proofs.YtobdcngjpgndiaaDoor
open Go Go.RowKit

set_option maxRecDepth 100000 in
theorem sinZ_low (h : Int) (h0 : 0 ≤ h) (h1 : h < 128) : sinZ h = rz h := by
  unfold sinZ
  rw [Int.emod_eq_of_lt h0 (by omega), if_neg (by omega)]

end Go.Proofs.YtobdcngjpgndiaaDoor
