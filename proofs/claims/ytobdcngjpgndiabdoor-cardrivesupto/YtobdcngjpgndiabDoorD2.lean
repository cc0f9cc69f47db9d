/- a car is itself -/
import Derived.Test.YtobdcngjpgndiabDoorD1
import Derived.ChangeKeysEq
namespace Go.Proofs.YtobdcngjpgndiabDoor.Bo
open Go Go.RowKit

set_option maxRecDepth 100000 in
set_option maxHeartbeats 4000000 in
theorem eq30 (n : Nat) (x y : Int) (w : World) : (Op.equalIn (n + 2) 23 (.agg #[iv x, iv y]) (.agg #[iv x, iv y])).run Tryd.prog w = .ok true w := by
  rw [run_equalIn_agg w (n + 1) 23 _ _ (by kernel_rfl) (by kernel_rfl)]
  have u3 := Tryd.underlying2
  have g3 := Tryd.isAgg2
  have z3 := Tryd.sizeOf2
  simp only [Program.fieldsOf, Tryd.underlying23]
  go_simp
set_option maxRecDepth 100000 in
set_option maxHeartbeats 4000000 in
theorem eq32 (c : Cr) (w : World) : (Op.equalIn 10000 25 (.agg (crv c).toArray) (.agg (crv c).toArray)).run Tryd.prog w = .ok true w := by
  rw [show (10000 : Nat) = 9999 + 1 from rfl, run_equalIn_agg w 9999 25 _ _ (by kernel_rfl) (by kernel_rfl)]
  unfold crv
  have u3 := Tryd.underlying3
  have g3 := Tryd.isAgg3
  have z3 := Tryd.sizeOf3
  have u9 := Tryd.underlying9
  have a9 := Tryd.isAgg9
  have z9 := Tryd.sizeOf9
  have u30 := Tryd.underlying23
  have a30 := Tryd.isAgg23
  have z30 := Tryd.sizeOf23
  have u2 := Tryd.underlying2
  have a2 := Tryd.isAgg2
  have z2 := Tryd.sizeOf2
  simp only [Program.fieldsOf, Tryd.underlying25]
  go_simp
end Go.Proofs.YtobdcngjpgndiabDoor.Bo
