import Derived.Test.YtkdjcknikhgfkaaGreatDoorFD1
import Derived.Test.YtkdjcknikhgfkaaGreatDoorFA3
import Derived.Laws.StructEq
/- '==' of two datagrams that are the same -/
namespace Go.Proofs.YtkdjcknikhgfkaaGreatDoor.Pk
open Go Go.RowKit
set_option maxHeartbeats 8000000 in
set_option maxRecDepth 100000 in
theorem eqI26 (a : Dg) (W : World) : (Op.equalIn 10000 50 (.agg a.cells.toArray) (.agg a.cells.toArray)).run Tryz.prog W = .ok true W := by
  show (Op.equalIn 10000 50 (dv a) (dv a)).run Tryz.prog W = .ok true W
  unfold dv
  rw [show (10000 : Nat) = 9998 + 1 + 1 from rfl]
  go_simp
set_option maxRecDepth 100000 in
theorem eq26 (a : Dg) (W : World) : (binOp BinOp.eql 50 (.agg a.cells.toArray) (.agg a.cells.toArray)).run Tryz.prog W = .ok (.bool true) W := by
  rw [run_eql_struct, eqI26]; rfl
set_option maxRecDepth 100000 in
theorem neq26 (a : Dg) (W : World) : (binOp BinOp.neq 50 (.agg a.cells.toArray) (.agg a.cells.toArray)).run Tryz.prog W = .ok (.bool false) W := by
  rw [run_neq_struct, eqI26]; rfl
set_option maxRecDepth 100000 in
theorem guard26 (op : BinOp) (x y : Operand) (xs ys : Array Value) (W : World) : (eqGuard op 50 x y (.agg xs) (.agg ys)).run Tryz.prog W = .ok () W :=
  run_eqGuard_agg W op 50 x y xs ys (by kernel_rfl)
end Go.Proofs.YtkdjcknikhgfkaaGreatDoor.Pk
