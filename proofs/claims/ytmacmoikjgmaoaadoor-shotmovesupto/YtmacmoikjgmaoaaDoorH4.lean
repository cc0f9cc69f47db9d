/- cars, shots, places are themselves; a build under a guard -/
import Derived.Test.YtmacmoikjgmaoaaDoorH1
import Derived.ChangeKeysEq
namespace Go.Proofs.YtmacmoikjgmaoaaDoor.Bo
open Go Go.RowKit

set_option maxRecDepth 100000 in
set_option maxHeartbeats 4000000 in
theorem eq30 (n : Nat) (x y : Int) (w : World) : (Op.equalIn (n + 2) 24 (.agg #[iv x, iv y]) (.agg #[iv x, iv y])).run Tryd.prog w = .ok true w := by
  rw [run_equalIn_agg w (n + 1) 24 _ _ (by kernel_rfl) (by kernel_rfl)]
  have u3 := Tryd.underlying2
  have g3 := Tryd.isAgg2
  have z3 := Tryd.sizeOf2
  simp only [Program.fieldsOf, Tryd.underlying24]
  go_simp
set_option maxRecDepth 100000 in
set_option maxHeartbeats 4000000 in
theorem eq32 (c : Cr) (w : World) : (Op.equalIn 10000 38 (.agg (crv c).toArray) (.agg (crv c).toArray)).run Tryd.prog w = .ok true w := by
  rw [show (10000 : Nat) = 9999 + 1 from rfl, run_equalIn_agg w 9999 38 _ _ (by kernel_rfl) (by kernel_rfl)]
  unfold crv
  have u3 := Tryd.underlying3
  have g3 := Tryd.isAgg3
  have z3 := Tryd.sizeOf3
  have u9 := Tryd.underlying9
  have a9 := Tryd.isAgg9
  have z9 := Tryd.sizeOf9
  have u30 := Tryd.underlying24
  have a30 := Tryd.isAgg24
  have z30 := Tryd.sizeOf24
  have u2 := Tryd.underlying2
  have a2 := Tryd.isAgg2
  have z2 := Tryd.sizeOf2
  simp only [Program.fieldsOf, Tryd.underlying38]
  go_simp
set_option maxRecDepth 100000 in
set_option maxHeartbeats 4000000 in
theorem eq26 (c : Sh) (w : World) : (Op.equalIn 10000 26 (.agg (shv c).toArray) (.agg (shv c).toArray)).run Tryd.prog w = .ok true w := by
  rw [show (10000 : Nat) = 9999 + 1 from rfl, run_equalIn_agg w 9999 26 _ _ (by kernel_rfl) (by kernel_rfl)]
  unfold shv
  have u3 := Tryd.underlying3
  have g3 := Tryd.isAgg3
  have z3 := Tryd.sizeOf3
  have u30 := Tryd.underlying24
  have a30 := Tryd.isAgg24
  have z30 := Tryd.sizeOf24
  have u2 := Tryd.underlying2
  have a2 := Tryd.isAgg2
  have z2 := Tryd.sizeOf2
  simp only [Program.fieldsOf, Tryd.underlying26]
  go_simp
theorem eq24 (x y : Int) (w : World) : (Op.equalIn 10000 24 (.agg #[iv x, iv y]) (.agg #[iv x, iv y])).run Tryd.prog w = .ok true w := eq30 9998 x y w
theorem build_g {P : Program} {w : World} {ops : Array Oper} {rest : List Oper} {o : Oper} {a : Act} {Q : Exit → Act → World → Prop} (hw : Region.wanted o (yielded ops a.tmps) = true) (t : TypeId) (parts : Array (Nat × Operand))
    (ho : o.op = .build t parts) (cells : Array Value) (hb : P.built t (parts.map fun (i, x) => (i, a.eval x)).toList = some cells) (h : wpList P ops Q rest (a.put o.dst (.agg cells)) w) : wpList P ops Q (o :: rest) a w :=
  wpList_want hw fun _ hK => by
    unfold Oper.wp execOp
    simp only [ho, Sem.run_bind, run_build w t _ cells hb, Result.andThen_ok]
    exact hK _ _ h
end Go.Proofs.YtmacmoikjgmaoaaDoor.Bo
