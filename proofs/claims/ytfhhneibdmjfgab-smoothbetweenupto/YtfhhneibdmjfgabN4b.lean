/- a region's load of a row, at any time -/
import Derived.Test.YtfhhneibdmjfgabN4
namespace Go.Proofs.Ytfhhneibdmjfgab
open Go Go.RowKit Go.Maps Sm
set_option maxRecDepth 100000
theorem ty_load {ops : Array Oper} {S : World → Prop} {oi : Oper} {a : Act} (hw : Region.wanted oi (yielded ops a.tmps) = true) (ty : TypeId) (x : Operand) (ho : oi.op = .load ty x)
    (b o : Nat) (hx : a.eval x = .pointer (some ⟨b, o, none⟩)) (cs : List Value) (d : TypeDesc) (hc : ∀ w, S w → w.rangeAt b o cs)
    (hu : Try.prog.underlying ty = some d) (hd : d.isRow = true) (hi : (Try.prog.info? ty).map (·.size) = some cs.length) : YieldsIf Try.prog ops S oi (.agg cs.toArray) a :=
  Or.inl ⟨hw, fun w hS => by
    unfold execOp
    simp only [ho, hx, Instr.loadAt, Instr.sureAddr, Sem.run_bind, Sem.run_pure, Result.andThen_ok, run_loadVar_mid w b o ty cs d (hc w hS) hu hd hi]⟩
end Go.Proofs.Ytfhhneibdmjfgab
