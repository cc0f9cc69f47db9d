/- What the listed variable gives the walks. -/
import Derived.Test.YtmacmoikjgmaoaaDoorRows
import Derived.Test.YtmacmoikjgmaoaaDoorChecked
import Derived.Test.YtmacmoikjgmaoaaDoorS1
import Derived.ProofKit
import Derived.LaidMore
import Derived.OpenShut
import Derived.Stop.Joined
namespace Go.Proofs.YtmacmoikjgmaoaaDoor
open Go Go.ChangeShapes Go.WideShapes Go.ChangeAt Go.RowKit

set_option maxRecDepth 100000 in
theorem own : ownKnob Tryd.prog.godebug = none := by kernel_rfl
set_option maxRecDepth 100000 in
theorem gK : Tryd.prog.globalNamed "joust/fix.sines" = some 0 := by kernel_rfl
set_option maxRecDepth 100000 in
theorem tK : (Tryd.prog.globals[0]?).map (·.type) = some 93 := by kernel_rfl
set_option maxRecDepth 100000 in
theorem under21 : Tryd.prog.underlying 21 = some (.int .i32) := by kernel_rfl
set_option maxRecDepth 100000 in
theorem underArr : Tryd.prog.underlying 93 = some (.array 65 21) := by kernel_rfl
set_option maxRecDepth 100000 in
theorem cells21 : Tryd.prog.cellsOf 21 = 1 := by kernel_rfl
set_option maxRecDepth 100000 in
theorem sn_datum : (Rows.laid_joust_fix_sines : DataW Unit) = .agg (sn.map fun x => .lit (.int .i32 x)) := by kernel_rfl

/-- an array of numbers that reads as a known datum: its cells -/
theorem words_of {W : World} {enc : TypeId × Value → Unit} {base fuel : Nat} {spare held : Bool} {cs : List Value} {x : DataW Unit × List MemPlace} {l : List Int} {t : TypeId} {n : Nat} (ht : Tryd.prog.underlying t = some (.array n 21)) (hl : l.length = n)
    (h : DataW.trod enc Tryd.prog W base (fun _ => spare) held fuel t cs = some x) (hx : x.1 = .agg (l.map fun x => .lit (.int .i32 x))) (j : Nat) (hj : j < n) : cs[j]? = some (.int .i32 (l.getD j 0)) := by
  obtain ⟨xs, m, rfl, rfl, hlen, hn, hel⟩ := DataW.trod_array ht h
  have hj2 : j < xs.length := by omega
  have he := hel j hj
  rw [List.getElem?_eq_getElem hj2] at he
  obtain ⟨k, e1, e2, _⟩ := DataW.trod_int under21 he
  simp only [DataW.agg.injEq] at hx
  have hk : (xs.map (·.1))[j]? = (l.map fun x => (.lit (.int .i32 x) : DataW Unit))[j]? := by rw [hx]
  rw [List.getElem?_map, List.getElem?_map, List.getElem?_eq_getElem hj2, List.getElem?_eq_getElem (by omega : j < l.length)] at hk
  simp only [Option.map_some, Option.some.injEq] at hk
  rw [e2] at hk
  simp only [DataW.lit.injEq, Lit.int.injEq, true_and] at hk
  rw [cells21, Nat.mul_one] at e1
  have : (cs.drop j)[0]? = some (.int .i32 k) := by
    have h1 : ((cs.drop j).take 1)[0]? = some (.int .i32 k) := by rw [e1]; rfl
    rwa [List.getElem?_take, if_pos (by omega)] at h1
  rw [List.getElem?_drop, Nat.add_zero] at this
  rw [this, hk]
  simp [List.getD, show j < l.length by omega]

set_option maxRecDepth 100000 in
theorem below_of {w w' : World} (h : w.grownBy w' none) : Below w.heap.size w w' := ⟨h.os, h.tape, h.output, h.size, fun k hk => h.block k hk (by simp)⟩
set_option maxRecDepth 100000 in
theorem kc_of_laid {W : World} (h : laidMetH Tryd.prog [("joust/fix.sines", Rows.laid_joust_fix_sines)] W) : Kc W := by
  rw [MakeChecks.laidMetH_plain _ _ _ (by kernel_rfl)] at h
  obtain ⟨ps, ⟨g0, t0, cs0, f0, p0, q0, hg0, ht0, hv0, hd0, _, _⟩, _, _⟩ := h
  obtain rfl := Option.some.inj (gK.symm.trans hg0)
  obtain rfl := Option.some.inj (tK.symm.trans ht0)
  intro j hj
  have := World.var?_cell hg0 hv0 j
  rw [this, ← Array.getElem?_toList]
  exact words_of underArr rfl hd0 sn_datum j hj
set_option maxRecDepth 100000 in
theorem in_of_wf {a : Int} (h : (Lit.int .i64 a).wf = true) : In a := by
  have m1 : IntKind.i64.min = -9223372036854775808 := by decide
  have m2 : IntKind.i64.max = 9223372036854775807 := by decide
  simp [Lit.wf, m1, m2] at h
  exact h
set_option maxRecDepth 100000 in
theorem door1 (os : Os) (args : Array Value) : laidMetH Tryd.prog [("joust/fix.sines", Rows.laid_joust_fix_sines)] ((World.doorLaid Tryd.prog 400 os).forCall (fun _ _ => 0) ⟨#[], args, []⟩).memory :=
  laidMetH_of_parts3 (fuel := 8) (laidMet_of_run' 8 (by kernel_rfl) (by kernel_rfl)) (by kernel_rfl) (by kernel_rfl)
end Go.Proofs.YtmacmoikjgmaoaaDoor
