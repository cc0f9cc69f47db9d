import Derived.Test.YtkdjcknikhgfkaaGreatDoorRows
import Derived.Test.YtkdjcknikhgfkaaGreatDoorX2
import Derived.ProofKit
import Derived.LaidMore
import Derived.OpenShut
import Derived.Stop.Joined
/- What the listed variables give the walks. -/
namespace Go.Proofs.YtkdjcknikhgfkaaGreatDoor
open Go Go.ChangeShapes Go.WideShapes Go.ChangeAt Go.RowKit

set_option maxRecDepth 100000 in
theorem own : ownKnob Tryz.prog.godebug = none := by kernel_rfl
set_option maxRecDepth 100000 in
theorem gK : Tryz.prog.globalNamed "joust/sha.roundWords" = some 0 := by kernel_rfl
set_option maxRecDepth 100000 in
theorem tK : (Tryz.prog.globals[0]?).map (·.type) = some 187 := by kernel_rfl
set_option maxRecDepth 100000 in
theorem under39 : Tryz.prog.underlying 159 = some (.int .u32) := by kernel_rfl
set_option maxRecDepth 100000 in
theorem cells39 : Tryz.prog.cellsOf 159 = 1 := by kernel_rfl
set_option maxRecDepth 100000 in
theorem ks_datum : (Rows.laid_joust_sha_roundWords : DataW Unit) = .agg (Sha.ks.map fun x => .lit (.int .u32 x.toNat)) := by kernel_rfl

/-- an array of words that reads as a known datum: its cells -/
theorem words_of {W : World} {enc : TypeId × Value → Unit} {base fuel : Nat} {spare held : Bool} {cs : List Value} {x : DataW Unit × List MemPlace} {l : List UInt32} {t : TypeId} {n : Nat} (ht : Tryz.prog.underlying t = some (.array n 159)) (hl : l.length = n)
    (h : DataW.trod enc Tryz.prog W base (fun _ => spare) held fuel t cs = some x) (hx : x.1 = .agg (l.map fun x => .lit (.int .u32 x.toNat))) (j : Nat) (hj : j < n) : cs[j]? = some (.int .u32 (l.getD j 0).toNat) := by
  obtain ⟨xs, m, rfl, rfl, hlen, hn, hel⟩ := DataW.trod_array ht h
  have hj2 : j < xs.length := by omega
  have he := hel j hj
  rw [List.getElem?_eq_getElem hj2] at he
  obtain ⟨k, e1, e2, _⟩ := DataW.trod_int under39 he
  simp only [DataW.agg.injEq] at hx
  have hk : (xs.map (·.1))[j]? = (l.map fun x => (.lit (.int .u32 x.toNat) : DataW Unit))[j]? := by rw [hx]
  rw [List.getElem?_map, List.getElem?_map, List.getElem?_eq_getElem hj2, List.getElem?_eq_getElem (by omega : j < l.length)] at hk
  simp only [Option.map_some, Option.some.injEq] at hk
  rw [e2] at hk
  simp only [DataW.lit.injEq, Lit.int.injEq, true_and] at hk
  rw [cells39, Nat.mul_one] at e1
  have : (cs.drop j)[0]? = some (.int .u32 k) := by
    have h1 : ((cs.drop j).take 1)[0]? = some (.int .u32 k) := by rw [e1]; rfl
    rwa [List.getElem?_take, if_pos (by omega)] at h1
  rw [List.getElem?_drop, Nat.add_zero] at this
  rw [this, hk]
  simp [List.getD, show j < l.length by omega]

theorem below_of {w w' : World} (h : w.grownBy w' none) : Below w.heap.size w w' := ⟨h.os, h.tape, h.output, h.size, fun k hk => h.block k hk (by simp)⟩
set_option maxRecDepth 100000 in
theorem kc_of_laid {W : World} (h : laidMetH Tryz.prog [("joust/sha.roundWords", Rows.laid_joust_sha_roundWords)] W) : Kc W := by
  rw [MakeChecks.laidMetH_plain _ _ _ (by kernel_rfl)] at h
  obtain ⟨ps, ⟨g0, t0, cs0, f0, p0, q0, hg0, ht0, hv0, hd0, _, _⟩, _, _⟩ := h
  obtain rfl := Option.some.inj (gK.symm.trans hg0)
  obtain rfl := Option.some.inj (tK.symm.trans ht0)
  intro j hj
  have := World.var?_cell hg0 hv0 j
  rw [this, ← Array.getElem?_toList]
  exact words_of under50 rfl hd0 ks_datum j hj
end Go.Proofs.YtkdjcknikhgfkaaGreatDoor
