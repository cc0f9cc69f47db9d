/- What the listed variables give the walks. -/
import Derived.Test.YtabiomfgmdnikaaDoorRows
import Derived.Test.YtabiomfgmdnikaaDoorS0
import Derived.ProofKit
import Derived.LaidMore
import Derived.OpenShut
import Derived.Stop.Joined
namespace Go.Proofs.YtabiomfgmdnikaaDoor
open Go Go.ChangeShapes Go.WideShapes Go.ChangeAt Go.RowKit

theorem own : ownKnob Tryd.prog.godebug = none := by kernel_rfl
theorem gK : Tryd.prog.globalNamed "joust/sha.roundWords" = some 2 := by kernel_rfl
theorem tK : (Tryd.prog.globals[2]?).map (·.type) = some 68 := by kernel_rfl
theorem under39 : Tryd.prog.underlying 56 = some (.int .u32) := by kernel_rfl
theorem cells39 : Tryd.prog.cellsOf 56 = 1 := by kernel_rfl
theorem ks_datum : (Rows.laid_joust_sha_roundWords : DataW Unit) = .agg (Sha.ks.map fun x => .lit (.int .u32 x.toNat)) := by kernel_rfl

/-- an array of words that reads as a known datum: its cells -/
theorem words_of {W : World} {enc : TypeId × Value → Unit} {base fuel : Nat} {spare held : Bool} {cs : List Value} {x : DataW Unit × List MemPlace} {l : List UInt32} {t : TypeId} {n : Nat} (ht : Tryd.prog.underlying t = some (.array n 56)) (hl : l.length = n)
    (h : DataW.trod enc Tryd.prog W base (fun _ => spare) held fuel t cs = some x) (hx : x.1 = .agg (l.map fun x => .lit (.int .u32 x.toNat))) (j : Nat) (hj : j < n) : cs[j]? = some (.int .u32 (l.getD j 0).toNat) := by
  obtain ⟨xs, m, rfl, rfl, hlen, hn, hel⟩ := DataW.trod_array ht h
  have hj2 : j < xs.length := by omega
  have he := hel j hj
  rw [List.getElem?_eq_getElem hj2] at he
  obtain ⟨k, e1, e2, _⟩ := DataW.trod_int under39 he
  simp only [DataW.agg.injEq] at hx
  have hk : (xs.map (·.1))[j]? = (l.map fun x => (.lit (.int .u32 x.toNat) : DataW Unit))[j]? := by rw [hx]
  rw [List.getElem?_map, List.getElem?_map, List.getElem?_eq_getElem hj2, List.getElem?_eq_getElem (by omega : j < l.length)] at hk
  simp only [Option.map_some, Option.some.injEq] at hk
  rw [e2] at hk
  simp only [DataW.lit.injEq, Lit.int.injEq, true_and] at hk
  rw [cells39, Nat.mul_one] at e1
  have : (cs.drop j)[0]? = some (.int .u32 k) := by
    have h1 : ((cs.drop j).take 1)[0]? = some (.int .u32 k) := by rw [e1]; rfl
    rwa [List.getElem?_take, if_pos (by omega)] at h1
  rw [List.getElem?_drop, Nat.add_zero] at this
  rw [this, hk]
  simp [List.getD, show j < l.length by omega]

theorem below_of {w w' : World} (h : w.grownBy w' none) : Below w.heap.size w w' := ⟨h.os, h.tape, h.output, h.size, fun k hk => h.block k hk (by simp)⟩
theorem kc_of_laid {W : World} (h : laidMetH Tryd.prog [("joust/sha.roundWords", Rows.laid_joust_sha_roundWords)] W) : Kc W := by
  rw [MakeChecks.laidMetH_plain _ _ _ (by kernel_rfl)] at h
  obtain ⟨ps, ⟨g0, t0, cs0, f0, p0, q0, hg0, ht0, hv0, hd0, _, _⟩, _, _⟩ := h
  obtain rfl := Option.some.inj (gK.symm.trans hg0)
  obtain rfl := Option.some.inj (tK.symm.trans ht0)
  intro j hj
  have := World.var?_cell hg0 hv0 j
  rw [this, ← Array.getElem?_toList]
  exact words_of under50 rfl hd0 ks_datum j hj
end Go.Proofs.YtabiomfgmdnikaaDoor
