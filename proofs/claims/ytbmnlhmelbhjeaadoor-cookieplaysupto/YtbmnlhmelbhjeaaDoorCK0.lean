/- What the listed variables give the walks. -/
import Derived.Test.YtbmnlhmelbhjeaaDoorRows
import Derived.Test.YtbmnlhmelbhjeaaDoorMaS0
import Derived.ProofKit
import Derived.LaidMore
import Derived.OpenShut
import Derived.Stop.Joined
import Derived.Deep.Strs
import Derived.SevenTiedAt
import Derived.ChangeMaps5
namespace Go.Proofs.YtbmnlhmelbhjeaaDoor
open Go Go.ChangeShapes Go.WideShapes Go.ChangeAt Go.RowKit

set_option maxRecDepth 100000 in
theorem own : ownKnob Tryd.prog.godebug = none := by kernel_rfl
set_option maxRecDepth 100000 in
theorem gK : Tryd.prog.globalNamed "joust/sha.roundWords" = some 0 := by kernel_rfl
set_option maxRecDepth 100000 in
theorem tK : (Tryd.prog.globals[0]?).map (·.type) = some 86 := by kernel_rfl
set_option maxRecDepth 100000 in
theorem under39 : Tryd.prog.underlying 79 = some (.int .u32) := by kernel_rfl
set_option maxRecDepth 100000 in
theorem cells39 : Tryd.prog.cellsOf 79 = 1 := by kernel_rfl
set_option maxRecDepth 100000 in
theorem ks_datum : (Rows.laid_joust_sha_roundWords : DataW Unit) = .agg (Sha.ks.map fun x => .lit (.int .u32 x.toNat)) := by kernel_rfl

/-- an array of words that reads as a known datum: its cells -/
theorem words_of {W : World} {enc : TypeId × Value → Unit} {base fuel : Nat} {spare held : Bool} {cs : List Value} {x : DataW Unit × List MemPlace} {l : List UInt32} {t : TypeId} {n : Nat} (ht : Tryd.prog.underlying t = some (.array n 79)) (hl : l.length = n)
    (h : DataW.trod enc Tryd.prog W base (fun _ => spare) held fuel t cs = some x) (hx : x.1 = .agg (l.map fun x => .lit (.int .u32 x.toNat))) (j : Nat) (hj : j < n) : cs[j]? = some (.int .u32 (l.getD j 0).toNat) := by
  obtain ⟨xs, m, rfl, rfl, hlen, hn, hel⟩ := DataW.trod_array ht h
  have hj2 : j < xs.length := by omega
  have he := hel j hj
  rw [List.getElem?_eq_getElem hj2] at he
  obtain ⟨k, e1, e2, _⟩ := DataW.trod_int under39 he
  simp only [DataW.agg.injEq] at hx
  have hk : (xs.map (·.1))[j]? = (l.map fun x => (.lit (.int .u32 x.toNat) : DataW Unit))[j]? := by rw [hx]
  rw [List.getElem?_map, List.getElem?_map, List.getElem?_eq_getElem hj2, List.getElem?_eq_getElem (by omega : j < l.length)] at hk
  simp only [Option.map_some, Option.some.injEq] at hk
  rw [e2] at hk
  simp only [DataW.lit.injEq, Lit.int.injEq, true_and] at hk
  rw [cells39, Nat.mul_one] at e1
  have : (cs.drop j)[0]? = some (.int .u32 k) := by
    have h1 : ((cs.drop j).take 1)[0]? = some (.int .u32 k) := by rw [e1]; rfl
    rwa [List.getElem?_take, if_pos (by omega)] at h1
  rw [List.getElem?_drop, Nat.add_zero] at this
  rw [this, hk]
  simp [List.getD, show j < l.length by omega]

theorem below_of {w w' : World} (h : w.grownBy w' none) : Below w.heap.size w w' := ⟨h.os, h.tape, h.output, h.size, fun k hk => h.block k hk (by simp)⟩
theorem kc_of_laid {W : World} (h : laidMetH Tryd.prog [("joust/sha.roundWords", Rows.laid_joust_sha_roundWords)] W) : Kc W := by
  rw [MakeChecks.laidMetH_plain _ _ _ (by kernel_rfl)] at h
  obtain ⟨ps, ⟨g0, t0, cs0, f0, p0, q0, hg0, ht0, hv0, hd0, _, _⟩, _, _⟩ := h
  obtain rfl := Option.some.inj (gK.symm.trans hg0)
  obtain rfl := Option.some.inj (tK.symm.trans ht0)
  intro j hj
  have := World.var?_cell hg0 hv0 j
  rw [this, ← Array.getElem?_toList]
  exact words_of under50 rfl hd0 ks_datum j hj
set_option maxRecDepth 100000 in
theorem door1 (os : Os) (args : Array Value) : laidMetH Tryd.prog [("joust/sha.roundWords", Rows.laid_joust_sha_roundWords)] ((World.doorLaid Tryd.prog 400 os).forCall (fun _ _ => 0) ⟨#[], args, []⟩).memory :=
  laidMetH_of_parts3 (fuel := 8) (laidMet_of_run' 8 (by kernel_rfl) (by kernel_rfl)) (by kernel_rfl) (by kernel_rfl)
set_option maxRecDepth 100000 in
theorem laidOut : laidOutB Tryd.prog = true := by kernel_rfl
theorem cells9 : Tryd.prog.cellsOf 9 = 1 := by kernel_rfl
theorem under22' : Tryd.prog.underlying 22 = some (.slice 9) := by kernel_rfl
/-- a list of strings as it is handed in -/
theorem strs_open {H : Type} {enc : TypeId × Value → H} {W : World} {a0 : Option Addr} {n0 c0 fuel : Nat} {d : DataW H} {pl : List MemPlace} (hf : DataW.trod enc Tryd.prog W 0 (fun _ => true) true fuel 22 (Value.slice a0 n0 c0).cells.toList = some (d, pl)) :
    ∃ ps : List ByteArray, Strs W a0 n0 ps ∧ n0 ≤ c0 ∧ (a0 = none → c0 = 0) ∧ (n0 = 0 ∨ ∃ elems spare, d = .slice elems spare ∧ n0 ≤ elems.length + spare.length) ∧ ∀ (j : Nat) (p : ByteArray), ps[j]? = some p → p.size ≤ 9223372036854775807 := by
  rcases Deep.open_strs under22' under9 cells9 hf with ⟨hcs, hx⟩ | ⟨a, len, cap, m, Sx, hcs, _, hl, _, hm, hx, hc⟩
  · have e : Value.slice a0 n0 c0 = Value.slice none 0 0 := by simpa [Value.cells] using hcs
    injection e with e1 e2 e3
    subst e1 e2 e3
    exact ⟨[], ⟨rfl, fun h => by omega⟩, Nat.le_refl _, fun _ => rfl, .inl rfl, fun j p h => by simp at h⟩
  · have e : Value.slice a0 n0 c0 = Value.slice (some a) len cap := by simpa [Value.cells] using hcs
    injection e with e1 e2 e3
    subst e1 e2 e3
    simp only [if_true] at hm
    simp only [Prod.mk.injEq] at hx
    have at_ : ∀ j p, ((List.range n0).map Sx)[j]? = some p → j < n0 ∧ Sx j = p := fun j p hp => by
      have hj : j < n0 := by have := (List.getElem?_eq_some_iff.1 hp).1; simpa using this
      refine ⟨hj, ?_⟩
      have : ((List.range n0).map Sx)[j]? = some (Sx j) := by rw [List.getElem?_map, List.getElem?_range hj]; rfl
      rw [this] at hp; exact Option.some.inj hp
    refine ⟨(List.range n0).map Sx, ⟨by simp, fun hn => ?_⟩, by omega, (fun h => by cases h), .inr ⟨_, _, hx.1, by simp⟩, fun j p hp => ?_⟩
    · have h0 := (hc 0 (by omega)).1
      obtain ⟨b, off, rfl⟩ : ∃ b off, a = ⟨b, off, none⟩ := by
        obtain ⟨b, off, bt⟩ := a
        cases bt with
        | none => exact ⟨b, off, rfl⟩
        | some x =>
          exfalso
          simp [World.cell?, Addr.add] at h0
          split at h0 <;> cases h0
      refine ⟨b, off, rfl, fun j p hp => ?_⟩
      obtain ⟨hj, e2⟩ := at_ j p hp
      have := (hc j (by omega)).1
      rw [Addr.add_mid] at this
      rw [this, e2]
    · obtain ⟨hj, e2⟩ := at_ j p hp
      have := (hc j (by omega)).2
      rw [e2] at this
      exact this
end Go.Proofs.YtbmnlhmelbhjeaaDoor
