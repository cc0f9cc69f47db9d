/- What the second forms need: lists of strings, their bulk, the listed variables. -/
import Derived.Test.YtabiomfgmdnikaaDoorK0
import Derived.Test.YtabiomfgmdnikaaDoorR4
import Derived.Deep.Strs
import Derived.ChangeMaps5
namespace Go.Proofs.YtabiomfgmdnikaaDoor
open Go Go.ChangeShapes Go.WideShapes Go.ChangeAt Go.RowKit

theorem gR : Tryd.prog.globalNamed "joust/joustref01.roots" = some 0 := by kernel_rfl
theorem gC : Tryd.prog.globalNamed "joust/joustref01.cubes" = some 1 := by kernel_rfl
theorem tR : (Tryd.prog.globals[0]?).map (·.type) = some 57 := by kernel_rfl
theorem tC : (Tryd.prog.globals[1]?).map (·.type) = some 68 := by kernel_rfl
theorem iv_datum : (Rows.laid_joust_joustref01_roots : DataW Unit) = .agg (Sha.iv.map fun x => .lit (.int .u32 x.toNat)) := by kernel_rfl
theorem cs_datum : (Rows.laid_joust_joustref01_cubes : DataW Unit) = .agg (Sha.ks.map fun x => .lit (.int .u32 x.toNat)) := by kernel_rfl
abbrev laid3 : List (String × DataW Unit) := [("joust/joustref01.roots", Rows.laid_joust_joustref01_roots), ("joust/joustref01.cubes", Rows.laid_joust_joustref01_cubes), ("joust/sha.roundWords", Rows.laid_joust_sha_roundWords)]

theorem all_of_laid {W : World} (h : laidMetH Tryd.prog laid3 W) : Kc W ∧ RK W ∧ 3 ≤ W.heap.size := by
  rw [MakeChecks.laidMetH_plain _ _ _ (by kernel_rfl)] at h
  obtain ⟨ps, ⟨g0, t0, cs0, f0, p0, q0, hg0, ht0, hv0, hd0, ⟨g1, t1, cs1, f1, p1, q1, hg1, ht1, hv1, hd1, ⟨g2, t2, cs2, f2, p2, q2, hg2, ht2, hv2, hd2, _, _⟩, _⟩, _⟩, _, _⟩ := h
  obtain rfl := Option.some.inj (gR.symm.trans hg0)
  obtain rfl := Option.some.inj (gC.symm.trans hg1)
  obtain rfl := Option.some.inj (gK.symm.trans hg2)
  obtain rfl := Option.some.inj (tR.symm.trans ht0)
  obtain rfl := Option.some.inj (tC.symm.trans ht1)
  obtain rfl := Option.some.inj (tK.symm.trans ht2)
  have hk : Kc W := fun j hj => by
    rw [World.var?_cell hg2 hv2 j, ← Array.getElem?_toList]
    exact words_of under50 rfl hd2 ks_datum j hj
  have hr : RK W := ⟨fun j hj => by
    rw [World.var?_cell hg0 hv0 j, ← Array.getElem?_toList]
    exact words_of under40 rfl hd0 iv_datum j hj, fun j hj => by
    rw [World.var?_cell hg1 hv1 j, ← Array.getElem?_toList]
    exact words_of under50 rfl hd1 cs_datum j hj⟩
  exact ⟨hk, hr, hk.lt⟩

theorem door3 (os : Os) (args : Array Value) : laidMetH Tryd.prog laid3 ((World.doorLaid Tryd.prog 400 os).forCall (fun _ _ => 0) ⟨#[], args, []⟩).memory :=
  laidMetH_of_parts3 (fuel := 8) (laidMet_of_run' 8 (by kernel_rfl) (by kernel_rfl)) (by kernel_rfl) (by kernel_rfl)
theorem laidOut : laidOutB Tryd.prog = true := by kernel_rfl
theorem under29 : Tryd.prog.underlying 29 = some (.slice 9) := by kernel_rfl
theorem cells9 : Tryd.prog.cellsOf 9 = 1 := by kernel_rfl

theorem str_bulk {H : Type} (s : ByteArray) : Rows.uptoBulk (DataW.lit (H := H) (.string s.data.toList)) = s.size + 1 := by
  have e : s.data.toList.length = s.size := sl_len s
  simp only [Rows.uptoBulk, e]
theorem flat_bulk {H : Type} (Sx : Nat → ByteArray) (L : List Nat) : (Mac.flat ((L.map Sx).map sl)).length ≤ 9 * Rows.uptoBulkAll (H := H) (L.map fun i => .lit (.string (Sx i).data.toList)) := by
  induction L with
  | nil => simp [Mac.flat]
  | cons x r ih =>
    simp only [List.map_cons, Mac.flat, List.flatMap_cons, List.length_append, Mac.len8_len, sl_len, Rows.uptoBulkAll, str_bulk] at *
    omega
/-- a list of strings as it is handed in -/
theorem strs_open {H : Type} {enc : TypeId × Value → H} {W : World} {a0 : Option Addr} {n0 c0 fuel : Nat} {d : DataW H} {pl : List MemPlace} (hf : DataW.trod enc Tryd.prog W 0 (fun _ => true) true fuel 29 (Value.slice a0 n0 c0).cells.toList = some (d, pl)) :
    ∃ ps : List ByteArray, Strs W a0 n0 ps ∧ (Mac.flat (ps.map sl)).length ≤ 9 * Rows.uptoBulk d := by
  rcases Deep.open_strs under29 under9 cells9 hf with ⟨hcs, hx⟩ | ⟨a, len, cap, m, Sx, hcs, _, hl, _, hm, hx, hc⟩
  · have e : Value.slice a0 n0 c0 = Value.slice none 0 0 := by simpa [Value.cells] using hcs
    injection e with e1 e2 e3
    subst e1 e2 e3
    exact ⟨[], ⟨rfl, fun h => by omega⟩, by simp [Mac.flat]⟩
  · have e : Value.slice a0 n0 c0 = Value.slice (some a) len cap := by simpa [Value.cells] using hcs
    injection e with e1 e2 e3
    subst e1 e2 e3
    simp only [if_true] at hm
    simp only [Prod.mk.injEq] at hx
    refine ⟨(List.range n0).map Sx, ⟨by simp, fun hn => ?_⟩, ?_⟩
    · have h0 := (hc 0 (by omega)).1
      obtain ⟨b, off, rfl⟩ : ∃ b off, a = ⟨b, off, none⟩ := by
        obtain ⟨b, off, bt⟩ := a
        cases bt with
        | none => exact ⟨b, off, rfl⟩
        | some x =>
          exfalso
          simp [World.cell?, Addr.add] at h0
          split at h0 <;> cases h0
      refine ⟨b, off, rfl, fun j p hp => ?_⟩
      have hj : j < n0 := by have := (List.getElem?_eq_some_iff.1 hp).1; simpa using this
      have e2 : Sx j = p := by
        have : ((List.range n0).map Sx)[j]? = some (Sx j) := by rw [List.getElem?_map, List.getElem?_range hj]; rfl
        rw [this] at hp; exact Option.some.inj hp
      have := (hc j (by omega)).1
      rw [Addr.add_mid] at this
      rw [this, e2]
    · rw [hx.1]
      have := flat_bulk (H := H) Sx (List.range n0)
      simp only [Rows.uptoBulk]
      omega
end Go.Proofs.YtabiomfgmdnikaaDoor
