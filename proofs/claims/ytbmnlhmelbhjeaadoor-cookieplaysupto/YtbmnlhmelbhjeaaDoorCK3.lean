/- What three listed variables give. -/
import Derived.Test.YtbmnlhmelbhjeaaDoorCK1
import Derived.Test.YtbmnlhmelbhjeaaDoorMaC3
namespace Go.Proofs.YtbmnlhmelbhjeaaDoor
open Go Go.ChangeShapes Go.WideShapes Go.ChangeAt Go.RowKit

set_option maxRecDepth 100000 in
theorem gR : Tryd.prog.globalNamed "joust/joustref01.roots" = some 1 := by kernel_rfl
set_option maxRecDepth 100000 in
theorem gC : Tryd.prog.globalNamed "joust/joustref01.cubes" = some 2 := by kernel_rfl
set_option maxRecDepth 100000 in
theorem tR : (Tryd.prog.globals[1]?).map (·.type) = some 80 := by kernel_rfl
set_option maxRecDepth 100000 in
theorem tC : (Tryd.prog.globals[2]?).map (·.type) = some 86 := by kernel_rfl
set_option maxRecDepth 100000 in
theorem iv_datum : (Rows.laid_joust_joustref01_roots : DataW Unit) = .agg (Sha.iv.map fun x => .lit (.int .u32 x.toNat)) := by kernel_rfl
set_option maxRecDepth 100000 in
theorem cs_datum : (Rows.laid_joust_joustref01_cubes : DataW Unit) = .agg (Sha.ks.map fun x => .lit (.int .u32 x.toNat)) := by kernel_rfl
abbrev laid3 : List (String × DataW Unit) := [("joust/joustref01.roots", Rows.laid_joust_joustref01_roots), ("joust/joustref01.cubes", Rows.laid_joust_joustref01_cubes), ("joust/sha.roundWords", Rows.laid_joust_sha_roundWords)]

set_option maxRecDepth 100000 in
theorem all_of_laid {W : World} (h : laidMetH Tryd.prog laid3 W) : Kc W ∧ RK W ∧ 3 ≤ W.heap.size := by
  rw [MakeChecks.laidMetH_plain _ _ _ (by kernel_rfl)] at h
  obtain ⟨ps, ⟨g0, t0, cs0, f0, p0, q0, hg0, ht0, hv0, hd0, ⟨g1, t1, cs1, f1, p1, q1, hg1, ht1, hv1, hd1, ⟨g2, t2, cs2, f2, p2, q2, hg2, ht2, hv2, hd2, _, _⟩, _⟩, _⟩, _, _⟩ := h
  obtain rfl := Option.some.inj (gR.symm.trans hg0)
  obtain rfl := Option.some.inj (gC.symm.trans hg1)
  obtain rfl := Option.some.inj (gK.symm.trans hg2)
  obtain rfl := Option.some.inj (tR.symm.trans ht0)
  obtain rfl := Option.some.inj (tC.symm.trans ht1)
  obtain rfl := Option.some.inj (tK.symm.trans ht2)
  have hk : Kc W := fun j hj => by
    rw [World.var?_cell hg2 hv2 j, ← Array.getElem?_toList]
    exact words_of under50 rfl hd2 ks_datum j hj
  have hr : RK W := ⟨fun j hj => by
    rw [World.var?_cell hg0 hv0 j, ← Array.getElem?_toList]
    exact words_of under40 rfl hd0 iv_datum j hj, fun j hj => by
    rw [World.var?_cell hg1 hv1 j, ← Array.getElem?_toList]
    exact words_of under50 rfl hd1 cs_datum j hj⟩
  have h3 := World.block_lt_of_cell? W ⟨2, 0, none⟩ (hr.c 0 (by omega))
  exact ⟨hk, hr, h3⟩
theorem str_bulk {H : Type} (s : ByteArray) : Rows.uptoBulk (DataW.lit (H := H) (.string s.data.toList)) = s.size + 1 := by
  have e : s.data.toList.length = s.size := sl_len s
  simp only [Rows.uptoBulk, e]
theorem datum_bulk {H : Type} : ∀ (xs : List OpR), ∀ o ∈ xs, o.A.size ≤ Rows.uptoBulkAll (xs.map (datum (H := H))) ∧ o.B.size ≤ Rows.uptoBulkAll (xs.map (datum (H := H)))
  | [], o, h => by cases h
  | p :: r, o, h => by
    have e1 : p.A.data.toList.length = p.A.size := sl_len p.A
    have e2 : p.B.data.toList.length = p.B.size := sl_len p.B
    simp only [List.map_cons, Rows.uptoBulkAll, datum, Rows.uptoBulk, e1, e2]
    rcases List.mem_cons.1 h with rfl | h
    · omega
    · have := datum_bulk (H := H) r o h
      omega
theorem scr_small {H : Type} {d : DataW H} {xs : List OpR} (h : (d = .nil ∧ xs = []) ∨ ∃ spare, d = .slice (xs.map datum) spare) : ∀ o ∈ xs, o.A.size ≤ Rows.uptoBulk d ∧ o.B.size ≤ Rows.uptoBulk d := by
  intro o ho
  rcases h with ⟨_, rfl⟩ | ⟨sp, rfl⟩
  · cases ho
  · have := datum_bulk (H := H) xs o ho
    simp only [Rows.uptoBulk]
    omega
end Go.Proofs.YtbmnlhmelbhjeaaDoor
