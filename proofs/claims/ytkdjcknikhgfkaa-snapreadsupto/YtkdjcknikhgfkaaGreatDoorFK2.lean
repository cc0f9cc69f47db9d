import Derived.Test.YtkdjcknikhgfkaaGreatDoorFK0
import Derived.Test.YtkdjcknikhgfkaaGreatDoorX3
/- What three listed variables give. -/
namespace Go.Proofs.YtkdjcknikhgfkaaGreatDoor
open Go Go.ChangeShapes Go.WideShapes Go.ChangeAt Go.RowKit

set_option maxRecDepth 100000 in
theorem gR : Tryz.prog.globalNamed "joust/joustref01.roots" = some 2 := by kernel_rfl
set_option maxRecDepth 100000 in
theorem gC : Tryz.prog.globalNamed "joust/joustref01.cubes" = some 3 := by kernel_rfl
set_option maxRecDepth 100000 in
theorem tR : (Tryz.prog.globals[2]?).map (·.type) = some 160 := by kernel_rfl
set_option maxRecDepth 100000 in
theorem tC : (Tryz.prog.globals[3]?).map (·.type) = some 187 := by kernel_rfl
set_option maxRecDepth 100000 in
theorem iv_datum : (Rows.laid_joust_joustref01_roots : DataW Unit) = .agg (Sha.iv.map fun x => .lit (.int .u32 x.toNat)) := by kernel_rfl
set_option maxRecDepth 100000 in
theorem cs_datum : (Rows.laid_joust_joustref01_cubes : DataW Unit) = .agg (Sha.ks.map fun x => .lit (.int .u32 x.toNat)) := by kernel_rfl
abbrev laid3 : List (String × DataW Unit) := [("joust/joustref01.roots", Rows.laid_joust_joustref01_roots), ("joust/joustref01.cubes", Rows.laid_joust_joustref01_cubes), ("joust/sha.roundWords", Rows.laid_joust_sha_roundWords)]

set_option maxRecDepth 100000 in
theorem all_of_laid {W : World} (h : laidMetH Tryz.prog laid3 W) : Kc W ∧ RK W ∧ 4 ≤ W.heap.size := by
  rw [MakeChecks.laidMetH_plain _ _ _ (by kernel_rfl)] at h
  obtain ⟨ps, ⟨g0, t0, cs0, f0, p0, q0, hg0, ht0, hv0, hd0, ⟨g1, t1, cs1, f1, p1, q1, hg1, ht1, hv1, hd1, ⟨g2, t2, cs2, f2, p2, q2, hg2, ht2, hv2, hd2, _, _⟩, _⟩, _⟩, _, _⟩ := h
  obtain rfl := Option.some.inj (gR.symm.trans hg0)
  obtain rfl := Option.some.inj (gC.symm.trans hg1)
  obtain rfl := Option.some.inj (gK.symm.trans hg2)
  obtain rfl := Option.some.inj (tR.symm.trans ht0)
  obtain rfl := Option.some.inj (tC.symm.trans ht1)
  obtain rfl := Option.some.inj (tK.symm.trans ht2)
  have hk : Kc W := fun j hj => by
    rw [World.var?_cell hg2 hv2 j, ← Array.getElem?_toList]
    exact words_of under50 rfl hd2 ks_datum j hj
  have hr : RK W := ⟨fun j hj => by
    rw [World.var?_cell hg0 hv0 j, ← Array.getElem?_toList]
    exact words_of under40 rfl hd0 iv_datum j hj, fun j hj => by
    rw [World.var?_cell hg1 hv1 j, ← Array.getElem?_toList]
    exact words_of under50 rfl hd1 cs_datum j hj⟩
  have h3 := World.block_lt_of_cell? W ⟨3, 0, none⟩ (hr.c 0 (by omega))
  exact ⟨hk, hr, h3⟩
end Go.Proofs.YtkdjcknikhgfkaaGreatDoor
