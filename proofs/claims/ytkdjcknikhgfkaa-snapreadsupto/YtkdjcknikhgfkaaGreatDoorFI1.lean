import Derived.Test.YtkdjcknikhgfkaaGreatDoorFI0
/- FrameApart -/
namespace Go.Proofs.YtkdjcknikhgfkaaGreatDoor.Pk
open Go Go.RowKit

theorem alloc_has {w w0 : World} {D : List Value} (h : w.alloc (.cells D.toArray 50) = w0) : Has w0 w.heap.size D 50 ∧ w.grownBy w0 none := by
  rw [← h]; exact ⟨Has.new w _ 50, World.grownBy_alloc _ _ _⟩
theorem dg_one (d : Dg) : d.cells.toArray.all (·.oneCell') = true := by simp [Dg.cells, Value.oneCell']
theorem dg_info (d : Dg) : (Tryz.prog.info? 50).map (·.size) = some d.cells.toArray.size := by show _ = some 15; kernel_rfl
/-- a datagram is laid into a new block -/
theorem store_dg {ops : Array Oper} {rest : List Oper} {op : Oper} {a : Act} {Q : Exit → Act → World → Prop} (w3 : World) (d : Dg) {A : Array Value} (hgd : op.guard = none) {x y : Operand} (ho : op.op = .store 50 x y)
    (hx : a.eval x = .pointer (some ⟨w3.heap.size, 0, none⟩)) (hy : a.eval y = .agg d.cells.toArray) (hA : A.size = 15)
    (h : ∀ w6, Has w6 w3.heap.size d.cells 50 → w3.grownBy w6 none → wpList Tryz.prog ops Q rest (a.put op.dst undef) w6) : wpList Tryz.prog ops Q (op :: rest) a (w3.alloc (.cells A 50)) := by
  have e : A.toList.length = 15 := by rw [Array.length_toList]; exact hA
  have hn := Has.newA w3 A 50
  refine wpList_store_mid hgd 50 x y ho w3.heap.size 0 d.cells.toArray hx hy (hn.there 0 15 (by rw [e]; exact Nat.le_refl _)) (dg_info d) (dg_one d) ?_
  exact h _ (hn.setAll d.cells (by rw [e]; rfl)) (gr_new (World.grownBy_alloc _ _ _) (gr_sets _ _ _ _) (Nat.le_refl _))
end Go.Proofs.YtkdjcknikhgfkaaGreatDoor.Pk
