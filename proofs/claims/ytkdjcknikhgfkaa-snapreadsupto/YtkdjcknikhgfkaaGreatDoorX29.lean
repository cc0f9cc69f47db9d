import Derived.Test.YtkdjcknikhgfkaaGreatDoorX18
import Derived.Test.YtkdjcknikhgfkaaGreatDoorFA3
import Derived.Laws.StructEq
import Derived.Test.YtkdjcknikhgfkaaGreatDoorFO3
namespace Go.Proofs.YtkdjcknikhgfkaaGreatDoor.Pk
open Go Go.RowKit
set_option maxHeartbeats 8000000 in
set_option maxRecDepth 100000 in
theorem eqI26 (a : Dg) (W : World) : (Op.equalIn 10000 50 (.agg a.cells.toArray) (.agg a.cells.toArray)).run Tryz.prog W = .ok true W := by
  show (Op.equalIn 10000 50 (dv a) (dv a)).run Tryz.prog W = .ok true W
  unfold dv
  rw [show (10000 : Nat) = 9998 + 1 + 1 from rfl]
  go_simp
set_option maxRecDepth 100000 in
theorem eq26 (a : Dg) (W : World) : (binOp BinOp.eql 50 (.agg a.cells.toArray) (.agg a.cells.toArray)).run Tryz.prog W = .ok (.bool true) W := by
  rw [run_eql_struct, eqI26]; rfl
set_option maxRecDepth 100000 in
theorem neq26 (a : Dg) (W : World) : (binOp BinOp.neq 50 (.agg a.cells.toArray) (.agg a.cells.toArray)).run Tryz.prog W = .ok (.bool false) W := by
  rw [run_neq_struct, eqI26]; rfl
set_option maxRecDepth 100000 in
theorem guard26 (op : BinOp) (x y : Operand) (xs ys : Array Value) (W : World) : (eqGuard op 50 x y (.agg xs) (.agg ys)).run Tryz.prog W = .ok () W :=
  run_eqGuard_agg W op 50 x y xs ys (by kernel_rfl)
end Go.Proofs.YtkdjcknikhgfkaaGreatDoor.Pk

namespace Go.Proofs.YtkdjcknikhgfkaaGreatDoor.Pk
open Go Go.RowKit

theorem alloc_has {w w0 : World} {D : List Value} (h : w.alloc (.cells D.toArray 50) = w0) : Has w0 w.heap.size D 50 ∧ w.grownBy w0 none := by
  rw [← h]; exact ⟨Has.new w _ 50, World.grownBy_alloc _ _ _⟩
theorem dg_one (d : Dg) : d.cells.toArray.all (·.oneCell') = true := by simp [Dg.cells, Value.oneCell']
theorem dg_info (d : Dg) : (Tryz.prog.info? 50).map (·.size) = some d.cells.toArray.size := by show _ = some 15; kernel_rfl
/-- a datagram is laid into a new block -/
theorem store_dg {ops : Array Oper} {rest : List Oper} {op : Oper} {a : Act} {Q : Exit → Act → World → Prop} (w3 : World) (d : Dg) {A : Array Value} (hgd : op.guard = none) {x y : Operand} (ho : op.op = .store 50 x y)
    (hx : a.eval x = .pointer (some ⟨w3.heap.size, 0, none⟩)) (hy : a.eval y = .agg d.cells.toArray) (hA : A.size = 15)
    (h : ∀ w6, Has w6 w3.heap.size d.cells 50 → w3.grownBy w6 none → wpList Tryz.prog ops Q rest (a.put op.dst undef) w6) : wpList Tryz.prog ops Q (op :: rest) a (w3.alloc (.cells A 50)) := by
  have e : A.toList.length = 15 := by rw [Array.length_toList]; exact hA
  have hn := Has.newA w3 A 50
  refine wpList_store_mid hgd 50 x y ho w3.heap.size 0 d.cells.toArray hx hy (hn.there 0 15 (by rw [e]; exact Nat.le_refl _)) (dg_info d) (dg_one d) ?_
  exact h _ (hn.setAll d.cells (by rw [e]; rfl)) (gr_new (World.grownBy_alloc _ _ _) (gr_sets _ _ _ _) (Nat.le_refl _))
end Go.Proofs.YtkdjcknikhgfkaaGreatDoor.Pk

namespace Go.Proofs.YtkdjcknikhgfkaaGreatDoor.Pk
open Go Go.RowKit
set_option maxRecDepth 100000 in
theorem ext_is (s : ByteArray) (a b : Nat) : s.extract a b = ba (((sl s).drop a).take (b - a)) := by
  apply ByteArray.ext
  apply Array.toList_inj.1
  simp only [sl, ByteArray.data_extract, Array.toList_extract, List.extract]
set_option maxRecDepth 100000 in
theorem ext_end (s : ByteArray) (a : Nat) : s.extract a s.size = ba ((sl s).drop a) := by
  rw [ext_is]
  congr 2
  exact List.take_of_length_le (by rw [List.length_drop, sl_len]; omega)
/-- two datagrams of the call's own: the one that is filled, the one that is told -/
structure DQ (w0 w : World) (rb db : Nat) (cs : List Value) : Prop where
  a : Has w db cs 50
  b : Has w rb (Dg.zero 0).cells 50
  g : w0.grownBy w none
  lo : w0.heap.size ≤ db
  lr : w0.heap.size ≤ rb
  ne : rb ≠ db
set_option maxRecDepth 100000 in
theorem DQ.set {w0 w : World} {rb db : Nat} {cs : List Value} (q : DQ w0 w rb db cs) (j : Nat) (v : Value) : DQ w0 (w.setCell ⟨db, j, none⟩ v) rb db (cs.set j v) :=
  ⟨q.a.setCell j v, q.b.other _ _ (Ne.symm q.ne), gr_new q.g (gr_set _ _ _ _) q.lo, q.lo, q.lr, q.ne⟩
set_option maxRecDepth 100000 in
theorem DQ.told {w0 w : World} {rb db : Nat} {cs : List Value} (q : DQ w0 w rb db cs) (h : cs.length = 15) : Has (w.setCells rb 0 cs) rb cs 50 ∧ w0.grownBy (w.setCells rb 0 cs) none :=
  ⟨q.b.setAll cs (by rw [h]; rfl), gr_new q.g (gr_sets _ _ _ _) q.lr⟩
set_option maxRecDepth 100000 in
theorem val_at {L : List UInt8} {j : Nat} {y : UInt8} (h : j < L.length) (hy : L[j]? = some y) : val ((L.drop j).take 1) = y.toNat := by
  have e : L.drop j = y :: L.drop (j + 1) := by
    rw [List.drop_eq_getElem_cons h]
    congr 1
    rw [List.getElem?_eq_getElem h] at hy
    exact Option.some.inj hy
  rw [e]
  simp [val]
end Go.Proofs.YtkdjcknikhgfkaaGreatDoor.Pk

