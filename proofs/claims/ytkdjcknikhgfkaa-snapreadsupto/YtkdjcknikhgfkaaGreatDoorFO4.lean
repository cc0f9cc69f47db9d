import Derived.Test.YtkdjcknikhgfkaaGreatDoorFO3
import Derived.Test.YtkdjcknikhgfkaaGreatDoorFI1
/- the reference's Decode, kind by kind -/
namespace Go.Proofs.YtkdjcknikhgfkaaGreatDoor.Pk
open Go Go.RowKit
set_option maxRecDepth 100000 in
theorem ext_is (s : ByteArray) (a b : Nat) : s.extract a b = ba (((sl s).drop a).take (b - a)) := by
  apply ByteArray.ext
  apply Array.toList_inj.1
  simp only [sl, ByteArray.data_extract, Array.toList_extract, List.extract]
set_option maxRecDepth 100000 in
theorem ext_end (s : ByteArray) (a : Nat) : s.extract a s.size = ba ((sl s).drop a) := by
  rw [ext_is]
  congr 2
  exact List.take_of_length_le (by rw [List.length_drop, sl_len]; omega)
/-- two datagrams of the call's own: the one that is filled, the one that is told -/
structure DQ (w0 w : World) (rb db : Nat) (cs : List Value) : Prop where
  a : Has w db cs 50
  b : Has w rb (Dg.zero 0).cells 50
  g : w0.grownBy w none
  lo : w0.heap.size ≤ db
  lr : w0.heap.size ≤ rb
  ne : rb ≠ db
set_option maxRecDepth 100000 in
theorem DQ.set {w0 w : World} {rb db : Nat} {cs : List Value} (q : DQ w0 w rb db cs) (j : Nat) (v : Value) : DQ w0 (w.setCell ⟨db, j, none⟩ v) rb db (cs.set j v) :=
  ⟨q.a.setCell j v, q.b.other _ _ (Ne.symm q.ne), gr_new q.g (gr_set _ _ _ _) q.lo, q.lo, q.lr, q.ne⟩
set_option maxRecDepth 100000 in
theorem DQ.told {w0 w : World} {rb db : Nat} {cs : List Value} (q : DQ w0 w rb db cs) (h : cs.length = 15) : Has (w.setCells rb 0 cs) rb cs 50 ∧ w0.grownBy (w.setCells rb 0 cs) none :=
  ⟨q.b.setAll cs (by rw [h]; rfl), gr_new q.g (gr_sets _ _ _ _) q.lr⟩
set_option maxRecDepth 100000 in
theorem val_at {L : List UInt8} {j : Nat} {y : UInt8} (h : j < L.length) (hy : L[j]? = some y) : val ((L.drop j).take 1) = y.toNat := by
  have e : L.drop j = y :: L.drop (j + 1) := by
    rw [List.drop_eq_getElem_cons h]
    congr 1
    rw [List.getElem?_eq_getElem h] at hy
    exact Option.some.inj hy
  rw [e]
  simp [val]
end Go.Proofs.YtkdjcknikhgfkaaGreatDoor.Pk
