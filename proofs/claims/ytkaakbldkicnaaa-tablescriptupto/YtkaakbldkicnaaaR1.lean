/- the document's table, over lists and memory. -/
import Derived.Test.YtkaakbldkicnaaaR0
namespace Go.Proofs.Ytkaakbldkicnaaa
open Go Go.RowKit Go.Maps

/-- items as they lie -/
def its (L : KV) : List Value := L.flatMap fun p => [.string p.1, iv p.2]
theorem its_len (L : KV) : (its L).length = L.length * 2 := by
  induction L with
  | nil => rfl
  | cons p r ih => simp only [its, List.flatMap_cons, List.length_append, List.length_cons, List.length_nil] at ih ⊢; omega
theorem its_app (a b : KV) : its (a ++ b) = its a ++ its b := by simp [its]
theorem its_get {L : KV} {j : Nat} {p : ByteArray × Int} (h : L[j]? = some p) : (its L)[j * 2]? = some (.string p.1) ∧ (its L)[j * 2 + 1]? = some (iv p.2) := by
  obtain ⟨hj, e⟩ := List.getElem?_eq_some_iff.1 h
  have e2 : L = L.take j ++ p :: L.drop (j + 1) := by rw [← e, ← List.drop_eq_getElem_cons hj, List.take_append_drop]
  have hl : (its (L.take j)).length = j * 2 := by rw [its_len, List.length_take]; congr 1; omega
  rw [e2, its_app]
  constructor
  · rw [List.getElem?_append_right (by omega), hl, Nat.sub_self]; rfl
  · rw [List.getElem?_append_right (by omega), hl, show j * 2 + 1 - j * 2 = 1 by omega]; rfl
theorem its_set (A C : KV) (p : ByteArray × Int) (y : Int) : (its (A ++ p :: C)).set (A.length * 2 + 1) (iv y) = its (A ++ (p.1, y) :: C) := by
  rw [its_app, its_app, List.set_append_right _ _ (by rw [its_len]; omega), its_len, show A.length * 2 + 1 - A.length * 2 = 1 by omega]
  rfl
theorem its_one (p : ByteArray × Int) : ∀ u ∈ ([.string p.1, iv p.2] : List Value), u.oneCell' = true := fun u hu => by
  simp at hu; rcases hu with rfl | rfl <;> rfl
theorem Tb.two (L : KV) (k : ByteArray) (hn : (Tb.keys L).Nodup) : (k ∉ Tb.keys L ∧ Tb.look L k = none) ∨ ∃ A x C, L = A ++ (k, x) :: C ∧ k ∉ Tb.keys A ∧ k ∉ Tb.keys C ∧ Tb.look L k = some x := by
  cases h : Tb.look L k with
  | none => exact .inl ⟨Tb.look_none.1 h, rfl⟩
  | some x =>
    obtain ⟨A, C, rfl, hA⟩ := Tb.look_split h
    exact .inr ⟨A, x, C, rfl, hA, (Tb.nodup_mid hn).2.1, rfl⟩
theorem Tb.use_mid {A C : KV} {k : ByteArray} {x : Int} (hA : k ∉ Tb.keys A) (hC : k ∉ Tb.keys C) : Tb.useL (A ++ (k, x) :: C) k = A ++ C ++ [(k, x)] := by
  unfold Tb.useL
  rw [Tb.look_mid hA]
  simp only
  rw [Tb.rm_mid hA hC]
theorem Tb.put_mid {A C : KV} {k : ByteArray} {x y : Int} {sz : Nat} (hA : k ∉ Tb.keys A) (hC : k ∉ Tb.keys C) : Tb.putL sz (A ++ (k, x) :: C) k y = A ++ C ++ [(k, y)] := by
  unfold Tb.putL
  rw [Tb.look_mid hA, if_pos (by rfl), Tb.rm_mid hA hC]
theorem Tb.use_none {L : KV} {k : ByteArray} (h : Tb.look L k = none) : Tb.useL L k = L := by
  unfold Tb.useL; rw [h]
end Go.Proofs.Ytkaakbldkicnaaa
