/- The plain mathematics of a sum that goes on. -/
import Derived.Test.YtbmnlhmelbhjeaaDoorMaPure
namespace Go.Proofs.YtbmnlhmelbhjeaaDoor
namespace Sha

/-- what the words and the block say of the text T that was written -/
def HP (T : List UInt8) (ws : List UInt32) (blk : List UInt8) : Prop :=
  ws = fold iv T ∧ blk.length = 64 ∧ blk.take (T.length % 64) = T.drop (64 * (T.length / 64))

def padW (ws : List UInt32) (tail : List UInt8) (len : Nat) : List UInt32 :=
  if tail.length < 56 then mixW ws (tail ++ 128 :: List.replicate (55 - tail.length) 0 ++ len8 len)
  else mixW (mixW ws (tail ++ 128 :: List.replicate (63 - tail.length) 0)) (List.replicate 56 0 ++ len8 len)

theorem fold_split (ws : List UInt32) (T U : List UInt8) : fold ws (T ++ U) = fold (fold ws T) (T.drop (64 * (T.length / 64)) ++ U) := by
  have e : T = T.take (64 * (T.length / 64)) ++ T.drop (64 * (T.length / 64)) := (List.take_append_drop _ _).symm
  have l : (T.take (64 * (T.length / 64))).length = 64 * (T.length / 64) := by rw [List.length_take]; omega
  have d : (T.drop (64 * (T.length / 64))).length < 64 := by rw [List.length_drop]; omega
  have f1 : fold ws T = foldN (T.length / 64) ws (T.take (64 * (T.length / 64))) := by
    have := foldN_append _ ws _ (T.drop (64 * (T.length / 64))) l
    rw [← e, fold_short _ _ d] at this
    exact this
  rw [f1, ← foldN_append _ ws _ _ l, ← List.append_assoc, ← e]

theorem fold_one (ws : List UInt32) (b : List UInt8) (h : b.length = 64) : fold ws b = mixW ws b := by
  have := fold_block ws b [] h
  rwa [List.append_nil, fold_short _ [] (by simp)] at this

theorem w4_len (x : UInt32) : (w4 x).length = 4 := rfl
theorem len8_len (n : Nat) : (len8 n).length = 8 := rfl

theorem HP.start : HP [] iv (List.replicate 64 0) := ⟨(fold_short _ _ (by simp)).symm, by simp, by simp⟩

theorem drop_len (T : List UInt8) : (T.drop (64 * (T.length / 64))).length = T.length % 64 := by rw [List.length_drop]; omega

theorem HP.part {T : List UInt8} {ws : List UInt32} {blk : List UInt8} (h : HP T ws blk) (q : List UInt8) (hq : T.length % 64 + q.length < 64) :
    HP (T ++ q) ws (blk.take (T.length % 64) ++ q ++ blk.drop (T.length % 64 + q.length)) := by
  obtain ⟨h1, h2, h3⟩ := h
  have e1 : (T ++ q).length % 64 = T.length % 64 + q.length := by rw [List.length_append]; omega
  have e2 : (T ++ q).length / 64 = T.length / 64 := by rw [List.length_append]; omega
  refine ⟨?_, ?_, ?_⟩
  · rw [fold_split, ← h1, fold_short]
    rw [List.length_append, drop_len]; omega
  · simp only [List.length_append, List.length_take, List.length_drop, h2]; omega
  · rw [e1, e2, h3, List.take_append_of_le_length (by simp only [List.length_append, drop_len]; omega), List.take_of_length_le (by simp only [List.length_append, drop_len]; omega),
      List.drop_append_of_le_length (by omega)]

theorem HP.full {T : List UInt8} {ws : List UInt32} {blk : List UInt8} (h : HP T ws blk) (q : List UInt8) (hq : T.length % 64 + q.length = 64) :
    HP (T ++ q) (mixW ws (blk.take (T.length % 64) ++ q ++ blk.drop (T.length % 64 + q.length))) (blk.take (T.length % 64) ++ q ++ blk.drop (T.length % 64 + q.length)) := by
  obtain ⟨h1, h2, h3⟩ := h
  have e1 : (T ++ q).length % 64 = 0 := by rw [List.length_append]; omega
  have e2 : 64 * ((T ++ q).length / 64) = (T ++ q).length := by omega
  refine ⟨?_, ?_, ?_⟩
  · rw [fold_split, ← h1, fold_one _ _ (by rw [List.length_append, drop_len]; exact hq), h3, show blk.drop (T.length % 64 + q.length) = [] from List.drop_of_length_le (by omega), List.append_nil]
  · simp only [List.length_append, List.length_take, List.length_drop, h2]; omega
  · rw [e1, e2, List.drop_length, List.take_zero]

theorem HP.pad {T : List UInt8} {ws : List UInt32} {blk : List UInt8} (h : HP T ws blk) : padW ws (blk.take (T.length % 64)) T.length = fold iv (T ++ padOf T.length) := by
  obtain ⟨h1, h2, h3⟩ := h
  have hl := drop_len T
  rw [fold_split, ← h1, padW, h3, padOf]
  generalize hd : T.drop (64 * (T.length / 64)) = tail at *
  rw [hl]
  by_cases hc : T.length % 64 < 56
  · rw [if_pos hc, if_pos hc]
    have e : (tail ++ 128 :: List.replicate (55 - T.length % 64) 0 ++ len8 T.length).length = 64 := by
      simp only [List.length_append, List.length_cons, List.length_replicate, len8_len]; omega
    rw [← fold_one _ _ e]
    simp
  · rw [if_neg hc, if_neg hc]
    have e1 : (tail ++ 128 :: List.replicate (63 - T.length % 64) 0).length = 64 := by
      simp only [List.length_append, List.length_cons, List.length_replicate]; omega
    have e2 : (List.replicate 56 (0 : UInt8) ++ len8 T.length).length = 64 := by
      simp only [List.length_append, List.length_replicate, len8_len]
    rw [← fold_one _ _ e2, ← fold_block _ _ _ e1]
    have e3 : List.replicate (119 - T.length % 64) (0 : UInt8) = List.replicate (63 - T.length % 64) 0 ++ List.replicate 56 0 := by
      rw [List.replicate_append_replicate]; congr 1; omega
    rw [e3]
    simp
end Sha
end Go.Proofs.YtbmnlhmelbhjeaaDoor
