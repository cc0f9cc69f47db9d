/- small letters, over lists. -/
import Derived.Test.YthhpbonacefmaaaDoorA3
namespace Go.Proofs.YthhpbonacefmaaaDoor
open Go Go.RowKit

/-- a letter that Fold changes -/
def large (n : Nat) : Prop := (65 ≤ n ∧ n ≤ 90) ∨ (192 ≤ n ∧ n ≤ 214) ∨ (216 ≤ n ∧ n ≤ 222)
instance (n : Nat) : Decidable (large n) := by unfold large; exact inferInstance
/-- the bytes of a small letter -/
def encL (n : Nat) : List UInt8 := if n < 128 then [UInt8.ofNat n] else [195, UInt8.ofNat (n - 64)]
def small (p : Nat × List UInt8) : Nat × List UInt8 := if large p.1 then (p.1 + 32, encL (p.1 + 32)) else p
def foldL (l : List UInt8) : List UInt8 := flat ((pieces l).map small)

theorem fnd_cases (n : Nat) : (large n ∧ ∃ A B, fnd n = some (A, B, 32)) ∨ (¬ large n ∧ ((∃ A B, fnd n = some (A, B, 0)) ∨ fnd n = none)) := by
  unfold fnd spn large
  simp only [List.find?_cons, List.find?_nil]
  repeat' split
  all_goals simp_all
  all_goals omega
theorem fnd_good (n : Nat) : (fnd n).isSome = true ↔ (n = 45 ∨ (48 ≤ n ∧ n ≤ 57) ∨ (65 ≤ n ∧ n ≤ 90) ∨ n = 95 ∨ (97 ≤ n ∧ n ≤ 122) ∨ (192 ≤ n ∧ n ≤ 255 ∧ n ≠ 215 ∧ n ≠ 247) ∨ (945 ≤ n ∧ n ≤ 969)) := by
  unfold fnd spn
  simp only [List.find?_cons, List.find?_nil]
  repeat' split
  all_goals simp_all
  all_goals omega

theorem dec_nil_le (p : Nat × List UInt8) (h : Whole p) : p.2.length = (dec p.2).2 ∧ p.1 = (dec p.2).1 := by
  have := h.2.2 []
  rw [List.append_nil] at this
  rw [this]; exact ⟨rfl, rfl⟩
theorem whole_one {p : Nat × List UInt8} (h : Whole p) (hn : p.1 < 128) : p.2 = [UInt8.ofNat p.1] := by
  obtain ⟨h1, h2, h3⟩ := h
  obtain ⟨n, bs⟩ := p
  simp only at *
  match bs, h1 with
  | b :: t, _ =>
    have e := h3 []
    rw [List.append_nil] at e
    cases form b t with
    | one hb t =>
      rw [dec_ascii hb] at e
      have e1 := congrArg Prod.fst e
      have e2 := congrArg Prod.snd e
      simp at e1 e2
      subst e2
      rw [← e1]; simp
    | two hb hc hv t => rw [dec_two hb hc hv] at e; have e1 := congrArg Prod.fst e; simp only at e1; omega
    | three hb hc hd hv t => rw [dec_three hb hc hd hv] at e; have e1 := congrArg Prod.fst e; simp only at e1; omega
    | four hb hc hd he hv t => rw [dec_four hb hc hd he hv] at e; have e1 := congrArg Prod.fst e; simp only at e1; omega
    | odd hb _ => rw [hb] at e; have e1 := congrArg Prod.fst e; simp only at e1; omega
theorem whole_two {p : Nat × List UInt8} (h : Whole p) (hn : 128 ≤ p.1) (hn2 : p.1 < 2048) : p.2 = [UInt8.ofNat (192 + p.1 / 64), UInt8.ofNat (128 + p.1 % 64)] := by
  obtain ⟨h1, h2, h3⟩ := h
  obtain ⟨n, bs⟩ := p
  simp only at *
  match bs, h1 with
  | b :: t, _ =>
    have e := h3 []
    rw [List.append_nil] at e
    cases form b t with
    | one hb t => rw [dec_ascii hb] at e; have e1 := congrArg Prod.fst e; simp only at e1; omega
    | @two c hb hc hv t =>
      rw [dec_two hb hc hv] at e
      have e1 := congrArg Prod.fst e
      have e2 := congrArg Prod.snd e
      simp only [List.length_cons] at e1 e2
      obtain rfl : t = [] := List.eq_nil_of_length_eq_zero (by omega)
      have hb2 := b.toNat_lt
      have hc2 := c.toNat_lt
      rw [show 192 + n / 64 = b.toNat by omega, show 128 + n % 64 = c.toNat by omega]
      simp
    | three hb hc hd hv t => rw [dec_three hb hc hd hv] at e; have e1 := congrArg Prod.fst e; simp only at e1; omega
    | four hb hc hd he hv t => rw [dec_four hb hc hd he hv] at e; have e1 := congrArg Prod.fst e; simp only at e1; omega
    | odd hb _ => rw [hb] at e; have e1 := congrArg Prod.fst e; simp only at e1; omega
theorem whole_encL {n : Nat} (h : (97 ≤ n ∧ n ≤ 122) ∨ (224 ≤ n ∧ n ≤ 254)) : Whole (n, encL n) := by
  rcases h with h | h
  · have e : encL n = [UInt8.ofNat n] := if_pos (by omega)
    have ht : (UInt8.ofNat n).toNat = n := by rw [UInt8.toNat_ofNat']; omega
    have := whole_ascii (b := UInt8.ofNat n) (by omega)
    rw [ht] at this
    rw [e]; exact this
  · have e : encL n = [195, UInt8.ofNat (n - 64)] := if_neg (by omega)
    have ht : (UInt8.ofNat (n - 64)).toNat = n - 64 := by rw [UInt8.toNat_ofNat']; omega
    have h195 : (195 : UInt8).toNat = 195 := rfl
    rw [e]
    refine ⟨by simp, show cont 195 = false by decide, fun t => ?_⟩
    show dec (195 :: UInt8.ofNat (n - 64) :: t) = (n, 2)
    rw [dec_two (by rw [h195]) (by rw [ht]; omega) (by rw [h195, ht]; omega), ht, h195]
    apply Prod.ext
    · show 195 % 32 * 64 + (n - 64) % 64 = n
      omega
    · rfl
theorem small_num (p : Nat × List UInt8) : (small p).1 = if large p.1 then p.1 + 32 else p.1 := by
  unfold small; split <;> rfl
theorem not_large {n : Nat} (h : large n) : ¬ large (n + 32) := by unfold large at h ⊢; omega
theorem small_small (p : Nat × List UInt8) : small (small p) = small p := by
  by_cases h : large p.1
  · have : small p = (p.1 + 32, encL (p.1 + 32)) := if_pos h
    rw [this, small, if_neg (not_large h)]
  · have : small p = p := if_neg h
    rw [this, this]
theorem small_whole {p : Nat × List UInt8} (h : Whole p) : Whole (small p) := by
  by_cases hl : large p.1
  · have : small p = (p.1 + 32, encL (p.1 + 32)) := if_pos hl
    rw [this]
    exact whole_encL (by unfold large at hl; omega)
  · have : small p = p := if_neg hl
    rw [this]; exact h
theorem small_odd (b : UInt8) : small (65533, [b]) = (65533, [b]) := if_neg (by unfold large; omega)
theorem small_len {p : Nat × List UInt8} (h : Whole p) : (small p).2.length = p.2.length := by
  by_cases hl : large p.1
  · have e : small p = (p.1 + 32, encL (p.1 + 32)) := if_pos hl
    rw [e]
    unfold large at hl
    by_cases h1 : p.1 < 128
    · rw [whole_one h h1]; simp only [encL]; rw [if_pos (by omega)]; rfl
    · rw [whole_two h (by omega) (by omega)]; simp only [encL]; rw [if_neg (by omega)]; rfl
  · have e : small p = p := if_neg hl
    rw [e]
theorem tw_whole {p : Nat × List UInt8} (h : Whole p) (t : List UInt8) : (p.2 ++ t).takeWhile cont = [] := by
  obtain ⟨h1, h2, _⟩ := h
  match hp : p.2, h1 with
  | b :: r, _ =>
    rw [hp] at h2
    simp at h2
    rw [List.cons_append, List.takeWhile_cons_of_neg (by simp [h2])]
theorem tw_small {ps : List (Nat × List UInt8)} (g : Good ps) : (flat (ps.map small)).takeWhile cont = (flat ps).takeWhile cont := by
  induction g with
  | nil => rfl
  | @whole p ps h g ih => rw [List.map_cons, flat_cons, flat_cons, tw_whole h, tw_whole (small_whole h)]
  | @odd b ps hb h g ih =>
    rw [List.map_cons, flat_cons, flat_cons, small_odd]
    show (b :: flat (ps.map small)).takeWhile cont = (b :: flat ps).takeWhile cont
    by_cases hc : cont b = true
    · rw [List.takeWhile_cons_of_pos hc, List.takeWhile_cons_of_pos hc, ih]
    · rw [List.takeWhile_cons_of_neg hc, List.takeWhile_cons_of_neg hc]
theorem good_small {ps : List (Nat × List UInt8)} (g : Good ps) : Good (ps.map small) := by
  induction g with
  | nil => exact .nil
  | whole h g ih => exact .whole (small_whole h) ih
  | @odd b ps hb h g ih =>
    rw [List.map_cons, small_odd]
    exact .odd hb (by rw [dec_tw2 (tw_small g)]; exact h) ih
theorem pieces_fold (l : List UInt8) : pieces (foldL l) = (pieces l).map small := pieces_of_good (good_small (good_pieces l))
theorem fold_fold (l : List UInt8) : foldL (foldL l) = foldL l := by
  show flat ((pieces (foldL l)).map small) = flat ((pieces l).map small)
  rw [pieces_fold, List.map_map]
  congr 1
  apply List.map_congr_left
  intro p _
  exact small_small p
theorem good_len {ps : List (Nat × List UInt8)} (g : Good ps) : ∀ k, (flat ((ps.take k).map small)).length = (flat (ps.take k)).length := by
  induction g with
  | nil => intro k; simp [flat]
  | @whole p ps h g ih =>
    intro k
    cases k with
    | zero => rfl
    | succ k => rw [List.take_succ_cons, List.map_cons, flat_cons, flat_cons, List.length_append, List.length_append, ih, small_len h]
  | @odd b ps hb h g ih =>
    intro k
    cases k with
    | zero => rfl
    | succ k => rw [List.take_succ_cons, List.map_cons, flat_cons, flat_cons, List.length_append, List.length_append, ih, small_odd]
theorem fold_len (l : List UInt8) : (foldL l).length = l.length := by
  have := good_len (good_pieces l) (pieces l).length
  rw [List.take_length, flat_pieces] at this
  exact this
theorem fnd_small (p : Nat × List UInt8) : (fnd (small p).1).isSome = (fnd p.1).isSome := by
  rw [Bool.eq_iff_iff, fnd_good, fnd_good, small_num]
  split
  · rename_i h; unfold large at h; omega
  · exact Iff.rfl
/-- a piece of a text: whole, or a byte that begins none -/
theorem mem_kind {ps : List (Nat × List UInt8)} (g : Good ps) {p : Nat × List UInt8} (h : p ∈ ps) : Whole p ∨ Odd p := by
  induction g with
  | nil => cases h
  | whole hw g ih => rcases List.mem_cons.1 h with rfl | h; exact .inl hw; exact ih h
  | @odd b ps hb hd g ih => rcases List.mem_cons.1 h with rfl | h; exact .inr ⟨b, rfl, hb⟩; exact ih h
end Go.Proofs.YthhpbonacefmaaaDoor
