/- how far two lists are apart: so many put in, taken out, exchanged. -/
import Derived.KernelRfl
namespace Go.Proofs.YthhpbonacefmaaaDoor
variable {α : Type} [DecidableEq α]

/-- so many changes lead from the one to the other -/
inductive Ed : List α → List α → Nat → Prop
  | nil : Ed [] [] 0
  | keep (c : α) {x y : List α} {k : Nat} : Ed x y k → Ed (c :: x) (c :: y) k
  | sub (c d : α) {x y : List α} {k : Nat} : Ed x y k → Ed (c :: x) (d :: y) (k + 1)
  | ins (d : α) {x y : List α} {k : Nat} : Ed x y k → Ed x (d :: y) (k + 1)
  | del (c : α) {x y : List α} {k : Nat} : Ed x y k → Ed (c :: x) y (k + 1)

omit [DecidableEq α] in
theorem Ed.app {x y : List α} {k : Nat} (h : Ed x y k) {x' y' : List α} {k' : Nat} (h' : Ed x' y' k') : Ed (x ++ x') (y ++ y') (k + k') := by
  induction h with
  | nil => simpa using h'
  | keep c _ ih => exact ih.keep c
  | sub c d _ ih => rw [Nat.add_right_comm]; exact ih.sub c d
  | ins d _ ih => rw [Nat.add_right_comm]; exact ih.ins d
  | del c _ ih => rw [Nat.add_right_comm]; exact ih.del c
omit [DecidableEq α] in
theorem Ed.rev {x y : List α} {k : Nat} (h : Ed x y k) : Ed x.reverse y.reverse k := by
  induction h with
  | nil => exact .nil
  | keep c _ ih => simpa using ih.app (Ed.nil.keep c)
  | sub c d _ ih => simpa using ih.app (Ed.nil.sub c d)
  | ins d _ ih => simpa using ih.app (Ed.nil.ins d)
  | del c _ ih => simpa using ih.app (Ed.nil.del c)
omit [DecidableEq α] in
theorem Ed.symm {x y : List α} {k : Nat} (h : Ed x y k) : Ed y x k := by
  induction h with
  | nil => exact .nil
  | keep c _ ih => exact ih.keep c
  | sub c d _ ih => exact ih.sub d c
  | ins d _ ih => exact ih.del d
  | del c _ ih => exact ih.ins c
omit [DecidableEq α] in
theorem Ed.refl : ∀ x : List α, Ed x x 0
  | [] => .nil
  | c :: x => (Ed.refl x).keep c
omit [DecidableEq α] in
theorem Ed.eq_of_zero {x y : List α} {k : Nat} (h : Ed x y k) (hk : k = 0) : x = y := by
  induction h with
  | nil => rfl
  | keep c _ ih => rw [ih hk]
  | sub c d _ ih => cases hk
  | ins d _ ih => cases hk
  | del c _ ih => cases hk
omit [DecidableEq α] in
theorem Ed.len {x y : List α} {k : Nat} (h : Ed x y k) : x.length ≤ y.length + k ∧ y.length ≤ x.length + k := by
  induction h with
  | nil => simp
  | keep c _ ih => simp; omega
  | sub c d _ ih => simp; omega
  | ins d _ ih => simp; omega
  | del c _ ih => simp; omega
omit [DecidableEq α] in
theorem Ed.trans {x y : List α} {k : Nat} (h : Ed x y k) : ∀ {z : List α} {m : Nat}, Ed y z m → ∃ n, n ≤ k + m ∧ Ed x z n := by
  induction h with
  | nil => intro z m h2; exact ⟨m, by omega, h2⟩
  | @keep c x y k h ih =>
    intro z m h2
    generalize hY : c :: y = Y at h2
    induction h2 with
    | nil => cases hY
    | keep d h3 _ => cases hY; obtain ⟨n, hn, e⟩ := ih h3; exact ⟨n, hn, e.keep c⟩
    | sub d e h3 _ => cases hY; obtain ⟨n, hn, f⟩ := ih h3; exact ⟨n + 1, by omega, f.sub c e⟩
    | ins e h3 ih3 => obtain ⟨n, hn, f⟩ := ih3 hY; exact ⟨n + 1, by omega, f.ins e⟩
    | del d h3 _ => cases hY; obtain ⟨n, hn, f⟩ := ih h3; exact ⟨n + 1, by omega, f.del c⟩
  | @sub c c' x y k h ih =>
    intro z m h2
    generalize hY : c' :: y = Y at h2
    induction h2 with
    | nil => cases hY
    | keep d h3 _ => cases hY; obtain ⟨n, hn, e⟩ := ih h3; exact ⟨n + 1, by omega, e.sub c c'⟩
    | sub d e h3 _ => cases hY; obtain ⟨n, hn, f⟩ := ih h3; exact ⟨n + 1, by omega, f.sub c e⟩
    | ins e h3 ih3 => obtain ⟨n, hn, f⟩ := ih3 hY; exact ⟨n + 1, by omega, f.ins e⟩
    | del d h3 _ => cases hY; obtain ⟨n, hn, f⟩ := ih h3; exact ⟨n + 1, by omega, f.del c⟩
  | @ins c' x y k h ih =>
    intro z m h2
    generalize hY : c' :: y = Y at h2
    induction h2 with
    | nil => cases hY
    | keep d h3 _ => cases hY; obtain ⟨n, hn, e⟩ := ih h3; exact ⟨n + 1, by omega, e.ins c'⟩
    | sub d e h3 _ => cases hY; obtain ⟨n, hn, f⟩ := ih h3; exact ⟨n + 1, by omega, f.ins e⟩
    | ins e h3 ih3 => obtain ⟨n, hn, f⟩ := ih3 hY; exact ⟨n + 1, by omega, f.ins e⟩
    | del d h3 _ => cases hY; obtain ⟨n, hn, f⟩ := ih h3; exact ⟨n, by omega, f⟩
  | @del c x y k h ih =>
    intro z m h2
    obtain ⟨n, hn, f⟩ := ih h2
    exact ⟨n + 1, by omega, f.del c⟩
omit [DecidableEq α] in
/-- a thing that stands ahead of both counts for nothing -/
theorem Ed.strip {X Y : List α} {k : Nat} (h : Ed X Y k) : ∀ {c : α} {x y : List α}, X = c :: x → Y = c :: y → ∃ n, n ≤ k ∧ Ed x y n := by
  induction h with
  | nil => intro c x y h1; cases h1
  | @keep d x' y' k h ih => intro c x y h1 h2; cases h1; cases h2; exact ⟨k, Nat.le_refl _, h⟩
  | @sub d e x' y' k h ih => intro c x y h1 h2; cases h1; cases h2; exact ⟨k, by omega, h⟩
  | @ins e x' y' k h ih =>
    intro c x y h1 h2; cases h2; subst h1
    obtain ⟨n, hn, f⟩ := ((Ed.refl x).ins e).trans h
    exact ⟨n, by omega, f⟩
  | @del e x' y' k h ih =>
    intro c x y h1 h2; cases h1; subst h2
    obtain ⟨n, hn, f⟩ := h.trans ((Ed.refl y).del e)
    exact ⟨n, by omega, f⟩

/-- the least number of changes -/
def levRow (c : α) (f : List α → Nat) : List α → Nat
  | [] => f [] + 1
  | d :: y => min (f y + if c = d then 0 else 1) (min (f (d :: y) + 1) (levRow c f y + 1))
def lev : List α → List α → Nat
  | [] => List.length
  | c :: x => levRow c (lev x)
theorem lev_nil (y : List α) : lev [] y = y.length := rfl
theorem lev_cons_nil (c : α) (x : List α) : lev (c :: x) [] = lev x [] + 1 := rfl
theorem lev_cons (c d : α) (x y : List α) : lev (c :: x) (d :: y) = min (lev x y + if c = d then 0 else 1) (min (lev x (d :: y) + 1) (lev (c :: x) y + 1)) := rfl
theorem lev_empty : ∀ x : List α, lev x [] = x.length
  | [] => rfl
  | c :: x => by rw [lev_cons_nil, lev_empty x]; rfl
omit [DecidableEq α] in
theorem Ed.ofNil : ∀ y : List α, Ed [] y y.length
  | [] => .nil
  | d :: y => (Ed.ofNil y).ins d
theorem lev_ed : ∀ x y : List α, Ed x y (lev x y)
  | [], y => Ed.ofNil y
  | c :: x, [] => by rw [lev_cons_nil]; exact (lev_ed x []).del c
  | c :: x, d :: y => by
    have h1 := lev_ed x y
    have h2 := lev_ed x (d :: y)
    have h3 := lev_ed (c :: x) y
    rw [lev_cons]
    generalize hA : (lev x y + if c = d then 0 else 1) = A
    have hAe : Ed (c :: x) (d :: y) A := by
      subst hA
      by_cases e : c = d
      · subst e; simpa using h1.keep c
      · rw [if_neg e]; exact h1.sub c d
    rcases Nat.le_total A (min (lev x (d :: y) + 1) (lev (c :: x) y + 1)) with h | h
    · rw [Nat.min_eq_left h]; exact hAe
    · rw [Nat.min_eq_right h]
      rcases Nat.le_total (lev x (d :: y) + 1) (lev (c :: x) y + 1) with h' | h'
      · rw [Nat.min_eq_left h']; exact h2.del c
      · rw [Nat.min_eq_right h']; exact h3.ins d
termination_by x y => x.length + y.length
theorem lev_le {x y : List α} {k : Nat} (h : Ed x y k) : lev x y ≤ k := by
  induction h with
  | nil => exact Nat.le_refl _
  | @keep c x y k h ih => rw [lev_cons, if_pos rfl]; omega
  | @sub c d x y k h ih => rw [lev_cons]; split <;> omega
  | @ins d x y k h ih =>
    cases x with
    | nil => rw [lev_nil] at ih ⊢; simp; omega
    | cons c x => rw [lev_cons]; omega
  | @del c x y k h ih =>
    cases y with
    | nil => rw [lev_cons_nil]; omega
    | cons d y => rw [lev_cons]; omega
theorem lev_iff {x y : List α} {n : Nat} : lev x y ≤ n ↔ ∃ k, k ≤ n ∧ Ed x y k := ⟨fun h => ⟨_, h, lev_ed x y⟩, fun ⟨_, h, e⟩ => Nat.le_trans (lev_le e) h⟩
theorem lev_self (x : List α) : lev x x = 0 := Nat.le_zero.1 (lev_le (Ed.refl x))
theorem lev_symm (x y : List α) : lev x y = lev y x := Nat.le_antisymm (lev_le (lev_ed y x).symm) (lev_le (lev_ed x y).symm)
theorem lev_rev (x y : List α) : lev x.reverse y.reverse = lev x y := by
  apply Nat.le_antisymm (lev_le (lev_ed x y).rev)
  have := lev_le (lev_ed x.reverse y.reverse).rev
  simpa using this
theorem lev_tri (x y z : List α) : lev x z ≤ lev x y + lev y z := by
  obtain ⟨n, hn, e⟩ := (lev_ed x y).trans (lev_ed y z)
  exact Nat.le_trans (lev_le e) hn
theorem lev_zero {x y : List α} : lev x y = 0 ↔ x = y := ⟨fun h => (lev_ed x y).eq_of_zero h, fun h => h ▸ lev_self x⟩
theorem lev_len (x y : List α) : x.length ≤ y.length + lev x y ∧ y.length ≤ x.length + lev x y := (lev_ed x y).len
theorem lev_max : ∀ x y : List α, lev x y ≤ max x.length y.length
  | [], y => by rw [lev_nil]; simp
  | c :: x, [] => by rw [lev_empty]; simp
  | c :: x, d :: y => by
    have := lev_max x y
    rw [lev_cons]
    simp only [List.length_cons]
    split <;> omega
theorem lev_strip (c : α) (x y : List α) : lev (c :: x) (c :: y) = lev x y := by
  apply Nat.le_antisymm
  · rw [lev_cons, if_pos rfl]; omega
  · obtain ⟨n, hn, e⟩ := (lev_ed (c :: x) (c :: y)).strip rfl rfl
    exact Nat.le_trans (lev_le e) hn
theorem lev_snoc (p q : α) (x y : List α) : lev (x ++ [p]) (y ++ [q]) = min (lev x y + if p = q then 0 else 1) (min (lev x (y ++ [q]) + 1) (lev (x ++ [p]) y + 1)) := by
  rw [← lev_rev (x ++ [p]), ← lev_rev x y, ← lev_rev x (y ++ [q]), ← lev_rev (x ++ [p]) y]
  simp only [List.reverse_append, List.reverse_cons, List.reverse_nil, List.nil_append, List.singleton_append]
  exact lev_cons p q _ _

/-- by how many two lists differ; 8, if it is more -/
def nr (x y : List α) : Nat := min 8 (lev x y)
theorem nr_le (x y : List α) : nr x y ≤ 8 := Nat.min_le_left _ _

/-! the document's search -/
def withinL : Nat → List α → List α → Bool
  | n, x, y => decide (lev x y ≤ n)
theorem within_end (n : Nat) : withinL n ([] : List α) [] = true := by simp [withinL, lev_nil]
theorem within_far {n : Nat} {x y : List α} (h : y.length + n < x.length ∨ x.length + n < y.length) : withinL n x y = false := by
  have := lev_len x y
  simp only [withinL, decide_eq_false_iff_not]; omega
theorem within_zero {c d : α} {x y : List α} (h : c ≠ d) : withinL 0 (c :: x) (d :: y) = false := by
  simp only [withinL, decide_eq_false_iff_not]
  intro h2
  have := lev_zero.1 (Nat.le_zero.1 h2)
  injection this with h3; exact h h3
theorem within_zero_l {c : α} {x : List α} : withinL 0 (c :: x) [] = false := by
  simp [withinL, lev_empty]
theorem within_zero_r {c : α} {x : List α} : withinL 0 [] (c :: x) = false := by
  simp [withinL, lev_nil]
theorem within_strip (n : Nat) (c : α) (x y : List α) : withinL n (c :: x) (c :: y) = withinL n x y := by
  simp only [withinL, lev_strip]
theorem within_step {n : Nat} {c d : α} {x y : List α} (h : c ≠ d) : withinL (n + 1) (c :: x) (d :: y) = (withinL n x (d :: y) || (withinL n (c :: x) y || withinL n x y)) := by
  simp only [withinL, lev_cons, if_neg h, ← Bool.decide_or]
  congr 1
  apply propext
  omega
theorem within_step_l {n : Nat} {c : α} {x : List α} : withinL (n + 1) (c :: x) [] = withinL n x [] := by
  simp [withinL, lev_empty]
theorem within_step_r {n : Nat} {d : α} {y : List α} : withinL (n + 1) [] (d :: y) = withinL n [] y := by
  unfold withinL
  rw [decide_eq_decide, lev_nil, lev_nil, List.length_cons]
  omega
end Go.Proofs.YthhpbonacefmaaaDoor
