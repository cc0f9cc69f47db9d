/- the rows of Near, over lists. -/
import Derived.Test.YthhpbonacefmaaaDoorP1
namespace Go.Proofs.YthhpbonacefmaaaDoor

/-- the first c of a list, and nothing behind its end -/
def yh (y : List Nat) (c : Nat) : List (Option Nat) := (List.range c).map fun j => y[j]?
theorem yh_len (y : List Nat) (c : Nat) : (yh y c).length = c := by simp [yh]
theorem yh_succ (y : List Nat) (c : Nat) : yh y (c + 1) = yh y c ++ [y[c]?] := by simp [yh, List.range_succ]
theorem yh_all (y : List Nat) : yh y y.length = y.map some := by
  apply List.ext_getElem
  · simp [yh]
  · intro i h1 h2
    simp [yh] at h1 ⊢
/-- how far the first n of x are from the first c of y -/
def en (x y : List Nat) (n c : Nat) : Nat := lev ((x.take n).map some) (yh y c)
def rowv (x y : List Nat) (n d : Nat) : Nat := if n + d < 8 then 8 else min 8 (en x y n (n + d - 8))
/-- does it stand there? -/
def stnd (y : List Nat) (r : Nat) (t : Int) : Bool := decide (0 ≤ t ∧ y[t.toNat]? = some r)

theorem en_zero (x y : List Nat) (c : Nat) : en x y 0 c = c := by
  unfold en; rw [List.take_zero, List.map_nil, lev_nil, yh_len]
theorem en_nil (x y : List Nat) (n : Nat) (h : n ≤ x.length) : en x y n 0 = n := by
  unfold en; rw [show yh y 0 = [] from rfl, lev_empty, List.length_map, List.length_take]; omega
theorem en_succ (x y : List Nat) (n c : Nat) (r : Nat) (h : x[n]? = some r) :
    en x y (n + 1) (c + 1) = min (en x y n c + if y[c]? = some r then 0 else 1) (min (en x y n (c + 1) + 1) (en x y (n + 1) c + 1)) := by
  unfold en
  rw [List.take_add_one, h, yh_succ]
  simp only [Option.toList_some, List.map_append, List.map_cons, List.map_nil]
  rw [lev_snoc]
  congr 2
  by_cases e : y[c]? = some r
  · rw [if_pos e, if_pos e.symm]
  · rw [if_neg e, if_neg (fun h => e h.symm)]
theorem en_far (x y : List Nat) (n c : Nat) (h : n ≤ x.length) : n ≤ c + en x y n c ∧ c ≤ n + en x y n c := by
  have := lev_len ((x.take n).map some) (yh y c)
  rw [yh_len, List.length_map, List.length_take] at this
  unfold en
  omega
theorem rowv_first (x y : List Nat) (d : Nat) (h : d ≤ 16) : rowv x y 0 d = if d < 8 then 8 else d - 8 := by
  unfold rowv
  rw [en_zero]
  split <;> split <;> omega
theorem rowv_lo (x y : List Nat) (n : Nat) (h : n ≤ x.length) : rowv x y n 0 = 8 := by
  unfold rowv
  split
  · rfl
  · have := en_far x y n (n + 0 - 8) h
    omega
theorem rowv_hi (x y : List Nat) (n : Nat) (h : n ≤ x.length) : rowv x y n 16 = 8 := by
  unfold rowv
  split
  · rfl
  · have := en_far x y n (n + 16 - 8) h
    omega
theorem rowv_le (x y : List Nat) (n d : Nat) : rowv x y n d ≤ 8 := by
  unfold rowv; split <;> omega
theorem rowv_step (x y : List Nat) (n d r : Nat) (h : x[n]? = some r) :
    rowv x y (n + 1) (d + 1) = min (rowv x y n (d + 1) + if stnd y r ((n : Int) + (d + 1) - 8) then 0 else 1) (min (rowv x y (n + 1) d + 1) (min (rowv x y n (d + 2) + 1) 8)) := by
  have hn : n < x.length := (List.getElem?_eq_some_iff.1 h).1
  by_cases h1 : n + d + 2 < 8
  · have e0 : rowv x y (n + 1) (d + 1) = 8 := if_pos (by omega)
    have e1 : rowv x y n (d + 1) = 8 := if_pos (by omega)
    have e2 : rowv x y (n + 1) d = 8 := if_pos (by omega)
    have e3 : rowv x y n (d + 2) = 8 := if_pos (by omega)
    rw [e0, e1, e2, e3]
    split <;> omega
  by_cases h2 : n + d + 2 = 8
  · have e0 : rowv x y (n + 1) (d + 1) = min 8 (n + 1) := by
      unfold rowv; rw [if_neg (by omega), show n + 1 + (d + 1) - 8 = 0 by omega, en_nil _ _ _ (by omega)]
    have e1 : rowv x y n (d + 1) = 8 := if_pos (by omega)
    have e2 : rowv x y (n + 1) d = 8 := if_pos (by omega)
    have e3 : rowv x y n (d + 2) = min 8 n := by
      unfold rowv; rw [if_neg (by omega), show n + (d + 2) - 8 = 0 by omega, en_nil _ _ _ (by omega)]
    have e4 : stnd y r ((n : Int) + (d + 1) - 8) = false := by
      simp only [stnd, decide_eq_false_iff_not]; omega
    rw [e0, e1, e2, e3, e4]
    simp only [Bool.false_eq_true, if_false]
    omega
  · obtain ⟨c, hc⟩ : ∃ c, n + d + 1 - 8 = c := ⟨_, rfl⟩
    have e0 : rowv x y (n + 1) (d + 1) = min 8 (en x y (n + 1) (c + 1)) := by
      unfold rowv; rw [if_neg (by omega)]; congr 2; omega
    have e1 : rowv x y n (d + 1) = min 8 (en x y n c) := by
      unfold rowv; rw [if_neg (by omega)]; congr 2
    have e2 : rowv x y (n + 1) d = min 8 (en x y (n + 1) c) := by
      unfold rowv; rw [if_neg (by omega)]; congr 2; omega
    have e3 : rowv x y n (d + 2) = min 8 (en x y n (c + 1)) := by
      unfold rowv; rw [if_neg (by omega)]; congr 2; omega
    have e4 : ((if stnd y r ((n : Int) + (d + 1) - 8) then 0 else 1) : Nat) = if y[c]? = some r then 0 else 1 := by
      have ht : ((n : Int) + (d + 1) - 8).toNat = c := by omega
      have : stnd y r ((n : Int) + (d + 1) - 8) = decide (y[c]? = some r) := by
        unfold stnd
        rw [ht]
        apply decide_eq_decide.2
        exact ⟨fun h => h.2, fun h => ⟨by omega, h⟩⟩
      rw [this]
      simp
    rw [e0, e1, e2, e3, e4, en_succ x y n c r h]
    split <;> omega
theorem lev_some (x y : List Nat) : lev (x.map some) (y.map some) = lev x y := by
  induction x generalizing y with
  | nil => rw [List.map_nil, lev_nil, lev_nil, List.length_map]
  | cons a x ih =>
    induction y with
    | nil => rw [List.map_nil, lev_empty, lev_empty, List.length_map]
    | cons b y ihy =>
      have h1 := ih y
      have h2 := ih (b :: y)
      simp only [List.map_cons] at h1 h2 ihy ⊢
      rw [lev_cons, lev_cons, h1, h2, ihy]
      simp
theorem rowv_end (x y : List Nat) (h1 : y.length ≤ x.length + 8) (h2 : x.length ≤ y.length + 8) : rowv x y x.length (8 + y.length - x.length) = nr x y := by
  unfold rowv nr en
  rw [if_neg (by omega), show x.length + (8 + y.length - x.length) - 8 = y.length by omega, yh_all, List.take_length, lev_some]
theorem nr_far {x y : List Nat} (h : x.length + 8 < y.length ∨ y.length + 8 < x.length) : nr x y = 8 := by
  have := lev_len x y
  unfold nr
  omega
/-- a row in the making -/
def rowAt (x y : List Nat) (n d : Nat) : List Nat := (List.range 17).map fun j => if j < d then rowv x y (n + 1) j else rowv x y n j
def rowOf (x y : List Nat) (n : Nat) : List Nat := (List.range 17).map fun j => rowv x y n j
theorem rowAt_get (x y : List Nat) (n d j : Nat) (h : j < 17) : (rowAt x y n d)[j]? = some (if j < d then rowv x y (n + 1) j else rowv x y n j) := by
  simp [rowAt, h]
theorem rowAt_first (x y : List Nat) (n : Nat) (h : n < x.length) : rowAt x y n 1 = rowOf x y n := by
  unfold rowAt rowOf
  apply List.map_congr_left
  intro j hj
  split
  · obtain rfl : j = 0 := by omega
    rw [rowv_lo _ _ _ (by omega), rowv_lo _ _ _ (by omega)]
  · rfl
theorem rowAt_last (x y : List Nat) (n : Nat) (h : n < x.length) : rowAt x y n 16 = rowOf x y (n + 1) := by
  unfold rowAt rowOf
  apply List.map_congr_left
  intro j hj
  split
  · rfl
  · obtain rfl : j = 16 := by simp at hj; omega
    rw [rowv_hi _ _ _ (by omega), rowv_hi _ _ _ (by omega)]
theorem rowAt_set (x y : List Nat) (n d : Nat) (h : d < 17) : (rowAt x y n d).set d (rowv x y (n + 1) d) = rowAt x y n (d + 1) := by
  apply List.ext_getElem?
  intro j
  rw [List.getElem?_set]
  by_cases hj : j < 17
  · rw [rowAt_get _ _ _ _ _ hj, rowAt_get _ _ _ _ _ hj]
    have hl : (rowAt x y n d).length = 17 := by simp [rowAt]
    rw [hl]
    split
    · rename_i e; subst e; rw [if_pos (Nat.lt_succ_self _)]
    · rename_i e
      congr 1
      by_cases h2 : j < d
      · rw [if_pos h2, if_pos (by omega)]
      · rw [if_neg h2, if_neg (by omega)]
  · have e1 : (rowAt x y n d)[j]? = none := by simp [rowAt]; omega
    have e2 : (rowAt x y n (d + 1))[j]? = none := by simp [rowAt]; omega
    rw [if_neg (by omega), e1, e2]
end Go.Proofs.YthhpbonacefmaaaDoor
