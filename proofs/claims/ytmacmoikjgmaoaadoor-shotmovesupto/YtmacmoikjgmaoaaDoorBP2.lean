/- boards over lists: spawns. -/
import Derived.Test.YtmacmoikjgmaoaaDoorBP1
namespace Go.Proofs.YtmacmoikjgmaoaaDoor.Bo
open Go Go.RowKit

set_option maxRecDepth 100000 in
theorem spR_mem {L : Bo} {y n : Nat} {p : Int × Int} (h : p ∈ spR L y n) : ∃ x : Nat, x < n ∧ p = (mid x, mid y) ∧ cel L x y = 83 := by
  unfold spR at h
  rw [List.mem_flatMap] at h
  obtain ⟨x, hx, hp⟩ := h
  rw [List.mem_range] at hx
  split at hp <;> rename_i hc
  · rw [List.mem_singleton] at hp
    exact ⟨x, hx, hp, hc⟩
  · cases hp
set_option maxRecDepth 100000 in
theorem spA_mem {L : Bo} {n : Nat} {p : Int × Int} (h : p ∈ spA L n) : ∃ x y : Nat, x < wd L ∧ y < n ∧ p = (mid x, mid y) ∧ cel L x y = 83 := by
  unfold spA at h
  rw [List.mem_flatMap] at h
  obtain ⟨y, hy, hp⟩ := h
  rw [List.mem_range] at hy
  obtain ⟨x, hx, e, hc⟩ := spR_mem hp
  exact ⟨x, y, hx, hy, e, hc⟩
/-- ahead of: by lines, in a line from the left -/
def Lt (a b : Int × Int) : Prop := a.2 < b.2 ∨ a.2 = b.2 ∧ a.1 < b.1
set_option maxRecDepth 100000 in
theorem mid_lt {a b : Nat} (h : a < b) : mid a < mid b := by unfold mid; omega
set_option maxRecDepth 100000 in
theorem spR_pw (L : Bo) (y : Nat) : ∀ n, (spR L y n).Pairwise Lt
  | 0 => by simp [spR]
  | n + 1 => by
    rw [spR_succ]
    refine List.pairwise_append.2 ⟨spR_pw L y n, by split <;> simp, fun a ha b hb => ?_⟩
    obtain ⟨x, hx, rfl, _⟩ := spR_mem ha
    split at hb
    · rw [List.mem_singleton] at hb
      subst hb
      exact .inr ⟨rfl, mid_lt hx⟩
    · cases hb
set_option maxRecDepth 100000 in
theorem spA_pw (L : Bo) : ∀ n, (spA L n).Pairwise Lt
  | 0 => by simp [spA]
  | n + 1 => by
    rw [spA_succ]
    refine List.pairwise_append.2 ⟨spA_pw L n, spR_pw L n _, fun a ha b hb => ?_⟩
    obtain ⟨x, y, _, hy, rfl, _⟩ := spA_mem ha
    obtain ⟨x', _, rfl, _⟩ := spR_mem hb
    exact .inl (mid_lt hy)
set_option maxRecDepth 100000 in
theorem cel_in {L : Bo} {x y : Int} (h : cel L x y ≠ 35) : 1 ≤ x ∧ x < (wd L : Int) - 1 ∧ 1 ≤ y ∧ y < (L.length : Int) - 1 := by
  by_cases q : x < 1 ∨ y < 1 ∨ x ≥ (wd L : Int) - 1 ∨ y ≥ (L.length : Int) - 1
  · exact absurd (by unfold cel; rw [if_pos q]) h
  · omega
/-- what a spawn is -/
structure Sp (L : Bo) (p : Int × Int) : Prop where
  x : 0 ≤ p.1 ∧ p.1 < 33554432 ∧ p.1 % 524288 = 262144
  y : 0 ≤ p.2 ∧ p.2 < 33554432 ∧ p.2 % 524288 = 262144
  at' : atL L p = 83
  free : ∀ h : Int, h ≤ 262144 → ¬ blk L p h
  big : blk L p 33554432
set_option maxRecDepth 100000 in
theorem sp_of {L : Bo} (he : ev L) {p : Int × Int} (hp : p ∈ spn L) : Sp L p := by
  obtain ⟨x, y, hx, hy, rfl, hc⟩ := spA_mem hp
  have b1 : 3 ≤ wd L ∧ wd L ≤ 64 := he.2.1
  have b2 : 3 ≤ L.length ∧ L.length ≤ 64 := he.1
  have hi := cel_in (L := L) (x := x) (y := y) (by rw [hc]; decide)
  have nx : ∀ k : Int, -262144 ≤ k → k < 262144 → nm (mid x + k) = x := fun k h1 h2 => by
    have e : mid x + k = (x : Int) * 524288 + (262144 + k) := by unfold mid; omega
    rw [e]
    exact nm_cell (by omega) (by omega) (by omega) (by omega)
  have ny : ∀ k : Int, -262144 ≤ k → k < 262144 → nm (mid y + k) = y := fun k h1 h2 => by
    have e : mid y + k = (y : Int) * 524288 + (262144 + k) := by unfold mid; omega
    rw [e]
    exact nm_cell (by omega) (by omega) (by omega) (by omega)
  have hat : atL L (mid x, mid y) = 83 := by
    unfold atL
    have h1 := nx 0 (by omega) (by omega)
    have h2 := ny 0 (by omega) (by omega)
    rw [Int.add_zero] at h1 h2
    simp only [h1, h2]
    exact hc
  refine ⟨by unfold mid; simp only; omega, by unfold mid; simp only; omega, hat, fun h hh => ?_, ?_⟩
  · unfold blk
    split <;> rename_i h1
    · rw [hat]; decide
    · simp only
      rintro (q | q | ⟨b, a, q1, q2, q3, q4, q5⟩)
      · exact q (by unfold hld mid; omega)
      · exact q (by unfold hld mid; omega)
      · rw [show mid y - h = mid y + -h by omega, ny _ (by omega) (by omega)] at q1
        rw [show mid y + h - 1 = mid y + (h - 1) by omega, ny _ (by omega) (by omega)] at q2
        rw [show mid x - h = mid x + -h by omega, nx _ (by omega) (by omega)] at q3
        rw [show mid x + h - 1 = mid x + (h - 1) by omega, nx _ (by omega) (by omega)] at q4
        have e1 : a = x := by omega
        have e2 : b = y := by omega
        rw [e1, e2, hc] at q5
        cases q5
  · unfold blk
    rw [if_neg (by decide)]
    exact .inl (by unfold hld mid; simp only; omega)
set_option maxRecDepth 100000 in
theorem spn_lt {L : Bo} {i : Nat} {a b : Int × Int} (ha : (spn L)[i]? = some a) (hb : (spn L)[i + 1]? = some b) : Lt a b := by
  obtain ⟨h1, e1⟩ := List.getElem?_eq_some_iff.1 ha
  obtain ⟨h2, e2⟩ := List.getElem?_eq_some_iff.1 hb
  rw [← e1, ← e2]
  exact List.pairwise_iff_getElem.1 (spA_pw L _) i (i + 1) h1 h2 (by omega)
set_option maxRecDepth 100000 in
theorem vcs_get {A : List (Int × Int)} {i : Nat} {p : Int × Int} (h : A[i]? = some p) : (vcs A)[i * 2]? = some (iv p.1) ∧ (vcs A)[i * 2 + 1]? = some (iv p.2) := by
  induction A generalizing i with
  | nil => cases h
  | cons a A ih =>
    cases i with
    | zero => simp at h; subst h; exact ⟨rfl, rfl⟩
    | succ i =>
      simp only [List.getElem?_cons_succ] at h
      obtain ⟨h1, h2⟩ := ih h
      have e : vcs (a :: A) = [iv a.1, iv a.2] ++ vcs A := rfl
      rw [e, List.getElem?_append_right (by simp; omega), List.getElem?_append_right (by simp; omega)]
      constructor
      · rw [← h1]; congr 1; simp; omega
      · rw [← h2]; congr 1; simp; omega
end Go.Proofs.YtmacmoikjgmaoaaDoor.Bo
