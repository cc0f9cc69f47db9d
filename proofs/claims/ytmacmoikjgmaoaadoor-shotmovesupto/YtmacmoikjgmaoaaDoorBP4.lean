/- boards over lists: the reference's reading, and the rim. -/
import Derived.Test.YtmacmoikjgmaoaaDoorBP3
namespace Go.Proofs.YtmacmoikjgmaoaaDoor.Bo
open Go Go.RowKit

/-- lines of a text, without a bound -/
def rr : List Int → Bo → List Int → Option Bo
  | [], L, l => some (if l = [] then L else L ++ [l])
  | r :: t, L, l => if r = 10 then rr t (L ++ [l]) [] else if mn r = 0 then none else rr t L (l ++ [mn r])
set_option maxRecDepth 100000 in
theorem rr_len : ∀ (t : List Int) (L : Bo) (l : List Int) (R : Bo), rr t L l = some R → L.length ≤ R.length
  | [], L, l, R, h => by
    unfold rr at h
    injection h with h
    subst h
    split <;> simp
  | r :: t, L, l, R, h => by
    unfold rr at h
    split at h
    · have := rr_len t _ _ R h
      simp at this
      omega
    · split at h
      · cases h
      · exact rr_len t _ _ R h
set_option maxRecDepth 100000 in
theorem rr_keep : ∀ (t : List Int) (L : Bo) (l : List Int) (R : Bo), rr t L l = some R → ∀ k ∈ L, k ∈ R
  | [], L, l, R, h => by
    unfold rr at h
    injection h with h
    subst h
    intro k hk
    split
    · exact hk
    · exact List.mem_append_left _ hk
  | r :: t, L, l, R, h => by
    unfold rr at h
    intro k hk
    split at h
    · exact rr_keep t _ _ R h k (List.mem_append_left _ hk)
    · split at h
      · cases h
      · exact rr_keep t _ _ R h k hk
set_option maxRecDepth 100000 in
theorem rr_row : ∀ (t : List Int) (L : Bo) (l : List Int) (R : Bo), rr t L l = some R → l ≠ [] → ∃ k ∈ R, l.length ≤ k.length
  | [], L, l, R, h, hl => by
    unfold rr at h
    injection h with h
    subst h
    rw [if_neg hl]
    exact ⟨l, by simp, Nat.le_refl _⟩
  | r :: t, L, l, R, h, hl => by
    unfold rr at h
    split at h
    · exact ⟨l, rr_keep t _ _ R h l (by simp), Nat.le_refl _⟩
    · split at h
      · cases h
      · obtain ⟨k, hk, hlk⟩ := rr_row t L _ R h (by simp)
        exact ⟨k, hk, by simp at hlk; omega⟩
set_option maxRecDepth 100000 in
theorem ev_nil : ¬ ev [] := by decide
/-- both ways of reading agree -/
theorem rr_rd : ∀ (t : List Int) (L : Bo) (l : List Int), (rr t L l = none → ¬ ev (rd t L l)) ∧ ∀ R, rr t L l = some R → (ev R → rd t L l = R) ∧ (ev (rd t L l) → rd t L l = R)
  | [], L, l => by
    refine ⟨fun h => (by cases h), fun R h => ?_⟩
    unfold rr at h
    injection h with h
    subst h
    exact ⟨fun _ => rfl, fun _ => rfl⟩
  | r :: t, L, l => by
    unfold rr rd
    by_cases h10 : r = 10
    · subst h10
      rw [if_pos rfl]
      by_cases hL : L.length < 64
      · rw [if_pos ⟨rfl, hL⟩]
        exact rr_rd t _ _
      · rw [if_neg (show ¬ ((10 : Int) = 10 ∧ L.length < 64) from fun e => hL e.2), if_neg (show ¬ (mn 10 ≠ 0 ∧ l.length < 64) from fun e => e.1 rfl)]
        refine ⟨fun _ => ev_nil, fun R h => ⟨fun he => ?_, fun he => absurd he ev_nil⟩⟩
        have := rr_len t _ _ R h
        have h2 := he.1.2
        simp at this
        omega
    · rw [if_neg h10, if_neg (show ¬ (r = 10 ∧ L.length < 64) from fun e => h10 e.1)]
      by_cases hm : mn r = 0
      · rw [if_pos hm, if_neg (show ¬ (mn r ≠ 0 ∧ l.length < 64) from fun e => e.1 hm)]
        exact ⟨fun _ => ev_nil, fun R h => by cases h⟩
      · rw [if_neg hm]
        by_cases hl : l.length < 64
        · rw [if_pos ⟨hm, hl⟩]
          exact rr_rd t _ _
        · rw [if_neg (show ¬ (mn r ≠ 0 ∧ l.length < 64) from fun e => hl e.2)]
          refine ⟨fun _ => ev_nil, fun R h => ⟨fun he => ?_, fun he => absurd he ev_nil⟩⟩
          obtain ⟨k, hk, hlk⟩ := rr_row t L _ R h (by simp)
          have h2 := he.2.2 k hk
          have h3 := he.2.1.2
          simp at hlk
          omega
/-- a cell as the text has it -/
def raw (L : Bo) (a b : Nat) : Int := (L.getD b []).getD a 0
set_option maxRecDepth 100000 in
theorem raw_in {L : Bo} {x y : Nat} (h : ¬ (x = 0 ∨ y = 0 ∨ (x : Int) = (wd L : Int) - 1 ∨ (y : Int) = (L.length : Int) - 1)) (hx : x < wd L) (hy : y < L.length) : cel L x y = raw L x y := by
  unfold cel raw
  rw [if_neg (by omega)]
  simp
/-- the cells so far with their rim -/
def mixC (L : Bo) (y x b a : Nat) : Int := if b < y ∨ (b = y ∧ a < x) then cel L a b else raw L a b
def mixR (L : Bo) (y x b : Nat) : List Int := (List.range (wd L)).map (mixC L y x b)
def mix (L : Bo) (y x : Nat) : Bo := (List.range L.length).map (mixR L y x)
set_option maxRecDepth 100000 in
theorem mix_len (L : Bo) (y x : Nat) : (mix L y x).length = L.length := by simp [mix]
set_option maxRecDepth 100000 in
theorem mixR_len (L : Bo) (y x b : Nat) : (mixR L y x b).length = wd L := by simp [mixR]
set_option maxRecDepth 100000 in
theorem mix_get {L : Bo} {y x b : Nat} (h : b < L.length) : (mix L y x)[b]? = some (mixR L y x b) := by
  unfold mix
  rw [List.getElem?_map, List.getElem?_range h]
  rfl
set_option maxRecDepth 100000 in
theorem mixR_get {L : Bo} {y x b a : Nat} (h : a < wd L) : (mixR L y x b)[a]? = some (mixC L y x b a) := by
  unfold mixR
  rw [List.getElem?_map, List.getElem?_range h]
  rfl
set_option maxRecDepth 100000 in
theorem mix_zero {L : Bo} (he : ev L) : mix L 0 0 = L := by
  apply List.ext_getElem?
  intro b
  by_cases hb : b < L.length
  · rw [mix_get hb, List.getElem?_eq_getElem hb]
    congr 1
    have hl := he.2.2 _ (List.getElem_mem hb)
    apply List.ext_getElem?
    intro a
    by_cases ha : a < wd L
    · rw [mixR_get ha, List.getElem?_eq_getElem (by omega)]
      congr 1
      unfold mixC raw
      rw [if_neg (by omega)]
      simp [List.getD_eq_getElem?_getD, hb, show a < L[b].length by omega]
    · rw [List.getElem?_eq_none (by rw [mixR_len]; omega), List.getElem?_eq_none (by omega)]
  · rw [List.getElem?_eq_none (by rw [mix_len]; omega), List.getElem?_eq_none (by omega)]
set_option maxRecDepth 100000 in
theorem mix_row (L : Bo) (y : Nat) : mix L y (wd L) = mix L (y + 1) 0 := by
  unfold mix
  refine List.map_congr_left fun b _ => ?_
  unfold mixR
  refine List.map_congr_left fun a ha => ?_
  rw [List.mem_range] at ha
  unfold mixC
  by_cases q : b < y + 1 ∨ (b = y + 1 ∧ a < 0)
  · rw [if_pos q, if_pos (by omega)]
  · rw [if_neg q, if_neg (by omega)]
set_option maxRecDepth 100000 in
theorem mix_full (L : Bo) (x y : Nat) (hy : y < L.length) : mixC L L.length 0 y x = cel L x y := by
  unfold mixC
  rw [if_pos (.inl hy)]
set_option maxRecDepth 100000 in
theorem mix_same {L : Bo} {x y : Nat} (h : cel L x y = raw L x y) : mix L y (x + 1) = mix L y x := by
  unfold mix
  refine List.map_congr_left fun b _ => ?_
  unfold mixR
  refine List.map_congr_left fun a _ => ?_
  unfold mixC
  by_cases q : b = y ∧ a = x
  · obtain ⟨rfl, rfl⟩ := q
    rw [if_pos (by omega), if_neg (by omega), h]
  · by_cases q2 : b < y ∨ (b = y ∧ a < x)
    · rw [if_pos q2, if_pos (by omega)]
    · rw [if_neg q2, if_neg (by omega)]
set_option maxRecDepth 100000 in
theorem mix_step {L : Bo} {x y : Nat} : (mix L y x).set y ((mixR L y x y).set x (cel L x y)) = mix L y (x + 1) := by
  apply List.ext_getElem?
  intro b
  by_cases hb : b < L.length
  · rw [List.getElem?_set, mix_len, mix_get hb, mix_get hb]
    by_cases e : y = b
    · subst e
      rw [if_pos rfl, if_pos hb]
      congr 1
      apply List.ext_getElem?
      intro a
      by_cases ha : a < wd L
      · rw [List.getElem?_set, mixR_len, mixR_get ha, mixR_get ha]
        by_cases e2 : x = a
        · subst e2
          rw [if_pos rfl, if_pos ha]
          unfold mixC
          rw [if_pos (by omega)]
        · rw [if_neg e2]
          congr 1
          unfold mixC
          by_cases q : y < y ∨ (y = y ∧ a < x)
          · rw [if_pos q, if_pos (by omega)]
          · rw [if_neg q, if_neg (by omega)]
      · rw [List.getElem?_eq_none (by simp [mixR_len]; omega), List.getElem?_eq_none (by rw [mixR_len]; omega)]
    · rw [if_neg e]
      congr 1
      unfold mixR
      refine List.map_congr_left fun a _ => ?_
      unfold mixC
      by_cases q : b < y ∨ (b = y ∧ a < x)
      · rw [if_pos q, if_pos (by omega)]
      · rw [if_neg q, if_neg (by omega)]
  · rw [List.getElem?_eq_none (by simp [mix_len]; omega), List.getElem?_eq_none (by rw [mix_len]; omega)]
set_option maxRecDepth 100000 in
theorem rim_cel {L : Bo} {x y : Nat} (h : x = 0 ∨ y = 0 ∨ (x : Int) = (wd L : Int) - 1 ∨ (y : Int) = (L.length : Int) - 1) : cel L x y = 35 := by
  unfold cel
  rw [if_pos (by omega)]
end Go.Proofs.YtmacmoikjgmaoaaDoor.Bo
