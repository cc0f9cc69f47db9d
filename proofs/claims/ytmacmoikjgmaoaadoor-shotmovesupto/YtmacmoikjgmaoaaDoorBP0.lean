/- boards over lists. -/
import Derived.Test.YtmacmoikjgmaoaaDoorBBase
namespace Go.Proofs.YtmacmoikjgmaoaaDoor.Bo
open Go Go.RowKit

abbrev Bo := List (List Int)
/-- a text's runes from a place on -/
def rnF (s : ByteArray) : Nat → Nat → List Int
  | 0, _ => []
  | f + 1, p => if p < s.size then ((Utf8.decode s p).1 : Int) :: rnF s f (p + (Utf8.decode s p).2) else []
def rn (s : ByteArray) : List Int := rnF s s.size 0
set_option maxRecDepth 100000 in
theorem width_pos (s : ByteArray) (pos : Nat) (h : pos < s.size) : 1 ≤ (Utf8.decode s pos).2 := by
  by_cases ha : (s[pos]'h).toNat < 128
  · rw [decode_ascii s pos h ha]
    exact Nat.le_refl _
  · exact (decode_high s pos h (by omega)).2
set_option maxRecDepth 100000 in
theorem rnF_end (s : ByteArray) (f p : Nat) (h : ¬ p < s.size) : rnF s f p = [] := by
  cases f with
  | zero => rfl
  | succ f => simp [rnF, h]
set_option maxRecDepth 100000 in
theorem rnF_step (s : ByteArray) (f p : Nat) (h : p < s.size) (hf : s.size ≤ p + f) : ∃ g, f = g + 1 ∧ rnF s f p = ((Utf8.decode s p).1 : Int) :: rnF s g (p + (Utf8.decode s p).2) ∧ s.size ≤ p + (Utf8.decode s p).2 + g := by
  obtain ⟨g, rfl⟩ : ∃ g, f = g + 1 := ⟨f - 1, by omega⟩
  have := width_pos s p h
  exact ⟨g, rfl, by simp [rnF, h], by omega⟩
/-- bytes below 128 are runes -/
theorem rnF_ascii (l : List UInt8) (hl : ∀ b ∈ l, b.toNat < 128) : ∀ (f p : Nat), l.length ≤ p + f → rnF ⟨l.toArray⟩ f p = (l.drop p).map (fun b => (b.toNat : Int))
  | 0, p, h => by rw [List.drop_of_length_le (by omega)]; rfl
  | f + 1, p, h => by
    by_cases hp : p < l.length
    · have hs : p < (⟨l.toArray⟩ : ByteArray).size := by show p < l.toArray.size; simpa using hp
      have hg : (⟨l.toArray⟩ : ByteArray)[p]'hs = l[p] := rfl
      have hd := decode_ascii ⟨l.toArray⟩ p hs (by rw [hg]; exact hl _ (List.getElem_mem hp))
      rw [hg] at hd
      rw [rnF, if_pos hs, hd, rnF_ascii l hl f (p + 1) (by omega), List.drop_eq_getElem_cons hp]
      rfl
    · have hs : ¬ p < (⟨l.toArray⟩ : ByteArray).size := by show ¬ p < l.toArray.size; simpa using hp
      rw [rnF_end _ _ _ hs, List.drop_of_length_le (by omega)]
      rfl
set_option maxRecDepth 100000 in
theorem rn_ascii (l : List UInt8) (hl : ∀ b ∈ l, b.toNat < 128) : rn ⟨l.toArray⟩ = l.map (fun b => (b.toNat : Int)) := by
  unfold rn
  rw [rnF_ascii l hl _ 0 (by show l.length ≤ 0 + l.toArray.size; simp)]
  rfl
/-- the cell that a rune stands for -/
def mn (r : Int) : Int := if r = 35 ∨ r = 9608 then 35 else if r = 46 ∨ r = 32 then 46 else if r = 83 ∨ r = 69 ∨ r = 65 then r else 0
def okc (c : Int) : Prop := c = 35 ∨ c = 46 ∨ c = 83 ∨ c = 69 ∨ c = 65
set_option maxRecDepth 100000 in
theorem mn_ok {r : Int} (h : mn r ≠ 0) : okc (mn r) := by
  unfold mn at *
  unfold okc
  split at h <;> rename_i h1
  · simp [h1]
  · split at h <;> rename_i h2
    · simp [h1, h2]
    · split at h <;> rename_i h3
      · rw [if_neg h1, if_neg h2, if_pos h3]; omega
      · exact absurd rfl h
/-- lines of a text -/
def rd : List Int → Bo → List Int → Bo
  | [], L, l => if l = [] then L else L ++ [l]
  | r :: t, L, l => if r = 10 ∧ L.length < 64 then rd t (L ++ [l]) [] else if mn r ≠ 0 ∧ l.length < 64 then rd t L (l ++ [mn r]) else []
def wd (L : Bo) : Nat := (L.headD []).length
def ev (L : Bo) : Prop := (3 ≤ L.length ∧ L.length ≤ 64) ∧ (3 ≤ wd L ∧ wd L ≤ 64) ∧ ∀ l ∈ L, l.length = wd L
instance (L : Bo) : Decidable (ev L) := by unfold ev; infer_instance
def cel (L : Bo) (x y : Int) : Int := if x < 1 ∨ y < 1 ∨ x ≥ (wd L : Int) - 1 ∨ y ≥ (L.length : Int) - 1 then 35 else (L.getD y.toNat []).getD x.toNat 0
def mid (n : Nat) : Int := (n : Int) * 524288 + 262144
/-- spawns of the first n cells of a line, of the first n lines -/
def spR (L : Bo) (y : Nat) (n : Nat) : List (Int × Int) := (List.range n).flatMap fun (x : Nat) => if cel L x y = 83 then [(mid x, mid y)] else []
def spA (L : Bo) (n : Nat) : List (Int × Int) := (List.range n).flatMap fun (y : Nat) => spR L y (wd L)
def spn (L : Bo) : List (Int × Int) := spA L L.length
set_option maxRecDepth 100000 in
theorem spR_succ (L : Bo) (y n : Nat) : spR L y (n + 1) = spR L y n ++ (if cel L n y = 83 then [(mid n, mid y)] else []) := by
  unfold spR; rw [List.range_succ, List.flatMap_append]; simp
set_option maxRecDepth 100000 in
theorem spA_succ (L : Bo) (n : Nat) : spA L (n + 1) = spA L n ++ spR L n (wd L) := by
  unfold spA; rw [List.range_succ, List.flatMap_append]; simp
set_option maxRecDepth 100000 in
theorem spR_len (L : Bo) (y n : Nat) : (spR L y n).length ≤ n := by
  induction n with
  | zero => simp [spR]
  | succ n ih => rw [spR_succ, List.length_append]; split <;> simp <;> omega
set_option maxRecDepth 100000 in
theorem spA_len (L : Bo) (n : Nat) : (spA L n).length ≤ n * wd L := by
  induction n with
  | zero => simp [spA]
  | succ n ih => rw [spA_succ, List.length_append, Nat.succ_mul]; have := spR_len L n (wd L); omega
/-- what is printed -/
def prR (L : Bo) (y n : Nat) : List UInt8 := (List.range n).map fun (x : Nat) => (cel L x y).toNat.toUInt8
def prA (L : Bo) (n : Nat) : List UInt8 := (List.range n).flatMap fun (y : Nat) => prR L y (wd L) ++ [10]
def prt (L : Bo) : List UInt8 := prA L L.length
set_option maxRecDepth 100000 in
theorem prR_succ (L : Bo) (y n : Nat) : prR L y (n + 1) = prR L y n ++ [(cel L n y).toNat.toUInt8] := by
  unfold prR; rw [List.range_succ, List.map_append]; rfl
set_option maxRecDepth 100000 in
theorem prA_succ (L : Bo) (n : Nat) : prA L (n + 1) = prA L n ++ (prR L n (wd L) ++ [10]) := by
  unfold prA; rw [List.range_succ, List.flatMap_append]; simp
set_option maxRecDepth 100000 in
theorem prR_len (L : Bo) (y n : Nat) : (prR L y n).length = n := by simp [prR]
set_option maxRecDepth 100000 in
theorem prA_len (L : Bo) (n : Nat) : (prA L n).length = n * (wd L + 1) := by
  induction n with
  | zero => simp [prA]
  | succ n ih => rw [prA_succ, List.length_append, List.length_append, prR_len, ih, Nat.succ_mul]; simp
/-- all cells are cells -/
def oks (L : Bo) : Prop := ∀ l ∈ L, ∀ c ∈ l, okc c
set_option maxRecDepth 100000 in
theorem rd_oks : ∀ (t : List Int) (L : Bo) (l : List Int), oks L → (∀ c ∈ l, okc c) → oks (rd t L l)
  | [], L, l, h, hl => by
    unfold rd
    split
    · exact h
    · intro k hk
      rcases List.mem_append.1 hk with hk | hk
      · exact h k hk
      · rw [List.mem_singleton] at hk; subst hk; exact hl
  | r :: t, L, l, h, hl => by
    unfold rd
    split
    · refine rd_oks t _ _ ?_ (fun c hc => by cases hc)
      intro k hk
      rcases List.mem_append.1 hk with hk | hk
      · exact h k hk
      · rw [List.mem_singleton] at hk; subst hk; exact hl
    · split <;> rename_i h2
      · refine rd_oks t _ _ h ?_
        intro c hc
        rcases List.mem_append.1 hc with hc | hc
        · exact hl c hc
        · rw [List.mem_singleton] at hc; subst hc; exact mn_ok h2.1
      · intro k hk; cases hk
set_option maxRecDepth 100000 in
theorem rd_oks0 (t : List Int) : oks (rd t [] []) := rd_oks t [] [] (fun _ h => by cases h) (fun _ h => by cases h)
set_option maxRecDepth 100000 in
theorem cel_ok {L : Bo} (h : oks L) (he : ev L) (x y : Int) : okc (cel L x y) := by
  unfold cel
  split <;> rename_i hc
  · exact .inl rfl
  · have hy : y.toNat < L.length := by omega
    have hl := he.2.2 _ (List.getElem_mem hy)
    have hx : x.toNat < L[y.toNat].length := by omega
    rw [show L.getD y.toNat [] = L[y.toNat] by simp [List.getD_eq_getElem?_getD, hy], show L[y.toNat].getD x.toNat 0 = L[y.toNat][x.toNat] by simp [List.getD_eq_getElem?_getD, hx]]
    exact h _ (List.getElem_mem hy) _ (List.getElem_mem hx)
/-- the number of the cell in which a place lies -/
def nm (p : Int) : Int := if p < 0 then -1 else min (p / 524288) 64
def atL (L : Bo) (p : Int × Int) : Int := cel L (nm p.1) (nm p.2)
/-- so many cells hold the box -/
def hld (n : Nat) (p h : Int) : Prop := h ≤ p ∧ h ≤ (n : Int) * 524288 - p
instance (n : Nat) (p h : Int) : Decidable (hld n p h) := by unfold hld; infer_instance
/-- whether a box is blocked -/
def blk (L : Bo) (p : Int × Int) (h : Int) : Prop :=
  if h < 1 then atL L p = 35 else ¬ hld (wd L) p.1 h ∨ ¬ hld L.length p.2 h ∨ ∃ y x : Nat, nm (p.2 - h) ≤ y ∧ (y : Int) ≤ nm (p.2 + h - 1) ∧ nm (p.1 - h) ≤ x ∧ (x : Int) ≤ nm (p.1 + h - 1) ∧ cel L x y = 35
noncomputable instance (L : Bo) (p : Int × Int) (h : Int) : Decidable (blk L p h) := Classical.propDecidable _
end Go.Proofs.YtmacmoikjgmaoaaDoor.Bo
