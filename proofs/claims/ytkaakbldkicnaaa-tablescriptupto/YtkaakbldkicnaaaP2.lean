/- the order of use, over lists. -/
import Derived.Test.YtkaakbldkicnaaaP0
namespace Go.Proofs.Ytkaakbldkicnaaa
namespace Tb
/-- the place of the last k among the first i -/
def lastU (xs : List ByteArray) (k : ByteArray) : Nat → Int
  | 0 => -1
  | i + 1 => if xs[i]? = some k then (i : Int) else lastU xs k i
def lastI (xs : List ByteArray) (k : ByteArray) : Int := lastU xs k xs.length
theorem lastU_app (xs ys : List ByteArray) (k : ByteArray) : ∀ i, i ≤ xs.length → lastU (xs ++ ys) k i = lastU xs k i
  | 0, _ => rfl
  | i + 1, h => by
    rw [lastU, lastU, List.getElem?_append_left (by omega), lastU_app xs ys k i (by omega)]
theorem lastI_snoc (xs : List ByteArray) (y k : ByteArray) : lastI (xs ++ [y]) k = if y = k then (xs.length : Int) else lastI xs k := by
  unfold lastI
  rw [List.length_append, List.length_singleton, lastU, lastU_app _ _ _ _ (Nat.le_refl _), List.getElem?_append_right (Nat.le_refl _), Nat.sub_self]
  simp
theorem lastU_lt (xs : List ByteArray) (k : ByteArray) : ∀ i, lastU xs k i < (i : Int)
  | 0 => by simp [lastU]
  | i + 1 => by
    rw [lastU]
    split
    · omega
    · have := lastU_lt xs k i
      omega
theorem lastI_lt (xs : List ByteArray) (k : ByteArray) : lastI xs k < (xs.length : Int) := lastU_lt xs k _
theorem lastU_ge (xs : List ByteArray) (k : ByteArray) : ∀ i, -1 ≤ lastU xs k i
  | 0 => by simp [lastU]
  | i + 1 => by
    rw [lastU]
    split
    · omega
    · exact lastU_ge xs k i
theorem lastU_at (xs : List ByteArray) (k : ByteArray) : ∀ (i j : Nat), j < i → xs[j]? = some k → (j : Int) ≤ lastU xs k i
  | 0, j, h, _ => by omega
  | i + 1, j, h, hj => by
    rw [lastU]
    split
    · omega
    · by_cases e : j = i
      · subst e; contradiction
      · exact lastU_at xs k i j (by omega) hj
theorem lastI_at {xs : List ByteArray} {k : ByteArray} {j : Nat} (hj : xs[j]? = some k) : (j : Int) ≤ lastI xs k := lastU_at xs k _ j (List.getElem?_eq_some_iff.1 hj).1 hj
theorem lastU_mem (xs : List ByteArray) (k : ByteArray) : ∀ i, 0 ≤ lastU xs k i → k ∈ xs
  | 0, h => by simp [lastU] at h
  | i + 1, h => by
    rw [lastU] at h
    split at h
    · rename_i q
      exact List.mem_of_getElem? q
    · exact lastU_mem xs k i h
theorem lastI_mem {xs : List ByteArray} {k : ByteArray} : 0 ≤ lastI xs k ↔ k ∈ xs := by
  refine ⟨lastU_mem xs k _, fun h => ?_⟩
  obtain ⟨j, hj, e⟩ := List.getElem_of_mem h
  have := lastI_at (xs := xs) (k := k) (j := j) (by rw [List.getElem?_eq_getElem hj, e])
  omega
/-- the used keys, by their last use -/
def RU (U : List ByteArray) : List ByteArray := U.foldl (fun r k => r.filter (fun x => decide (x ≠ k)) ++ [k]) []
theorem RU_snoc (U : List ByteArray) (k : ByteArray) : RU (U ++ [k]) = (RU U).filter (fun x => decide (x ≠ k)) ++ [k] := by
  simp [RU, List.foldl_append]
theorem snoc_ind {α : Type} {P : List α → Prop} (h0 : P []) (h1 : ∀ l a, P l → P (l ++ [a])) (l : List α) : P l := by
  suffices ∀ n (l : List α), l.length = n → P l from this l.length l rfl
  intro n
  induction n with
  | zero => intro l hl; rw [List.eq_nil_of_length_eq_zero hl]; exact h0
  | succ n ih =>
    intro l hl
    rcases List.eq_nil_or_concat l with rfl | ⟨a, b, rfl⟩
    · cases hl
    · rw [List.concat_eq_append] at hl ⊢
      exact h1 a b (ih a (by simpa using hl))
theorem RU_mem (U : List ByteArray) (x : ByteArray) : x ∈ RU U ↔ x ∈ U := by
  induction U using snoc_ind with
  | h0 => simp [RU]
  | h1 U k ih =>
    rw [RU_snoc, List.mem_append, List.mem_append, List.mem_filter, ih]
    simp only [decide_eq_true_eq, List.mem_singleton]
    constructor
    · rintro (⟨h, _⟩ | h)
      · exact .inl h
      · exact .inr h
    · rintro (h | h)
      · by_cases e : x = k
        · exact .inr e
        · exact .inl ⟨h, e⟩
      · exact .inr h
theorem RU_sorted (U : List ByteArray) : (RU U).Pairwise (fun a b => lastI U a < lastI U b) := by
  induction U using snoc_ind with
  | h0 => exact List.Pairwise.nil
  | h1 U k ih =>
    rw [RU_snoc]
    refine List.pairwise_append.2 ⟨?_, by simp, fun a ha b hb => ?_⟩
    · refine (ih.filter _).imp_of_mem ?_
      intro a b ha hb h
      have h1 := (List.mem_filter.1 ha).2
      have h2 := (List.mem_filter.1 hb).2
      simp only [decide_eq_true_eq] at h1 h2
      rw [lastI_snoc, lastI_snoc, if_neg (Ne.symm h1), if_neg (Ne.symm h2)]
      exact h
    · rw [List.mem_singleton] at hb
      subst hb
      have h1 := (List.mem_filter.1 ha).2
      simp only [decide_eq_true_eq] at h1
      rw [lastI_snoc, lastI_snoc, if_neg (Ne.symm h1), if_pos rfl]
      exact lastI_lt U a
theorem RU_nodup (U : List ByteArray) : (RU U).Nodup := (RU_sorted U).imp (fun h e => by rw [e] at h; omega)
theorem keys_rm {V : Type} (L : List (ByteArray × V)) (k : ByteArray) : keys (rm L k) = (keys L).filter (fun x => decide (x ≠ k)) := by
  simp [keys, rm, List.filter_map, Function.comp_def]
/-- who is there is who was used last -/
structure Used (sz : Nat) (K : List ByteArray) (i : Nat) (U : List ByteArray) (L : List (ByteArray × Int)) : Prop where
  g : ∃ G, RU U = G ++ keys L ∧ (G ≠ [] → L.length = sz)
  v : ∀ p ∈ L, ∃ x : Nat, p.2 = x ∧ x < i ∧ x % 2 = 0 ∧ K[x]? = some p.1
  n : 1 ≤ i → U ≠ []
theorem Used.start (sz : Nat) (K : List ByteArray) : Used sz K 0 [] [] := ⟨⟨[], rfl, fun h => absurd rfl h⟩, fun _ h => (by cases h), fun h => by omega⟩
theorem filter_not {l : List ByteArray} {k : ByteArray} (h : k ∉ l) : l.filter (fun x => decide (x ≠ k)) = l :=
  List.filter_eq_self.2 fun x hx => by simp only [decide_eq_true_eq]; exact fun e => h (e ▸ hx)
theorem Used.put {sz i : Nat} {K U : List ByteArray} {L : List (ByteArray × Int)} (h : Used sz K i U L) (h1 : 1 ≤ sz) (k : ByteArray) (hk : K[i]? = some k) (hi : i % 2 = 0) (hn : (keys L).Nodup) : Used sz K (i + 1) (U ++ [k]) (putL sz L k i) := by
  obtain ⟨G, hG, hG2⟩ := h.g
  have hnd := RU_nodup U
  rw [hG] at hnd
  obtain ⟨_, _, hdj⟩ := List.nodup_append.1 hnd
  have hv : ∀ p ∈ L, ∃ x : Nat, p.2 = x ∧ x < i + 1 ∧ x % 2 = 0 ∧ K[x]? = some p.1 := fun p hp => by
    obtain ⟨x, q1, q2, q3⟩ := h.v p hp
    exact ⟨x, q1, by omega, q3⟩
  have hnew : ∃ x : Nat, ((k, (i : Int)) : ByteArray × Int).2 = x ∧ x < i + 1 ∧ x % 2 = 0 ∧ K[x]? = some ((k, (i : Int)) : ByteArray × Int).1 := ⟨i, rfl, by omega, hi, hk⟩
  refine ⟨?_, ?_, fun _ e => by simp at e⟩
  · rw [RU_snoc, hG, List.filter_append]
    unfold putL
    split
    · rename_i hs
      obtain ⟨x, hx⟩ := Option.isSome_iff_exists.1 hs
      have hkL : k ∈ keys L := Classical.byContradiction fun q => by rw [look_none.2 q] at hx; cases hx
      refine ⟨G, ?_, fun q => ?_⟩
      · rw [filter_not (fun q => hdj k q k hkL rfl), show keys (rm L k ++ [(k, (i : Int))]) = keys (rm L k) ++ [k] by simp [keys], keys_rm]; simp
      · have := rm_len hn hx
        have := hG2 q
        simp; omega
    · rename_i hs
      have hkL : k ∉ keys L := look_none.1 (by simpa using hs)
      rw [filter_not hkL]
      split
      · rename_i hl
        cases L with
        | nil => simp at hl; omega
        | cons p L => exact ⟨G.filter (fun x => decide (x ≠ k)) ++ [p.1], by simp [keys], fun _ => by simp at hl ⊢; omega⟩
      · rename_i hl
        have hGe : G = [] := Classical.byContradiction fun q => hl (hG2 q)
        subst hGe
        exact ⟨[], by simp [keys], fun q => absurd rfl q⟩
  · intro p hp
    unfold putL at hp
    split at hp
    · rcases List.mem_append.1 hp with hp | hp
      · exact hv p (List.mem_filter.1 hp).1
      · rw [List.mem_singleton] at hp; subst hp; exact hnew
    · split at hp
      · rcases List.mem_append.1 hp with hp | hp
        · exact hv p (List.mem_of_mem_tail hp)
        · rw [List.mem_singleton] at hp; subst hp; exact hnew
      · rcases List.mem_append.1 hp with hp | hp
        · exact hv p hp
        · rw [List.mem_singleton] at hp; subst hp; exact hnew
theorem Used.use {sz i : Nat} {K U : List ByteArray} {L : List (ByteArray × Int)} (h : Used sz K i U L) (k : ByteArray) (x : Int) (hx : look L k = some x) (hn : (keys L).Nodup) : Used sz K (i + 1) (U ++ [k]) (useL L k) := by
  obtain ⟨G, hG, hG2⟩ := h.g
  have hnd := RU_nodup U
  rw [hG] at hnd
  obtain ⟨_, _, hdj⟩ := List.nodup_append.1 hnd
  have hkL : k ∈ keys L := Classical.byContradiction fun q => by rw [look_none.2 q] at hx; cases hx
  unfold useL
  rw [hx]
  refine ⟨⟨G, ?_, fun q => ?_⟩, fun p hp => ?_, fun _ e => by simp at e⟩
  · rw [RU_snoc, hG, List.filter_append, filter_not (fun q => hdj k q k hkL rfl)]
    simp only
    rw [show keys (rm L k ++ [(k, x)]) = keys (rm L k) ++ [k] by simp [keys], keys_rm]
    simp
  · have := rm_len hn hx
    have := hG2 q
    simp; omega
  · have hv : ∀ p ∈ L, ∃ x : Nat, p.2 = x ∧ x < i + 1 ∧ x % 2 = 0 ∧ K[x]? = some p.1 := fun p hp => by
      obtain ⟨x, q1, q2, q3⟩ := h.v p hp
      exact ⟨x, q1, by omega, q3⟩
    rcases List.mem_append.1 hp with hp | hp
    · exact hv p (List.mem_filter.1 hp).1
    · rw [List.mem_singleton] at hp
      subst hp
      obtain ⟨A, C, rfl, _⟩ := look_split hx
      exact hv (k, x) (by simp)
theorem Used.skip {sz i : Nat} {K U : List ByteArray} {L : List (ByteArray × Int)} (h : Used sz K i U L) (hi : 1 ≤ i) : Used sz K (i + 1) U L :=
  ⟨h.g, fun p hp => by obtain ⟨x, q1, q2, q3⟩ := h.v p hp; exact ⟨x, q1, by omega, q3⟩, fun _ => h.n hi⟩
theorem Used.sorted {sz i : Nat} {K U : List ByteArray} {L : List (ByteArray × Int)} (h : Used sz K i U L) : (keys L).Pairwise (fun a b => lastI U a < lastI U b) := by
  obtain ⟨G, hG, _⟩ := h.g
  have := RU_sorted U
  rw [hG] at this
  exact (List.pairwise_append.1 this).2.1
theorem Used.mem {sz i : Nat} {K U : List ByteArray} {L : List (ByteArray × Int)} (h : Used sz K i U L) {k : ByteArray} (hk : k ∈ keys L) : k ∈ U := by
  obtain ⟨G, hG, _⟩ := h.g
  rw [← RU_mem, hG]
  exact List.mem_append_right _ hk
theorem Used.all {sz i : Nat} {K U : List ByteArray} {L : List (ByteArray × Int)} (h : Used sz K i U L) (hl : L.length < sz) {k : ByteArray} (hk : k ∈ U) : k ∈ keys L := by
  obtain ⟨G, hG, hG2⟩ := h.g
  have hGe : G = [] := Classical.byContradiction fun q => by have := hG2 q; omega
  subst hGe
  rw [← RU_mem, hG] at hk
  exact hk
theorem Used.ends {sz i : Nat} {K U : List ByteArray} {L : List (ByteArray × Int)} (h : Used sz K i U L) (h1 : 1 ≤ sz) (hi : 1 ≤ i) : ∃ U' L' k x, U = U' ++ [k] ∧ L = L' ++ [(k, x)] := by
  obtain ⟨G, hG, hG2⟩ := h.g
  rcases List.eq_nil_or_concat U with rfl | ⟨U', k, rfl⟩
  · exact absurd rfl (h.n hi)
  rw [List.concat_eq_append] at *
  rw [RU_snoc] at hG
  rcases List.eq_nil_or_concat L with rfl | ⟨L', p, rfl⟩
  · have : G ≠ [] := fun e => by rw [e] at hG; simp at hG
    have := hG2 this
    simp at this; omega
  · rw [List.concat_eq_append] at *
    have e : keys (L' ++ [p]) = keys L' ++ [p.1] := by simp [keys]
    rw [e, ← List.append_assoc] at hG
    have := (List.append_inj' hG rfl).2
    simp at this
    exact ⟨U', L', k, p.2, rfl, by rw [this]⟩
theorem Used.later {sz i : Nat} {K U : List ByteArray} {p : ByteArray × Int} {L : List (ByteArray × Int)} (h : Used sz K i U (p :: L)) {j : Nat} {u : ByteArray} (hj : lastI U p.1 < (j : Int)) (hu : U[j]? = some u) : u ∈ keys (p :: L) := by
  obtain ⟨G, hG, _⟩ := h.g
  have h1 : u ∈ RU U := (RU_mem U u).2 (List.mem_of_getElem? hu)
  have h2 := lastI_at hu
  rw [hG] at h1
  rcases List.mem_append.1 h1 with h1 | h1
  · have hs := RU_sorted U
    rw [hG] at hs
    have := (List.pairwise_append.1 hs).2.2 u h1 p.1 (by simp [keys])
    omega
  · exact h1
end Tb
end Go.Proofs.Ytkaakbldkicnaaa
