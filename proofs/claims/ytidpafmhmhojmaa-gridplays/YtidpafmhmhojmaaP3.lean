/- what the reference's Nearest chooses. -/
import Derived.Test.YtidpafmhmhojmaaP1
namespace Go.Proofs.Ytidpafmhmhojmaa
open Go Go.RowKit

def PlR (M : List Pl) : Prop := ∀ p ∈ M, I64 p.id ∧ I64 p.x ∧ I64 p.y
/-- the best of the first i -/
structure Bst (L : List Pl) (x y : Int) (b i : Nat) : Prop where
  lt : b < i
  al : ∀ t, L[b]? = some t → ∀ j s, j < i → L[j]? = some s → j ≠ b → ahd x y t s
theorem Bst.start (L : List Pl) (x y : Int) : Bst L x y 0 1 := ⟨by omega, fun _ _ j _ h _ hn => absurd (show j = 0 by omega) hn⟩
theorem srt_at {L : List Pl} (hs : Srt L) {i j : Nat} {a b : Pl} (ha : L[i]? = some a) (hb : L[j]? = some b) (h : i < j) : a.id < b.id := by
  obtain ⟨h1, rfl⟩ := List.getElem?_eq_some_iff.1 ha
  obtain ⟨h2, rfl⟩ := List.getElem?_eq_some_iff.1 hb
  exact List.pairwise_iff_getElem.1 hs i j h1 h2 h
theorem Bst.yes {L : List Pl} {x y : Int} {b i : Nat} {s t : Pl} (h : Bst L x y b i) (ht : L[b]? = some t) (hs : L[i]? = some s) (hd : d2 s.x s.y x y < d2 t.x t.y x y) : Bst L x y i (i + 1) := by
  refine ⟨by omega, fun s' hs' j u hj hu hn => ?_⟩
  obtain rfl : s = s' := Option.some.inj (hs.symm.trans hs')
  have q : ahd x y s t := Or.inl (by rw [d2_symm x y, d2_symm x y]; exact hd)
  by_cases e : j = b
  · subst e
    obtain rfl : t = u := Option.some.inj (ht.symm.trans hu)
    exact q
  · exact ahd_trans _ _ _ _ _ q (h.al t ht j u (by omega) hu e)
theorem Bst.no {L : List Pl} {x y : Int} {b i : Nat} {s t : Pl} (hS : Srt L) (h : Bst L x y b i) (ht : L[b]? = some t) (hs : L[i]? = some s) (hd : ¬ d2 s.x s.y x y < d2 t.x t.y x y) : Bst L x y b (i + 1) := by
  refine ⟨by have := h.lt; omega, fun t' ht' j u hj hu hn => ?_⟩
  obtain rfl : t = t' := Option.some.inj (ht.symm.trans ht')
  by_cases e : j = i
  · subst e
    obtain rfl : s = u := Option.some.inj (hs.symm.trans hu)
    have hid := srt_at hS ht hs h.lt
    unfold ahd
    rw [d2_symm x y t.x, d2_symm x y s.x]
    omega
  · exact h.al t ht j u (by omega) hu hn
theorem er_perm : ∀ {L : List Pl} {b : Nat} {t : Pl}, L[b]? = some t → (t :: L.eraseIdx b).Perm L
  | [], b, t, h => by simp at h
  | a :: L, 0, t, h => by
    obtain rfl : a = t := by simpa using h
    exact List.Perm.refl _
  | a :: L, b + 1, t, h => (List.Perm.swap _ _ _).trans ((er_perm (L := L) (b := b) (by simpa using h)).cons a)
theorem Bst.srt {L : List Pl} {x y : Int} {b : Nat} {t : Pl} (hS : Srt L) (h : Bst L x y b L.length) (ht : L[b]? = some t) : srtD x y L = t :: srtD x y (L.eraseIdx b) := by
  have hne : (L.eraseIdx b).Pairwise (fun a b => a.id ≠ b.id) := (List.Pairwise.sublist (List.eraseIdx_sublist L b) hS).imp (fun q => by omega)
  refine (srtD_is (hS.imp (fun q => by omega)) (((srtD_perm x y _).cons t).trans (er_perm ht)) ?_).symm
  refine List.pairwise_cons.2 ⟨fun u hu => ?_, srtD_srt x y _ hne⟩
  have hm := (srtD_perm x y _).mem_iff.1 hu
  obtain ⟨j, hj, hn, e⟩ := List.mem_eraseIdx_iff_getElem.1 hm
  exact h.al t ht j u hj (by rw [← e]; exact List.getElem?_eq_getElem hj) hn
structure RNst (M : List Pl) (x y r n0 : Int) (L O : List Pl) : Prop where
  eq : O ++ srtD x y L = srtD x y (nr M x y r)
  srt : Srt L
  le : O.length ≤ n0.toNat
  bd : O.length + L.length ≤ M.length
  rg : PlR L
theorem RNst.start {M : List Pl} (hM : Srt M) (hR : PlR M) (x y r n0 : Int) : RNst M x y r n0 (nr M x y r) [] :=
  ⟨rfl, nr_srt hM x y r, by simp, by have := nr_len M x y r; simpa using this, fun p hp => hR p (List.mem_filter.1 hp).1⟩
theorem RNst.done {M : List Pl} {x y r n0 : Int} {L O : List Pl} (h : RNst M x y r n0 L O) (hc : L = [] ∨ ¬ (O.length : Int) < n0) : O = nst M x y r n0 := by
  unfold nst
  rw [← h.eq]
  rcases hc with rfl | hc
  · have : O.length ≤ n0.toNat := h.le
    rw [show srtD x y [] = [] from rfl, List.append_nil, List.take_of_length_le this]
  · have : O.length = n0.toNat := by have := h.le; omega
    rw [← this, List.take_left]
theorem RNst.step {M : List Pl} {x y r n0 : Int} {L O : List Pl} (h : RNst M x y r n0 L O) {b : Nat} {t : Pl} (hb : Bst L x y b L.length) (ht : L[b]? = some t) (hc : (O.length : Int) < n0) : RNst M x y r n0 (L.eraseIdx b) (O ++ [t]) := by
  refine ⟨?_, List.Pairwise.sublist (List.eraseIdx_sublist L b) h.srt, ?_, ?_, fun p hp => h.rg p ((List.eraseIdx_sublist L b).subset hp)⟩
  · rw [← h.eq, hb.srt h.srt ht, List.append_assoc]; rfl
  · rw [List.length_append, List.length_singleton]; omega
  · have := h.bd
    have e := (er_perm ht).length_eq
    rw [List.length_cons] at e
    rw [List.length_append, List.length_singleton]; omega
/-- what is kept of the first i -/
def kpt (L : List Pl) (b i : Nat) : List Pl := (L.take i).eraseIdx b
theorem kpt_zero (L : List Pl) (b : Nat) : kpt L b 0 = [] := by simp [kpt]
theorem kpt_all {L : List Pl} {b i : Nat} (h : L.length ≤ i) : kpt L b i = L.eraseIdx b := by unfold kpt; rw [List.take_of_length_le h]
theorem kpt_le (L : List Pl) (b i : Nat) : (kpt L b i).length ≤ i := by
  unfold kpt
  exact Nat.le_trans (List.eraseIdx_sublist _ _).length_le (by rw [List.length_take]; omega)
theorem kpt_yes {L : List Pl} {b i : Nat} {s : Pl} (hs : L[i]? = some s) (e : i = b) : kpt L b (i + 1) = kpt L b i := by
  subst e
  have hl := (List.getElem?_eq_some_iff.1 hs).1
  unfold kpt
  have h1 : (L.take i).length = i := by rw [List.length_take]; omega
  rw [List.eraseIdx_of_length_le (l := L.take i) (by omega), List.take_add_one, hs, Option.toList, List.eraseIdx_append_of_length_le (by omega), h1]
  simp
theorem kpt_no {L : List Pl} {b i : Nat} {s : Pl} (hs : L[i]? = some s) (e : ¬ i = b) : kpt L b (i + 1) = kpt L b i ++ [s] := by
  have hl := (List.getElem?_eq_some_iff.1 hs).1
  unfold kpt
  have h1 : (L.take i).length = i := by rw [List.length_take]; omega
  rw [List.take_add_one, hs, Option.toList]
  rcases Nat.lt_or_ge b i with h | h
  · rw [List.eraseIdx_append_of_lt_length (by omega)]
  · rw [List.eraseIdx_append_of_length_le (by omega), h1, List.eraseIdx_of_length_le (l := L.take i) (by omega), List.eraseIdx_of_length_le (by simp; omega)]
end Go.Proofs.Ytidpafmhmhojmaa
