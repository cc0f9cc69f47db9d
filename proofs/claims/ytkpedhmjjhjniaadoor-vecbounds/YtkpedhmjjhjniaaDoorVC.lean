/- headings and their units, over numbers. -/
import Derived.Test.YtkpedhmjjhjniaaDoorVB
import Derived.Test.YtkpedhmjjhjniaaDoorVPt
namespace Go.Proofs.YtkpedhmjjhjniaaDoor
open Go Go.RowKit

theorem far1_at {p : Int × Int} {m : Int} {j : Nat} : ∀ {l : List (Int × Int)} {i : Nat}, far1 p m i l j = true → ∀ (n : Nat) (q : Int × Int), l[n]? = some q → i + n ≠ j → q.1 * p.1 + q.2 * p.2 < m
  | [], _, _, _, _, h, _ => by cases h
  | r :: l, i, h, 0, q, hq, hne => by
    simp only [List.getElem?_cons_zero, Option.some.injEq] at hq
    subst hq
    simp only [far1, Bool.and_eq_true, Bool.or_eq_true, decide_eq_true_eq] at h
    rcases h.1 with h1 | h1
    · exact absurd (Nat.eq_of_beq_eq_true h1) (by omega)
    · exact h1
  | r :: l, i, h, n + 1, q, hq, hne => by
    simp only [far1, Bool.and_eq_true] at h
    exact far1_at h.2 n q (by simpa using hq) (by omega)
theorem farAll_at : ∀ {l : List (Int × Int)} {j : Nat}, farAll l j = true → ∀ (n : Nat) (p : Int × Int), l[n]? = some p → far1 p (p.1 * p.1 + p.2 * p.2) 0 uT (j + n) = true
  | [], _, _, _, _, h => by cases h
  | r :: l, j, h, 0, p, hp => by
    simp only [List.getElem?_cons_zero, Option.some.injEq] at hp
    subst hp
    simp only [farAll, Bool.and_eq_true] at h
    exact h.1
  | r :: l, j, h, n + 1, p, hp => by
    simp only [farAll, Bool.and_eq_true] at h
    have := farAll_at h.2 n p (by simpa using hp)
    rwa [show j + (n + 1) = j + 1 + n by omega]
theorem unit_far (i j : Int) (i0 : 0 ≤ i) (i1 : i < 256) (j0 : 0 ≤ j) (j1 : j < 256) (h : i ≠ j) : pr i (sinZ (j + 64)) (sinZ j) < pr j (sinZ (j + 64)) (sinZ j) := by
  have hi := uT_all ⟨i.toNat, by omega⟩
  have hj := uT_all ⟨j.toNat, by omega⟩
  have ei : ((i.toNat : Nat) : Int) = i := by omega
  have ej : ((j.toNat : Nat) : Int) = j := by omega
  simp only [ei] at hi
  simp only [ej] at hj
  exact far1_at (farAll_at far_all _ _ hj) _ _ hi (by omega)
theorem pr_mod (a b x y : Int) (h : a % 256 = b % 256) : pr a x y = pr b x y := by
  unfold pr
  rw [sin_mod (a + 64) (b + 64) (by omega), sin_mod a b h]
theorem tow_unit (h : Int) : tow (sinZ (h + 64)) (sinZ h) = h % 256 := by
  have h0 := Int.emod_nonneg h (show (256 : Int) ≠ 0 by omega)
  have h1 := Int.emod_lt_of_pos h (show (0 : Int) < 256 by omega)
  rw [sin_mod (h + 64) (h % 256 + 64) (by omega), sin_mod h (h % 256) (by omega)]
  generalize h % 256 = t at *
  refine tow_eq ⟨h0, h1, fun k k0 k1 => ?_, fun k k0 k1 => ?_⟩
  · by_cases e : k = t
    · rw [e]; omega
    · exact Int.le_of_lt (unit_far k t k0 k1 h0 h1 e)
  · exact unit_far k t k0 (by omega) h0 h1 (by omega)
theorem pr_neg (k x y : Int) : pr k (-x) (-y) = pr ((k + 128) % 256) x y := by
  rw [pr_mod ((k + 128) % 256) (k + 128) x y (by omega)]
  unfold pr
  rw [sin128 k, show k + 128 + 64 = (k + 64) + 128 by omega, sin128 (k + 64)]
  grind
theorem tow_back (x y t : Int) (h : BestN x y 256 t) (ha : ∀ k, 0 ≤ k → k < 256 → k ≠ t → pr k x y < pr t x y) : tow (-x) (-y) = (t + 128) % 256 := by
  have h0 := h.t0; have h1 := h.t1
  have e : pr ((t + 128) % 256) (-x) (-y) = pr t x y := by rw [pr_neg]; exact pr_mod _ _ _ _ (by omega)
  refine tow_eq ⟨by omega, by omega, fun k k0 k1 => ?_, fun k k0 k1 => ?_⟩
  · rw [e, pr_neg]
    exact h.le _ (by omega) (by omega)
  · rw [e, pr_neg]
    exact ha _ (by omega) (by omega) (by omega)
/-- small parts -/
structure Sm (a : Int) : Prop where
  a0 : -536870912 ≤ a
  a1 : a ≤ 536870912
theorem sm_of {ax ay bx by' : Int} (h : smB ax ay bx by' = true) : Sm ax ∧ Sm ay ∧ Sm bx ∧ Sm by' := by
  unfold smB inB at h
  simp only [Bool.and_eq_true, decide_eq_true_eq] at h
  exact ⟨⟨h.1.1, h.1.2⟩, ⟨h.2.1.1, h.2.1.2⟩, ⟨h.2.2.1.1, h.2.2.1.2⟩, ⟨h.2.2.2.1, h.2.2.2.2⟩⟩
theorem df_sm {a b : Int} (ha : Sm a) (hb : Sm b) : df a b = a - b := by
  obtain ⟨_, _⟩ := ha; obtain ⟨_, _⟩ := hb
  unfold df lz kz; omega
theorem lz_sm {a b : Int} (ha : Sm a) (hb : Sm b) : lz a b 1099511627776 = a - b := by
  obtain ⟨_, _⟩ := ha; obtain ⟨_, _⟩ := hb
  unfold lz kz; omega
theorem add_sm {a u : Int} (ha : Sm a) (hu : -65536 ≤ u ∧ u ≤ 65536) : addZ a u = a + u ∧ df (a + u) a = u ∧ In (a + u) := by
  obtain ⟨_, _⟩ := ha
  refine ⟨?_, ?_, ?_⟩
  · unfold addZ; rw [bd_eq]; (repeat' split) <;> omega
  · unfold df lz kz; omega
  · unfold In; omega
theorem Bx.tail {w0 W : World} {p : Nat × Int × Int} {L : List (Nat × Int × Int)} (h : Bx w0 W (p :: L)) : Bx w0 W L :=
  ⟨h.g, h.k, fun b x y hm => h.has b x y (.tail _ hm), fun q hm => h.lo q (.tail _ hm), (List.pairwise_cons.1 h.nd).2⟩
end Go.Proofs.YtkpedhmjjhjniaaDoor
