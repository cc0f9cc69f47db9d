/- the reference: edges, Blocked. -/
import Derived.Test.YtmacmoikjgmaoaaDoorBRA1
namespace Go.Proofs.YtmacmoikjgmaoaaDoor.Bo
open Go Go.RowKit

/-- the first and the last cell of a box along one way -/
def eg (n h : Int) : Int × Int := if h < 1 then (fl n, fl n) else (fl (min (max n (-1099511627776)) 1099511627776 - min h 4398046511104), fl (min (max n (-1099511627776)) 1099511627776 + min h 4398046511104 - 1))
set_option maxRecDepth 100000 in
theorem eg_out {W : Nat} {p h : Int} (hW : 3 ≤ W ∧ W ≤ 64) (h1 : 1 ≤ h) : ¬ hld W p h ↔ (eg p h).1 < 0 ∨ (eg p h).2 ≥ (W : Int) := by
  unfold eg hld fl
  rw [if_neg (by omega)]
  simp only
  omega
set_option maxRecDepth 100000 in
theorem eg_in {W : Nat} {p h : Int} (hW : 3 ≤ W ∧ W ≤ 64) (h1 : 1 ≤ h) (hl : hld W p h) : (eg p h).1 = nm (p - h) ∧ (eg p h).2 = nm (p + h - 1) := by
  unfold hld at hl
  unfold eg fl nm
  rw [if_neg (by omega), if_neg (by omega), if_neg (by omega)]
  simp only
  omega
set_option maxRecDepth 100000 in
theorem blk_eg {L : Bo} (he : ev L) (px py h : Int) : ((eg px h).1 < 0 ∨ (eg py h).1 < 0 ∨ (eg px h).2 ≥ (wd L : Int) ∨ (eg py h).2 ≥ (L.length : Int) → blk L (px, py) h) ∧ (¬ ((eg px h).1 < 0 ∨ (eg py h).1 < 0 ∨ (eg px h).2 ≥ (wd L : Int) ∨ (eg py h).2 ≥ (L.length : Int)) → (blk L (px, py) h ↔ ∃ b a : Nat, (eg py h).1 ≤ b ∧ (b : Int) ≤ (eg py h).2 ∧ (eg px h).1 ≤ a ∧ (a : Int) ≤ (eg px h).2 ∧ cel L a b = 35)) := by
  have b1 : 3 ≤ wd L ∧ wd L ≤ 64 := he.2.1
  have b2 : 3 ≤ L.length ∧ L.length ≤ 64 := he.1
  by_cases h1 : h < 1
  · have e1 : eg px h = (fl px, fl px) := by unfold eg; rw [if_pos h1]
    have e2 : eg py h = (fl py, fl py) := by unfold eg; rw [if_pos h1]
    rw [e1, e2, blk_low h1, ← cel_fl he]
    simp only
    refine ⟨fun q => cel_out he (by omega), fun q => ?_⟩
    constructor
    · intro hc
      refine ⟨(fl py).toNat, (fl px).toNat, by omega, by omega, by omega, by omega, ?_⟩
      rw [show (((fl px).toNat : Nat) : Int) = fl px by omega, show (((fl py).toNat : Nat) : Int) = fl py by omega]
      exact hc
    · rintro ⟨b, a, q1, q2, q3, q4, q5⟩
      rw [show fl px = (a : Int) by omega, show fl py = (b : Int) by omega]
      exact q5
  · have ox := eg_out (p := px) b1 (show 1 ≤ h by omega)
    have oy := eg_out (p := py) b2 (show 1 ≤ h by omega)
    constructor
    · intro q
      refine blk_out (by omega) ?_
      rcases q with q | q | q | q
      · exact .inl (ox.2 (.inl q))
      · exact .inr (oy.2 (.inl q))
      · exact .inl (ox.2 (.inr q))
      · exact .inr (oy.2 (.inr q))
    · intro q
      have hX : hld (wd L) px h := Classical.byContradiction fun c => by have := ox.1 c; omega
      have hY : hld L.length py h := Classical.byContradiction fun c => by have := oy.1 c; omega
      obtain ⟨x0, x1⟩ := eg_in b1 (by omega) hX
      obtain ⟨y0, y1⟩ := eg_in b2 (by omega) hY
      rw [x0, x1, y0, y1]
      unfold blk
      rw [if_neg h1]
      simp only
      constructor
      · rintro (c | c | c)
        · exact absurd hX c
        · exact absurd hY c
        · exact c
      · exact fun c => .inr (.inr c)
end Go.Proofs.YtmacmoikjgmaoaaDoor.Bo
