/- boards over lists: boxes. -/
import Derived.Test.YtmacmoikjgmaoaaDoorBP2
namespace Go.Proofs.YtmacmoikjgmaoaaDoor.Bo
open Go Go.RowKit

set_option maxRecDepth 100000 in
theorem nm_mono {a b : Int} (h : a ≤ b) : nm a ≤ nm b := by
  unfold nm
  split <;> split <;> omega
set_option maxRecDepth 100000 in
theorem nm_lo (a : Int) : -1 ≤ nm a ∧ nm a ≤ 64 := by
  unfold nm
  split <;> omega
set_option maxRecDepth 100000 in
theorem nm_nn {a : Int} (h : 0 ≤ a) : 0 ≤ nm a := by
  unfold nm
  split <;> omega
/-- a place of the box that is wall makes it blocked -/
theorem place_blk {L : Bo} {p : Int × Int} {h x y : Int} (h1 : 1 ≤ h) (x0 : p.1 - h ≤ x) (x1 : x ≤ p.1 + h - 1) (y0 : p.2 - h ≤ y) (y1 : y ≤ p.2 + h - 1) (hat : atL L (x, y) = 35) : blk L p h := by
  unfold blk
  rw [if_neg (by omega)]
  by_cases hX : hld (wd L) p.1 h
  · by_cases hY : hld L.length p.2 h
    · refine .inr (.inr ⟨(nm y).toNat, (nm x).toNat, ?_⟩)
      unfold hld at hX hY
      have hx := nm_nn (a := x) (by omega)
      have hy := nm_nn (a := y) (by omega)
      have e1 : (((nm x).toNat : Nat) : Int) = nm x := by omega
      have e2 : (((nm y).toNat : Nat) : Int) = nm y := by omega
      rw [e1, e2]
      exact ⟨nm_mono y0, nm_mono y1, nm_mono x0, nm_mono x1, hat⟩
    · exact .inr (.inl hY)
  · exact .inl hX
/-- a box that is blocked has a place in a wall -/
theorem blk_place {L : Bo} (he : ev L) {p : Int × Int} {h : Int} (h1 : 1 ≤ h) (hb : blk L p h) : ∃ x y : Int, p.1 - h ≤ x ∧ x ≤ p.1 + h - 1 ∧ p.2 - h ≤ y ∧ y ≤ p.2 + h - 1 ∧ atL L (x, y) = 35 := by
  have b1 : 3 ≤ wd L ∧ wd L ≤ 64 := he.2.1
  have b2 : 3 ≤ L.length ∧ L.length ≤ 64 := he.1
  unfold blk at hb
  rw [if_neg (by omega)] at hb
  by_cases hX : hld (wd L) p.1 h
  · by_cases hY : hld L.length p.2 h
    · rcases hb with hb | hb | ⟨b, a, q1, q2, q3, q4, q5⟩
      · exact absurd hX hb
      · exact absurd hY hb
      · unfold hld at hX hY
        unfold nm at q1 q2 q3 q4
        rw [if_neg (by omega)] at q1 q2 q3 q4
        refine ⟨max (p.1 - h) ((a : Int) * 524288), max (p.2 - h) ((b : Int) * 524288), by omega, by omega, by omega, by omega, ?_⟩
        have e1 : nm (max (p.1 - h) ((a : Int) * 524288)) = a := by
          unfold nm
          rw [if_neg (by omega)]
          omega
        have e2 : nm (max (p.2 - h) ((b : Int) * 524288)) = b := by
          unfold nm
          rw [if_neg (by omega)]
          omega
        unfold atL
        simp only [e1, e2]
        exact q5
    · unfold hld at hY
      by_cases q : h ≤ p.2
      · refine ⟨p.1 - h, p.2 + h - 1, by omega, by omega, by omega, by omega, ?_⟩
        unfold atL
        refine cel_rim (.inr (.inr (.inr ?_)))
        simp only
        unfold nm
        rw [if_neg (by omega)]
        omega
      · refine ⟨p.1 - h, p.2 - h, by omega, by omega, by omega, by omega, ?_⟩
        unfold atL
        refine cel_rim (.inr (.inl ?_))
        simp only
        unfold nm
        rw [if_pos (by omega)]
        omega
  · unfold hld at hX
    by_cases q : h ≤ p.1
    · refine ⟨p.1 + h - 1, p.2 - h, by omega, by omega, by omega, by omega, ?_⟩
      unfold atL
      refine cel_rim (.inr (.inr (.inl ?_)))
      simp only
      unfold nm
      rw [if_neg (by omega)]
      omega
    · refine ⟨p.1 - h, p.2 - h, by omega, by omega, by omega, by omega, ?_⟩
      unfold atL
      refine cel_rim (.inl ?_)
      simp only
      unfold nm
      rw [if_pos (by omega)]
      omega
/-- a greater box -/
theorem blk_mono {L : Bo} (he : ev L) {p : Int × Int} {h k : Int} (hk : h ≤ k) (k1 : 1 ≤ k) (hb : blk L p h) : blk L p k := by
  by_cases h1 : h < 1
  · unfold blk at hb
    rw [if_pos h1] at hb
    exact place_blk k1 (by omega) (by omega) (by omega) (by omega) hb
  · obtain ⟨x, y, q1, q2, q3, q4, q5⟩ := blk_place he (by omega) hb
    exact place_blk k1 (by omega) (by omega) (by omega) (by omega) q5
set_option maxRecDepth 100000 in
theorem blk_low {L : Bo} {p : Int × Int} {h : Int} (h1 : h < 1) : blk L p h ↔ atL L p = 35 := by
  unfold blk; rw [if_pos h1]
set_option maxRecDepth 100000 in
theorem blk_out {L : Bo} {p : Int × Int} {h : Int} (h1 : 1 ≤ h) (q : ¬ hld (wd L) p.1 h ∨ ¬ hld L.length p.2 h) : blk L p h := by
  unfold blk
  rw [if_neg (by omega)]
  rcases q with q | q
  · exact .inl q
  · exact .inr (.inl q)
/-- where the next cell begins -/
def nx (x last : Int) : Int := if x ≥ last then last + 1 else min (if x < 0 ∧ x.tmod 524288 ≠ 0 then x - x.tmod 524288 else x - x.tmod 524288 + 524288) last
set_option maxRecDepth 100000 in
theorem nx_end {x last : Int} (h : last ≤ x) : nx x last = last + 1 := by unfold nx; rw [if_pos h]
set_option maxRecDepth 100000 in
theorem nx_mid {x last : Int} (h : x < last) : x < nx x last ∧ nx x last ≤ last ∧ ∀ z, x ≤ z → z < nx x last → nm z = nm x := by
  unfold nx
  rw [if_neg (by omega)]
  by_cases h0 : 0 ≤ x
  · have e : x.tmod 524288 = x % 524288 := Int.tmod_eq_emod_of_nonneg h0
    rw [if_neg (by omega), e]
    refine ⟨by omega, by omega, fun z z0 z1 => ?_⟩
    unfold nm
    rw [if_neg (by omega), if_neg (by omega)]
    omega
  · have h1 : x < 0 := by omega
    have e : x.tmod 524288 = -((-x) % 524288) := by
      rw [← Int.tmod_eq_emod_of_nonneg (by omega : 0 ≤ -x), Int.neg_tmod, Int.neg_neg]
    rw [e]
    split
    · refine ⟨by omega, by omega, fun z z0 z1 => ?_⟩
      unfold nm
      rw [if_pos (by omega), if_pos (by omega)]
    · refine ⟨by omega, by omega, fun z z0 z1 => ?_⟩
      unfold nm
      rw [if_pos (by omega), if_pos (by omega)]
set_option maxRecDepth 100000 in
theorem at_same {L : Bo} {x z y : Int} (h : nm z = nm x) : atL L (z, y) = atL L (x, y) := by unfold atL; simp only [h]
set_option maxRecDepth 100000 in
theorem at_same2 {L : Bo} {x z y : Int} (h : nm z = nm y) : atL L (x, z) = atL L (x, y) := by unfold atL; simp only [h]
end Go.Proofs.YtmacmoikjgmaoaaDoor.Bo
