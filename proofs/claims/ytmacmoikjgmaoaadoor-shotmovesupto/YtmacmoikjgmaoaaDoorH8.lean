/- what stays when a shot's block is written; cells of places -/
import Derived.Test.YtmacmoikjgmaoaaDoorL1
namespace Go.Proofs.YtmacmoikjgmaoaaDoor.Bo
open Go Go.RowKit

theorem Bd.keptX {w w' : World} {v : Value} {L : Bo} {xb : Nat} {c : Sh} {T : TypeId} (h : Bd w v L) (hh : Has w xb (shv c) T) (g : w.grownBy w' (some xb)) : Bd w' v L := by
  obtain ⟨kb, kr, cr, rfl, c0, c1, c2, hr⟩ := h.o
  have x0 : w.cell? ⟨xb, 0, none⟩ = some (iv c.id) := hh.cellv 0 _ rfl
  have x2 : w.cell? ⟨xb, 2, none⟩ = some (iv c.x) := hh.cellv 2 _ rfl
  have n1 : kb ≠ xb := fun e => by subst e; rw [c2] at x2; cases x2
  have hl : 0 < L.length := by have := h.sh.1; omega
  have n2 : kr ≠ xb := fun e => by
    subst e
    obtain ⟨k, c', q1, _⟩ := hr 0 _ (List.getElem?_eq_getElem hl)
    rw [q1] at x0; cases x0
  refine ⟨h.sh, h.ok, kb, kr, cr, rfl, g.cell c0 (by simpa using n1), g.cell c1 (by simpa using n1), g.cell c2 (by simpa using n1), fun y l hy => ?_⟩
  obtain ⟨k, c', q1, q2⟩ := hr y l hy
  refine ⟨k, c', g.cell q1 (by simpa using n2), fun x u hu => g.cell (q2 x u hu) ?_⟩
  have n3 : k ≠ xb := fun e => by
    subst e
    have hx : 0 < l.length := by
      have := (List.getElem?_eq_some_iff.1 hu).1; omega
    have := q2 0 _ (List.getElem?_eq_getElem hx)
    rw [this] at x0; cases x0
  simpa using n3
set_option maxRecDepth 100000 in
set_option maxHeartbeats 4000000 in
theorem cellz_c (w : World) (x : Int) (h : In x) : Calls Tryd.prog 18 #[iv x] w fun e w' => e = .returned (iv (x / 524288)) ∧ w.grownBy w' none := by
  have HG : Keep (w.grownBy w none) := ⟨World.grownBy.refl w _⟩
  obtain ⟨h1, h2⟩ := h
  by_cases h0 : x < 0
  · have d0 : decide (x < 0) = true := decide_eq_true h0
    have p1 : x.tdiv 524288 = -((-x) / 524288) := by
      rw [← Int.tdiv_eq_ediv_of_nonneg (by omega : 0 ≤ -x), Int.neg_tdiv, Int.neg_neg]
    have p2 : x.tmod 524288 = -((-x) % 524288) := by
      rw [← Int.tmod_eq_emod_of_nonneg (by omega : 0 ≤ -x), Int.neg_tmod, Int.neg_neg]
    by_cases hm : x.tmod 524288 = 0
    · have e1 : x.tdiv 524288 = x / 524288 := by omega
      have k1 : IntKind.i64.wrap (x.tdiv 524288) = x / 524288 := by rw [e1]; exact wi _ (by omega) (by omega)
      have d1 : (x.tmod 524288 != 0) = false := by simp [hm]
      have d2 : (x.tmod 524288 == 0) = true := by simp [hm]
      have k2 : IntKind.i64.wrap (x.tmod 524288) = x.tmod 524288 := wi _ (by omega) (by omega)
      clear hm e1 p1 p2
      go_enter Tryd.func18, Tryd.ntmps18
      go_wp2_with fail
      go_ret
      exact ⟨rfl, HG.out⟩
    · have e1 : x.tdiv 524288 = x / 524288 + 1 := by omega
      obtain ⟨z, hz⟩ : ∃ z, x / 524288 = z := ⟨_, rfl⟩
      have k1 : IntKind.i64.wrap (x.tdiv 524288) = z + 1 := by rw [e1, hz]; exact wi _ (by omega) (by omega)
      have d1 : (x.tmod 524288 != 0) = true := by simp [hm]
      have d2 : (x.tmod 524288 == 0) = false := by simp [hm]
      have k2 : IntKind.i64.wrap (x.tmod 524288) = x.tmod 524288 := wi _ (by omega) (by omega)
      have k3 : IntKind.i64.wrap (z + 1 - 1) = z := by rw [show z + 1 - 1 = z by omega]; exact wi _ (by omega) (by omega)
      rw [hz]
      clear hm e1 p1 p2
      go_enter Tryd.func18, Tryd.ntmps18
      go_wp2_with fail
      go_ret
      exact ⟨rfl, HG.out⟩
  · have d0 : decide (x < 0) = false := decide_eq_false h0
    have k1 : IntKind.i64.wrap (x.tdiv 524288) = x / 524288 := by
      rw [Int.tdiv_eq_ediv_of_nonneg (by omega)]; exact wi _ (by omega) (by omega)
    go_enter Tryd.func18, Tryd.ntmps18
    go_wp2_with fail
    go_ret
    exact ⟨rfl, HG.out⟩
/-- a place in no wall lies on the board -/
theorem free_in {L : Bo} (he : ev L) {s : Sh} (h : slid L s = false) : (0 ≤ s.x ∧ s.x < 33554432) ∧ (0 ≤ s.y ∧ s.y < 33554432) := by
  have h1 : cel L (nm s.x) (nm s.y) ≠ 35 := fun e => by
    unfold slid atL at h
    rw [decide_eq_true e] at h
    cases h
  have h2 := cel_in h1
  have h3 := he.1
  have h4 := he.2.1
  unfold nm at h2
  constructor
  · split at h2 <;> omega
  · generalize (if s.x < 0 then -1 else min (s.x / 524288) 64) = q at h2
    split at h2 <;> omega
theorem near1 {x d : Int} (h : 0 ≤ x ∧ x < 33554432) (hd : -262144 ≤ d ∧ d ≤ 262144) : -1 ≤ addZ x d / 524288 - x / 524288 ∧ addZ x d / 524288 - x / 524288 ≤ 1 := by
  have e : addZ x d = x + d := by
    unfold addZ bd clampZ
    split <;> split <;> omega
  rw [e]
  omega
end Go.Proofs.YtmacmoikjgmaoaaDoor.Bo
