/- what a drive leaves as it was, and how far it goes -/
import Derived.Test.YtobdcngjpgndiabDoorC5
namespace Go.Proofs.YtobdcngjpgndiabDoor.Bo
open Go Go.RowKit

/-- what a drive does not touch -/
structure Kpt (c d : Cr) : Prop where
  pl : d.pl = c.pl
  nm : d.nm = c.nm
  he : d.he = c.he
  am : d.am = c.am
  co : d.co = c.co
  wa : d.wa = c.wa
  sp : d.sp = c.sp
  sc : d.sc = c.sc
theorem Kpt.refl (c : Cr) : Kpt c c := ⟨rfl, rfl, rfl, rfl, rfl, rfl, rfl, rfl⟩
theorem Kpt.trans {a b c : Cr} (h : Kpt a b) (k : Kpt b c) : Kpt a c := ⟨k.pl.trans h.pl, k.nm.trans h.nm, k.he.trans h.he, k.am.trans h.am, k.co.trans h.co, k.wa.trans h.wa, k.sp.trans h.sp, k.sc.trans h.sc⟩
theorem kpt_B (c : Cr) (i : It) : Kpt c (stB c i) := by unfold stB; split <;> exact ⟨rfl, rfl, rfl, rfl, rfl, rfl, rfl, rfl⟩
theorem kpt_X (L : Bo) (c : Cr) : Kpt c (stX L c) := by unfold stX; split <;> exact ⟨rfl, rfl, rfl, rfl, rfl, rfl, rfl, rfl⟩
theorem kpt_Y (L : Bo) (c : Cr) : Kpt c (stY L c) := by unfold stY; split <;> exact ⟨rfl, rfl, rfl, rfl, rfl, rfl, rfl, rfl⟩
/-- the car ahead of its moves -/
def ahd (c : Cr) (i : It) : Cr := stL (stS (stP (stB (stH c i) i) (pwB (stH c i) i (pw0 i))))
theorem kpt_ahd (c : Cr) (i : It) : Kpt c (ahd c i) := by
  have h := kpt_B (stH c i) i
  exact ⟨h.pl, h.nm, h.he, h.am, h.co, h.wa, h.sp, h.sc⟩
theorem ahd_at (c : Cr) (i : It) : (ahd c i).x = c.x ∧ (ahd c i).y = c.y ∧ (ahd c i).hd = (stH c i).hd := by
  have h := stB_f (stH c i) i
  exact ⟨h.2.2.1, h.2.2.2.1, h.2.2.2.2⟩
theorem ahd_sp (c : Cr) (i : It) : (-65536 ≤ (ahd c i).sx ∧ (ahd c i).sx ≤ 65536) ∧ (-65536 ≤ (ahd c i).sy ∧ (ahd c i).sy ≤ 65536) := ⟨kz16 _, kz16 _⟩
theorem ahd_en (c : Cr) (i : It) (h : In c.en) : In (ahd c i).en := by
  show In (stB (stH c i) i).en
  unfold stB
  split
  · rename_i hb
    unfold bst at hb
    simp only [Bool.and_eq_true, decide_eq_true_eq] at hb
    have h4 : 4 ≤ c.en := hb.2
    obtain ⟨h1, h2⟩ := h
    show In (c.en - 4)
    exact ⟨by omega, by omega⟩
  · exact h
theorem drv_go {L : Bo} {c : Cr} (h : ¬ 0 < c.wa) (i : It) : drvC L c i = stY L (stX L (ahd c i)) := by unfold drvC; rw [if_neg h]; rfl
theorem drv_kpt (L : Bo) (c : Cr) (i : It) : Kpt c (drvC L c i) := by
  by_cases h : 0 < c.wa
  · unfold drvC; rw [if_pos h]; exact Kpt.refl c
  · rw [drv_go h]; exact ((kpt_ahd c i).trans (kpt_X L _)).trans (kpt_Y L _)
theorem drv_wreck {L : Bo} {c : Cr} (h : 0 < c.wa) (i : It) : drvC L c i = c := by unfold drvC; rw [if_pos h]
/-- free stays free -/
theorem drv_free {L : Bo} {c : Cr} (i : It) (h : ¬ blk L (c.x, c.y) 98304) : ¬ blk L ((drvC L c i).x, (drvC L c i).y) 98304 := by
  by_cases hw : 0 < c.wa
  · rw [drv_wreck hw]; exact h
  rw [drv_go hw]
  obtain ⟨hx, hy, _⟩ := ahd_at c i
  have h1 : ¬ blk L ((stX L (ahd c i)).x, (stX L (ahd c i)).y) 98304 := by
    unfold stX
    split
    · show ¬ blk L ((ahd c i).x, (ahd c i).y) 98304
      rw [hx, hy]; exact h
    · rename_i hb
      exact hb
  generalize stX L (ahd c i) = d at h1
  unfold stY
  split
  · exact h1
  · rename_i hb
    exact hb
theorem in64 (L : Bo) (he : ev L) {x y : Int} (h : ¬ blk L (x, y) 98304) : (0 ≤ x ∧ x ≤ 33554432) ∧ (0 ≤ y ∧ y ≤ 33554432) := by
  have b1 : 3 ≤ wd L ∧ wd L ≤ 64 := he.2.1
  have b2 : 3 ≤ L.length ∧ L.length ≤ 64 := he.1
  unfold blk at h
  rw [if_neg (by omega)] at h
  simp only [not_or, Decidable.not_not] at h
  obtain ⟨⟨q1, q2⟩, ⟨q3, q4⟩, _⟩ := h
  exact ⟨⟨by omega, by omega⟩, ⟨by omega, by omega⟩⟩
theorem addZ_mid {a s : Int} (h : 0 ≤ addZ a s ∧ addZ a s ≤ 33554432) : addZ a s = a + s := by
  unfold addZ at h ⊢
  rw [bd_eq] at h ⊢
  split at h
  · omega
  · rename_i h1
    rw [if_neg h1]
    split at h
    · omega
    · rename_i h2
      rw [if_neg h2]
/-- how far it goes -/
structure Far (c d : Cr) : Prop where
  sx : -65536 ≤ d.sx ∧ d.sx ≤ 65536
  sy : -65536 ≤ d.sy ∧ d.sy ≤ 65536
  hd : 0 ≤ d.hd ∧ d.hd ≤ 255
  x : d.x = c.x ∨ (-65536 ≤ d.x - c.x ∧ d.x - c.x ≤ 65536)
  y : d.y = c.y ∨ (-65536 ≤ d.y - c.y ∧ d.y - c.y ≤ 65536)
theorem drv_far {L : Bo} (he : ev L) {c : Cr} (h : ¬ 0 < c.wa) (i : It) : Far c (drvC L c i) := by
  rw [drv_go h]
  obtain ⟨hx, hy, hh⟩ := ahd_at c i
  obtain ⟨s1, s2⟩ := ahd_sp c i
  have hhd : 0 ≤ (ahd c i).hd ∧ (ahd c i).hd ≤ 255 := by
    rw [hh]
    show 0 ≤ (c.hd + min (max i.tu (-8)) 8) % 256 ∧ (c.hd + min (max i.tu (-8)) 8) % 256 ≤ 255
    omega
  generalize ahd c i = a at *
  have hX : (-65536 ≤ (stX L a).sx ∧ (stX L a).sx ≤ 65536) ∧ (stX L a).sy = a.sy ∧ (stX L a).hd = a.hd ∧ ((stX L a).x = c.x ∨ (-65536 ≤ (stX L a).x - c.x ∧ (stX L a).x - c.x ≤ 65536)) ∧ (stX L a).y = c.y := by
    unfold stX
    split
    · refine ⟨?_, rfl, rfl, .inl hx, hy⟩
      show -65536 ≤ -(a.sx / 2) ∧ -(a.sx / 2) ≤ 65536
      omega
    · rename_i hb
      refine ⟨s1, rfl, rfl, .inr ?_, hy⟩
      have := addZ_mid (in64 L he hb).1
      show -65536 ≤ addZ a.x a.sx - c.x ∧ addZ a.x a.sx - c.x ≤ 65536
      omega
  obtain ⟨x1, x2, x3, x4, x5⟩ := hX
  generalize stX L a = b at *
  unfold stY
  split
  · refine ⟨x1, ?_, by show 0 ≤ b.hd ∧ b.hd ≤ 255; omega, x4, .inl x5⟩
    show -65536 ≤ -(b.sy / 2) ∧ -(b.sy / 2) ≤ 65536
    omega
  · rename_i hb
    have := addZ_mid (in64 L he hb).2
    refine ⟨x1, by show -65536 ≤ b.sy ∧ b.sy ≤ 65536; omega, by show 0 ≤ b.hd ∧ b.hd ≤ 255; omega, x4, .inr ?_⟩
    show -65536 ≤ addZ b.y b.sy - c.y ∧ addZ b.y b.sy - c.y ≤ 65536
    omega
theorem in_half {s : Int} (h : -65536 ≤ s ∧ s ≤ 65536) : In (-(s / 2)) := ⟨by omega, by omega⟩
theorem drv_ok (L : Bo) {c : Cr} (ok : CrOk c) (i : It) : CrOk (drvC L c i) := by
  by_cases h : 0 < c.wa
  · rw [drv_wreck h]; exact ok
  have k := drv_kpt L c i
  rw [drv_go h] at k ⊢
  obtain ⟨hx, hy, hh⟩ := ahd_at c i
  obtain ⟨s1, s2⟩ := ahd_sp c i
  have hen := ahd_en c i ok.en
  have hhd : In (ahd c i).hd := by
    rw [hh]
    show In ((c.hd + min (max i.tu (-8)) 8) % 256)
    exact ⟨by omega, by omega⟩
  have oX : In (stX L (ahd c i)).x ∧ In (stX L (ahd c i)).y ∧ In (stX L (ahd c i)).sx ∧ (stX L (ahd c i)).sy = (ahd c i).sy ∧ (stX L (ahd c i)).hd = (ahd c i).hd ∧ (stX L (ahd c i)).en = (ahd c i).en := by
    unfold stX
    split
    · exact ⟨by show In (ahd c i).x; rw [hx]; exact ok.x, by show In (ahd c i).y; rw [hy]; exact ok.y, in_half s1, rfl, rfl, rfl⟩
    · exact ⟨addZ_in _ _, by show In (ahd c i).y; rw [hy]; exact ok.y, in_of16 s1, rfl, rfl, rfl⟩
  generalize ahd c i = a at *
  obtain ⟨o1, o2, o3, o4, o5, o6⟩ := oX
  generalize stX L a = b at *
  have oY : In (stY L b).x ∧ In (stY L b).y ∧ In (stY L b).sx ∧ In (stY L b).sy ∧ (stY L b).hd = b.hd ∧ (stY L b).en = b.en := by
    unfold stY
    split
    · exact ⟨o1, o2, o3, by show In (-(b.sy / 2)); rw [o4]; exact in_half s2, rfl, rfl⟩
    · exact ⟨o1, addZ_in _ _, o3, by show In b.sy; rw [o4]; exact in_of16 s2, rfl, rfl⟩
  obtain ⟨y1, y2, y3, y4, y5, y6⟩ := oY
  exact ⟨by rw [k.nm]; exact ok.nm, by rw [k.pl]; exact ok.pl, y1, y2, y3, y4, by rw [y5, o5]; exact hhd, by rw [k.he]; exact ok.he, by rw [y6, o6]; exact hen, by rw [k.am]; exact ok.am, by rw [k.co]; exact ok.co, by rw [k.wa]; exact ok.wa, by rw [k.sp]; exact ok.sp, by rw [k.sc]; exact ok.sc⟩
end Go.Proofs.YtobdcngjpgndiabDoor.Bo
