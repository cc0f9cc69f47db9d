/- a board stays when another block than its own is written -/
import Derived.Test.YtobdcngjpgndiabDoorBt
import Derived.Test.YtobdcngjpgndiabDoorC1
namespace Go.Proofs.YtobdcngjpgndiabDoor.Bo
open Go Go.RowKit

theorem Bd.keptX {w w' : World} {v : Value} {L : Bo} {xb : Nat} {c : Cr} {T : TypeId} (h : Bd w v L) (hh : Has w xb (crv c) T) (g : w.grownBy w' (some xb)) : Bd w' v L := by
  obtain ⟨kb, kr, cr, rfl, c0, c1, c2, hr⟩ := h.o
  have x0 : w.cell? ⟨xb, 0, none⟩ = some (iv c.pl) := hh.cellv 0 _ rfl
  have x2 : w.cell? ⟨xb, 2, none⟩ = some (iv c.x) := hh.cellv 2 _ rfl
  have n1 : kb ≠ xb := fun e => by subst e; rw [c2] at x2; cases x2
  have hl : 0 < L.length := by have := h.sh.1; omega
  have n2 : kr ≠ xb := fun e => by
    subst e
    obtain ⟨k, c', q1, _⟩ := hr 0 _ (List.getElem?_eq_getElem hl)
    rw [q1] at x0; cases x0
  refine ⟨h.sh, h.ok, kb, kr, cr, rfl, g.cell c0 (by simpa using n1), g.cell c1 (by simpa using n1), g.cell c2 (by simpa using n1), fun y l hy => ?_⟩
  obtain ⟨k, c', q1, q2⟩ := hr y l hy
  refine ⟨k, c', g.cell q1 (by simpa using n2), fun x u hu => g.cell (q2 x u hu) ?_⟩
  have n3 : k ≠ xb := fun e => by
    subst e
    have hx : 0 < l.length := by
      have := (List.getElem?_eq_some_iff.1 hu).1; omega
    have := q2 0 _ (List.getElem?_eq_getElem hx)
    rw [this] at x0; cases x0
  simpa using n3
theorem RB.keptX {w w' : World} {v : Value} {L : Bo} {xb : Nat} {c : Cr} {T : TypeId} (h : RB w v L) (hh : Has w xb (crv c) T) (g : w.grownBy w' (some xb)) : RB w' v L := by
  obtain ⟨kb, kr, cr, rfl, c0, hr⟩ := h.o
  have x0 : w.cell? ⟨xb, 0, none⟩ = some (iv c.pl) := hh.cellv 0 _ rfl
  have n1 : kb ≠ xb := fun e => by subst e; rw [c0] at x0; cases x0
  have hl : 0 < L.length := by have := h.sh.1; omega
  have n2 : kr ≠ xb := fun e => by
    subst e
    obtain ⟨k, c', _, q1, _⟩ := hr 0 hl
    rw [q1] at x0; cases x0
  refine ⟨h.sh, h.ok, kb, kr, cr, rfl, g.cell c0 (by simpa using n1), fun y hy => ?_⟩
  obtain ⟨k, c', q0, q1, q2⟩ := hr y hy
  refine ⟨k, c', q0, g.cell q1 (by simpa using n2), fun x hx => g.cell (q2 x hx) ?_⟩
  have n3 : k ≠ xb := fun e => by
    subst e
    have := q2 0 (by omega)
    rw [this] at x0; cases x0
  simpa using n3
end Go.Proofs.YtobdcngjpgndiabDoor.Bo
