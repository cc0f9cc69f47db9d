import Derived.Test.YtplcicbpkbamnabGreatDoorX43
import Derived.Test.YtplcicbpkbamnabGreatDoorX45
import Derived.Test.YtplcicbpkbamnabGreatDoorX29
/- LobbyPlays: two lobbies that may be there; both are new -/
namespace Go.Proofs.YtplcicbpkbamnabGreatDoor.Lo
open Go Go.RowKit Go.Maps

theorem bt_new {c : Cf} {P : List Pr} {X : Lb} (h : newL c P = some X) : Bt X ⟨c, P, []⟩ := by
  obtain ⟨h1, h2, _, _⟩ := new_ok h
  have h0 := h
  unfold newL at h
  split at h
  · rename_i q
    obtain ⟨A, hA, rfl⟩ := Option.map_eq_some_iff.1 h
    have hA' := hA
    unfold cpyL at hA'
    split at hA'
    · cases hA'
    · obtain ⟨e, hr⟩ := cpy_all P [] A hA'
      refine ⟨⟨rfl, by rw [List.nil_append] at e; exact e, ?_, rfl, rfl, ?_, rfl, fun i x hx => by simp at hx, fun x hx => by simp at hx⟩, h1, h2, by show (0 : Nat) < 900000; omega, fun x hx => by simp at hx, fun a ha => ?_, ?_⟩
      · show (c.ses.toNat : Int) = c.ses
        have := q.2.1; omega
      · show (c.idle.toNat : Int) = c.idle
        have := q.2.2; omega
      · have ha : a ∈ A := ha
        rw [e, List.nil_append] at ha
        obtain ⟨p, hp, rfl⟩ := List.mem_map.1 ha
        obtain ⟨i, hi, ei⟩ := List.getElem_of_mem hp
        have := (new_at h0 (i := i) (p := p) (by rw [List.getElem?_eq_getElem hi, ei])).2.2
        obtain ⟨_, k2, _⟩ := hr i p (by rw [List.getElem?_eq_getElem hi, ei])
        unfold Na.chkOK at k2
        simp only [Bool.and_eq_true, decide_eq_true_eq] at k2
        have := k2.1.1.2
        show p.1.size ≤ 1048576
        omega
      · show c.idle.toNat ≤ 100000
        have := q.2.2; omega
  · cases h
/-- two lobbies, the package's and the reference's, or none -/
structure Sl where
  lb : Nat
  kb : Nat
  X : Lb
  Y : Rl
def slA : Option Sl → List As
  | none => []
  | some s => [lobA s.lb s.X, rlobA s.kb s.Y]
def slL : Option Sl → Value
  | none => np
  | some s => pt s.lb
def slK : Option Sl → Value
  | none => np
  | some s => pt s.kb
/-- fine behind m calls -/
def SlOk (m : Nat) : Option Sl → Prop
  | none => True
  | some s => Bt s.X s.Y ∧ s.Y.S.length ≤ m ∧ ∀ x ∈ s.Y.S, x.L.length ≤ m
theorem SlOk.le {m n : Nat} {s : Option Sl} (h : SlOk m s) (hl : m ≤ n) : SlOk n s := by
  cases s with
  | none => trivial
  | some s => exact ⟨h.1, by have := h.2.1; omega, fun x hx => Nat.le_trans (h.2.2 x hx) hl⟩
/-- one call at it -/
theorem sl_play (w0 W : World) (l : List As) (s : Sl) (m : Nat) (o : Opr) (h : Sep w0 W (lobA s.lb s.X :: rlobA s.kb s.Y :: l)) (hs : SlOk m (some s)) (hm : m < 300) (os : OpS o) (wc : Wc w0) :
    Calls Tryz.prog 7 #[pt s.lb, pt s.kb, .agg (opv o).toArray] W fun e W' => e = .returned (.bool true) ∧ ∃ s', s'.lb = s.lb ∧ s'.kb = s.kb ∧ Sep w0 W' (lobA s.lb s'.X :: rlobA s.kb s'.Y :: l) ∧ SlOk (m + 1) (some s') :=
  (plays_all w0 W l s.lb s.kb s.X s.Y o h hs.1 os wc).mono fun e W' ⟨he, Y', q1, q2, q3, q4⟩ => by
    have hmk := q4 m hs.2.2
    exact ⟨he, ⟨s.lb, s.kb, actX s.X o, Y'⟩, rfl, rfl, q1, hs.1.act os q2 q3 (by have := hs.2.1; omega) (fun x hx => by have := hmk x hx; omega), by show Y'.S.length ≤ m + 1; have := hs.2.1; omega, hmk⟩
end Go.Proofs.YtplcicbpkbamnabGreatDoor.Lo

