/- regions that call, in a round. -/
import Derived.Test.YtflglflggeaokaaQ1
import Derived.Deep.RegionHeld
namespace Go.Proofs.Ytflglflggeaokaa
open Go Go.RowKit Go.Shelf

theorem upon_wide {n : Nat} {P : Program} {o : Oper} {a : Act} {next next' : Act → World → Prop} {Q : Exit → Act → World → Prop} (l : Nat) (hn : ∀ a w, next a w → next' a w) (r : Result Next) (h : o.upon P a next Q r) : o.uponIn (Fence.wide.inRound l) n P a next' Q r := by
  cases r with
  | halt e w =>
    cases e with
    | panic v => exact h
    | _ => exact h.elim
  | ok x w =>
    cases x with
    | value v => exact hn _ _ h
    | skip => exact hn _ _ h
    | defer d => exact hn _ _ h
    | enter f args =>
      refine ⟨fun e => (by cases e), (CallsIn.inRound l (callsIn_wide.2 h)).mono ?_⟩
      rintro e w' hq
      cases e with
      | returned v => exact hn _ _ hq
      | panicked c => exact hq
      | outgrown => exact hq
    | row row args => exact ⟨fun e => (by cases e), fun c cs _ => let ⟨v, w', r, s⟩ := h c cs; ⟨v, w', hn _ _ r, stepsIn_wide.2 s⟩⟩
    | _ => exact h.elim
theorem ops_wide {n : Nat} {P : Program} {ops : Array Oper} {Q : Exit → Act → World → Prop} (l : Nat) (hq : ¬ LetsOut Q) (hnd : ∀ (i : Nat) (o : Oper), ops[i]? = some o → ∀ (c : Call), o.op ≠ .defer c) : ∀ (idx : List Nat) (a : Act) (w : World), wpOps P ops Q idx a w → wpOpsIn (Fence.wide.inRound l) n P ops Q idx a w
  | [], _, _, h => h
  | i :: rest, a, w, h => by
    rw [wpOps_cons] at h
    unfold wpOp at h
    unfold wpOpsIn
    cases ho : ops[i]? with
    | none => simp only [ho] at h ⊢; exact ops_wide l hq hnd rest a w h
    | some o =>
      simp only [ho] at h ⊢
      by_cases hw : Region.wanted o (yielded ops a.tmps) = true
      · simp only [hw, if_true] at h ⊢
        rcases h with h | h
        · refine ⟨fun _ _ => trivial, ?_⟩
          unfold Oper.wp at h
          rw [Oper.semAt_eq _ _ _ (hnd i o ho)]
          exact upon_wide l (fun a w q => ops_wide l hq hnd rest a w q) _ h
        · exact absurd h.2 hq
      · simp only [hw] at h ⊢
        exact ⟨fun _ _ => trivial, ops_wide l hq hnd rest _ w h⟩
theorem held_round {n : Nat} {P : Program} {id lp : Nat} {Q : Exit → Act → World → Prop} {a : Act} {w : World} {l : List Oper} {S : World → Prop} (hm : P.follows .mixedOrders = true) (hnd : noDefer l = true) (hq : ¬ LetsOut Q) (hS : S w.drew)
    (h : S w.drew → wpAnyH P .any l.toArray Q S l.toArray.size (Array.replicate l.toArray.size false) a w.drew) : (Code.region id l.toArray true).wpIn (Fence.wide.inRound lp) n P Q a w := by
  refine wpIn_region_draw fun t => ?_
  simp only [Region.schedule, hm, Bool.true_or, if_true]
  exact ops_wide lp hq (noDefer_at hnd) _ _ _ (wpAny_sound _ t _ a _ (wpAny_of_held _ _ _ _ (h hS)))
theorem no_out {α : Type} {B : Nat} {Kp : World → World → Prop} {I : List α → World → Prop} {Ix : Code → List α → World → Prop} {xs : List α} {W : World} : ¬ LetsOut (ownPostG B Kp I Ix xs W) := fun ⟨_, _, h⟩ => h
end Go.Proofs.Ytflglflggeaokaa
