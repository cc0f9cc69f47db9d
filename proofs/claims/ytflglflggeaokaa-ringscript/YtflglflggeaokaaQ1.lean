/- regions that only read, in a round. -/
import Derived.Test.YtflglflggeaokaaI4
import Derived.Sort.QuietTacIn
namespace Go.Proofs.Ytflglflggeaokaa
open Go Go.RowKit Go.Shelf

/-- no operation of these is a defer -/
def noDefer (l : List Oper) : Bool := l.all fun o => match o.op with | .defer _ => false | _ => true
theorem noDefer_at {l : List Oper} (h : noDefer l = true) (i : Nat) (o : Oper) (ho : l.toArray[i]? = some o) (c : Call) : o.op ≠ .defer c := by
  intro e
  have hm : o ∈ l := by simpa using Array.mem_of_getElem? ho
  have := List.all_eq_true.1 h o hm
  simp [e] at this
theorem upon_round {F : Fence} {n : Nat} {P : Program} {o : Oper} {a : Act} {next next' : Act → World → Prop} {Q : Exit → Act → World → Prop} (l : Nat) (hn : ∀ a w, next a w → next' a w) (r : Result Next) (h : o.uponIn F n P a next Q r) : o.uponIn (F.inRound l) n P a next' Q r := by
  cases r with
  | halt e w =>
    cases e with
    | panic v => exact h
    | _ => exact h.elim
  | ok x w =>
    cases x with
    | value v => exact hn _ _ h
    | skip => exact hn _ _ h
    | defer d => exact hn _ _ h
    | enter f args =>
      refine ⟨h.1, (CallsIn.inRound l h.2).mono ?_⟩
      rintro e w' hq
      cases e with
      | returned v => exact hn _ _ hq
      | panicked c => exact hq
      | outgrown => exact hq
    | row row args => exact ⟨h.1, fun c cs hr => let ⟨x, y, z, q⟩ := h.2 c cs hr; ⟨x, y, hn _ _ z, q⟩⟩
    | round l2 f tmps assign body =>
      refine ⟨h.1, RoundIn.mono (R := _) (show RoundIn (F.inRound l) _ _ _ _ _ _ _ _ _ from h.2) ?_⟩
      rintro e w' hq
      cases e with
      | returned v => exact hn _ _ hq
      | panicked c => exact hq
      | outgrown => exact hq
    | _ => exact h.elim
theorem ops_round {F : Fence} {n : Nat} {P : Program} {ops : Array Oper} {Q : Exit → Act → World → Prop} (hro : F.round = none) (l : Nat) (hnd : ∀ (i : Nat) (o : Oper), ops[i]? = some o → ∀ (c : Call), o.op ≠ .defer c) : ∀ (idx : List Nat) (a : Act) (w : World), wpOpsIn F n P ops Q idx a w → wpOpsIn (F.inRound l) n P ops Q idx a w
  | [], _, _, h => h
  | i :: rest, a, w, h => by
    unfold wpOpsIn at h ⊢
    cases ho : ops[i]? with
    | none => simp only [ho] at h ⊢; exact ops_round hro l hnd rest a w h
    | some o =>
      simp only [ho] at h ⊢
      by_cases hw : Region.wanted o (yielded ops a.tmps) = true
      · simp only [hw, if_true] at h ⊢
        refine ⟨h.1, ?_⟩
        have h2 := h.2
        rw [Oper.semAt_eq _ _ _ (hnd i o ho)] at h2 ⊢
        exact upon_round l (fun a w q => ops_round hro l hnd rest a w q) _ h2
      · simp only [hw] at h ⊢
        exact ⟨h.1, ops_round hro l hnd rest _ w h.2⟩
theorem quiet_round {n : Nat} {P : Program} {id lp : Nat} {Q : Exit → Act → World → Prop} {a : Act} {w : World} {l : List Oper} (hm : P.follows .mixedOrders = true) (hB : Region.lexB .any l.toArray = true) (hnd : noDefer l = true)
    (h : wpQuietIn Fence.wide n P l.toArray (fun w' => ∃ n, w' = w.drewN n) (fun a' => ∀ w', (∃ n, w' = w.drewN n) → Q .normal a' w') l a) : (Code.region id l.toArray true).wpIn (Fence.wide.inRound lp) n P Q a w := by
  simp only [Region.lexB, Bool.and_eq_true] at hB
  refine wpIn_region_draw fun t => ?_
  simp only [Region.schedule, hm, Bool.true_or, if_true]
  refine ops_round rfl lp (noDefer_at hnd) _ _ _ (wpAnyIn_sound _ t _ a _ (wpAnyIn_of_quiet (C := fun w' => ∃ n, w' = w.drewN n) (Q := fun a' => ∀ w', (∃ n, w' = w.drewN n) → Q .normal a' w') rfl (fun _ w' hw' h => h w' hw') _ _ _ _ ⟨1, rfl⟩ ?_))
  have := wpAnyQIn_lex (F := Fence.wide) (n := n) (C := fun w' => ∃ n, w' = w.drewN n) (md := .any) hB.1 l 0 (Array.replicate l.toArray.size false) a (by simp) (by simpa using hB.2) h
  simpa using this
end Go.Proofs.Ytflglflggeaokaa
