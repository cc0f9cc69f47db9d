/- leaving a function whose loops ranged over functions. -/
import Derived.Test.YtflglflggeaokaaI2
namespace Go.Proofs.Ytflglflggeaokaa
open Go Go.RowKit Go.Shelf

theorem RS.cell {w W : World} {rb sz : Nat} {Q : List Int} {X : List (Nat × Value × TypeId)} {Ds : List Nat} (h : RS w W rb sz Q X Ds) (b : Nat) (u : Value) (t : TypeId) (hp : (b, u, t) ∈ X) : W.cell? ⟨b, 0, none⟩ = some u ∧ W.frozen? ⟨b, 0, none⟩ = false :=
  ⟨(h.x (b, u, t) hp).cellv 0 _ rfl, (h.x (b, u, t) hp).frozen _⟩
theorem range_good {pre : List Nat} {x : Nat} (h : pre = List.range pre.length) (hx : x = pre.length) : pre ++ [x] = List.range (pre ++ [x]).length := by
  rw [List.length_append, List.length_singleton, List.range_succ, hx, ← h]
theorem range_bad {pre : List Nat} {x : Nat} (hx : x ≠ pre.length) : ¬ (pre ++ [x] = List.range (pre ++ [x]).length) := by
  rw [List.length_append, List.length_singleton, List.range_succ]
  intro e
  have := List.append_inj_right' e rfl
  simp at this
  exact hx this
theorem run_result4 {fn : Func} {p : Tmp} (h : fn.results = #[.cell p 4]) (tmps : Array Value) (W : World) (b : Nat) (u : Bool) (hp : tmps.getD p undef = .pointer (some ⟨b, 0, none⟩)) (hb : Has W b [.bool u] 4) :
    (results fn tmps).run Try.prog W = .ok (.bool u) W := by
  rw [results_cell h, hp]
  have hc : W.cell? ⟨b, 0, none⟩ = some (.bool u) := hb.cellv 0 _ rfl
  simp [asAddr, Result.andThen, loadVar, go_sem, hc]
theorem leaves_marks {F : Fence} {n : Nat} {fn : Func} {p : Tmp} (h : fn.results = #[.cell p 4]) (tmps : Array Value) (b : Nat) (u : Bool) (hp : tmps.getD p undef = .pointer (some ⟨b, 0, none⟩)) (w : World) : ∀ (Ds : List Nat) (W : World), Ds.Nodup → (∀ D ∈ Ds, W.heap[D]? = some (.deferred (some [])) ∧ w.heap.size ≤ D) → Has W b [.bool u] 4 → w.grownBy W none →
    LeavesInM F n Try.prog fn tmps (fun e w' => e = .returned (.bool u) ∧ w.grownBy w' none) (Ds.map fun D => { target := .collected D, args := #[] }) .returning W
  | [], W, _, _, hb, hg => ⟨_, run_result4 h tmps W b u hp hb, rfl, hg⟩
  | D :: Ds, W, hn, hD, hb, hg => by
    have h1 := hD D (by simp)
    have hn2 := List.nodup_cons.1 hn
    have hgp := grownBy_putObj' W D (.deferred none)
    have hne : b ≠ D := fun e => by
      subst e
      have := h1.1
      unfold Has at hb
      rw [hb] at this; cases this
    refine ⟨by simp, .inl ⟨D, _, rfl, run_takeDeferred h1.1, ?_⟩⟩
    refine leaves_marks h tmps b u hp w Ds _ hn2.2 (fun E hE => ⟨?_, (hD E (by simp [hE])).2⟩) (hb.kept hgp (by simpa using hne)) (fr_mine hg (Fr.of hgp) (fun i e => by cases e; exact h1.2))
    have h2 := (hD E (by simp [hE])).1
    rw [hgp.block E (Array.getElem?_eq_some_iff.1 h2).1 (by simp; rintro rfl; exact hn2.1 hE), h2]
theorem leaves_ret {F : Fence} {n : Nat} {fn : Func} {p : Tmp} {a : Act} (h : fn.results = #[.cell p 4]) (b : Nat) (u : Bool) (hp : a.tmps.getD p undef = .pointer (some ⟨b, 0, none⟩)) (w W : World) (Ds : List Nat) (hds : a.defers = Ds.map fun D => { target := .collected D, args := #[] }) (hn : Ds.Nodup) (hD : ∀ D ∈ Ds, W.heap[D]? = some (.deferred (some [])) ∧ w.heap.size ≤ D) (hb : Has W b [.bool u] 4) (hg : w.grownBy W none) :
    bodyPostM F n Try.prog fn (fun e w' => e = .returned (.bool u) ∧ w.grownBy w' none) .ret a W := by
  show LeavesInM _ _ _ _ _ _ a.defers .returning W
  rw [hds]
  exact leaves_marks h a.tmps b u hp w Ds W hn hD hb hg

/-- what the body of such a function must achieve, where it never panics -/
def bodyPostN (fn : Func) (R : Ending → World → Prop) : Exit → Act → World → Prop
  | .normal, a, w => bodyPostM Fence.wide 8 Try.prog fn R .normal a w
  | .ret, a, w => bodyPostM Fence.wide 8 Try.prog fn R .ret a w
  | .panic _, _, _ => False
  | .outgrown, _, _ => False
  | .exit _, _, _ => False
  | .goto _, _, _ => False
theorem calls_of_wpN {f : FuncId} {fn : Func} {c : Code} {args : Array Value} {w : World} {R : Ending → World → Prop} (hf : Try.prog.funcs[f]? = some fn) (hb : fn.body = some c)
    (h : c.wpIn Fence.wide 8 Try.prog (bodyPostN fn R) { tmps := args ++ Array.replicate (fn.ntmps - args.size) undef, defers := [] } w) : Calls Try.prog f args w R := by
  refine (callsIn_wide (n := 8)).1 (callsIn_of_wp_marks hf hb trivial (wpIn_mono h ?_) rfl)
  intro e a w hq
  cases e with
  | normal => exact hq
  | ret => exact hq
  | panic c => exact hq.elim
  | outgrown => exact hq.elim
  | exit i => exact hq.elim
  | goto t => exact hq.elim
theorem leaves_retN {fn : Func} {p : Tmp} {a : Act} (h : fn.results = #[.cell p 4]) (b : Nat) (u : Bool) (hp : a.tmps.getD p undef = .pointer (some ⟨b, 0, none⟩)) (w W : World) (Ds : List Nat) (hds : a.defers = Ds.map fun D => { target := .collected D, args := #[] }) (hn : Ds.Nodup) (hD : ∀ D ∈ Ds, W.heap[D]? = some (.deferred (some [])) ∧ w.heap.size ≤ D) (hb : Has W b [.bool u] 4) (hg : w.grownBy W none) :
    bodyPostN fn (fun e w' => e = .returned (.bool u) ∧ w.grownBy w' none) .ret a W := leaves_ret h b u hp w W Ds hds hn hD hb hg
end Go.Proofs.Ytflglflggeaokaa
