/- a call that only reads may be taken first in a region that draws its order. -/
import Derived.Deep.RegionHeld
namespace Go.Proofs.Ytfhhneibdmjfgaa
open Go
section
variable {P : Program} {ops : Array Oper} {Q : Exit → Act → World → Prop} {md : Region.Mode} {S : World → Prop}
/-- in every world of S the call gives v and leaves the world -/
structure Reads (P : Program) (ops : Array Oper) (S : World → Prop) (o : Oper) (v : Value) (a : Act) : Prop where
  want : Region.wanted o (yielded ops a.tmps) = true
  call : ∃ f args, (∀ w, (execOp a.eval o).run P w = .ok (.enter f args) w) ∧ ∀ w, S w → Calls P f args w fun e w' => e = .returned v ∧ w' = w
set_option maxRecDepth 100000 in
theorem Reads.like {o : Oper} {v : Value} {a b : Act} (h : Reads P ops S o v a) (he : execOp b.eval o = execOp a.eval o) (hw : Region.wanted o (yielded ops b.tmps) = Region.wanted o (yielded ops a.tmps)) : Reads P ops S o v b :=
  ⟨hw.trans h.want, by rw [he]; exact h.call⟩
set_option maxRecDepth 100000 in
theorem Reads.now {i : Nat} {o : Oper} {v : Value} {a : Act} (hi : ops[i]? = some o) (h : Reads P ops S o v a) {K : Act → World → Prop} {w : World} (hS : S w) (hK : K (a.put o.dst v) w) : wpOp P ops Q i K a w := by
  obtain ⟨f, args, he, hc⟩ := h.call
  unfold wpOp
  rw [hi]
  show (if _ then _ else _)
  rw [if_pos h.want]
  refine .inl ?_
  unfold Oper.wp
  rw [he w]
  refine (hc w hS).mono ?_
  rintro e w' ⟨rfl, rfl⟩
  exact hK
/-- what one operation does is the same whether or not the other's value is there already -/
theorem beside {j : Nat} {oi oj : Oper} {v : Value} (hj : ops[j]? = some oj) (hap : oi.apart ops oj = true) (hsi : ∀ cs b, oi.op ≠ .select cs b) (hsj : ∀ cs b, oj.op ≠ .select cs b)
    (hQ : ∀ c a w, Q (.panic c) (a.put oi.dst v) w → Q (.panic c) a w) {K : Act → World → Prop} {a : Act} {w : World} (hr : Reads P ops S oi v a) (h : wpOp P ops Q j K (a.put oi.dst v) w) :
    wpOp P ops Q j (fun b w' => Reads P ops S oi v b ∧ K (b.put oi.dst v) w') a w := by
  obtain ⟨d1, d2, d3⟩ := Oper.apart_spec hap
  have stay : ∀ b : Act, Reads P ops S oi v b → ∀ x, Reads P ops S oi v (b.put oj.dst x) := fun b hb x => hb.like (execOp_put oi hsi b oj.dst x d3) (wanted_put oi b oj.dst x d3)
  have eqE := execOp_put oj hsj a oi.dst v d1
  have eqW := wanted_put oj a oi.dst v d1
  have sw : ∀ x, (a.put oi.dst v).put oj.dst x = (a.put oj.dst x).put oi.dst v := fun x => Act.put_comm a v x d2
  unfold wpOp at h ⊢
  rw [hj] at h ⊢
  change (if _ then _ else _) at h
  show (if _ then _ else _)
  rw [eqW] at h
  by_cases hw : Region.wanted oj (yielded ops a.tmps) = true
  · rw [if_pos hw] at h ⊢
    rcases h with h | ⟨h1, h2⟩
    · left
      unfold Oper.wp at h ⊢
      rw [eqE] at h
      revert h
      generalize (execOp a.eval oj).run P w = res
      intro h
      match res, h with
      | .ok (.value x) w', h => exact ⟨stay a hr x, by rw [← sw x]; exact h⟩
      | .ok .skip w', h => exact ⟨stay a hr undef, by rw [← sw undef]; exact h⟩
      | .ok (.defer d) w', h =>
        refine ⟨stay { a with defers := d :: a.defers } (hr.like rfl rfl) undef, ?_⟩
        rw [← Act.put_comm _ v undef d2, ← Act.put_defers]
        exact h
      | .ok (.enter f args) w', h =>
        refine Calls.mono h ?_
        intro e w2 he
        match e, he with
        | .returned x, he => exact ⟨stay a hr x, by rw [← sw x]; exact he⟩
        | .panicked c, he => exact hQ _ _ _ he
        | .outgrown, he => exact he
      | .ok (.row r args) w', h => exact Rows.mono h fun x w2 he => ⟨stay a hr x, by rw [← sw x]; exact he⟩
      | .halt x w', h =>
        cases x
        case panic c => exact hQ _ _ _ h
        all_goals exact h
    · refine .inr ⟨?_, h2⟩
      unfold Oper.asks at h1 ⊢
      rw [eqE] at h1
      exact h1
  · rw [if_neg hw] at h ⊢
    exact ⟨stay a hr undef, by rw [← sw undef]; exact h⟩
set_option maxRecDepth 100000 in
theorem call_core {i : Nat} {oi : Oper} {v : Value} (hi : ops[i]? = some oi) (hsel : ∀ (j : Nat) (o : Oper) cs b, ops[j]? = some o → o.op ≠ .select cs b) (hQ : ∀ c a w, Q (.panic c) (a.put oi.dst v) w → Q (.panic c) a w) :
    ∀ (n : Nat) (L : Array Bool) (a : Act) (w : World), (∀ j oj, ops[j]? = some oj → j ≠ i → L.getD j true = false → (∀ e ∈ oj.after, Region.binds md e = true → e.on ≠ i) → oi.apart ops oj = true) →
      i ∈ Region.ready md ops L → Reads P ops S oi v a → S w → wpAnyH P md ops Q S n (L.setIfInBounds i true) (a.put oi.dst v) w → wpAnyH P md ops Q S (n + 1) L a w
  | n, L, a, w, hfree, hri, hr, hS, H => by
    refine ⟨fun h => (by rw [h] at hri; cases hri), fun j hj => ?_⟩
    by_cases hji : j = i
    · subst hji
      exact hr.now hi hS ⟨hS, H⟩
    have hj2 := ready_mono hj hji
    match n, H with
    | 0, H => rw [H.1] at hj2; cases hj2
    | n + 1, H =>
      obtain ⟨hjl, oj, hoj, hedge⟩ := mem_ready.1 hj
      have hno : ∀ e ∈ oj.after, Region.binds md e = true → e.on ≠ i := by
        intro e he hb heq
        have x1 := hedge e he hb
        have x0 := (mem_ready.1 hri).1
        rw [heq] at x1
        by_cases hlt : i < L.size
        · simp [hlt] at x0 x1
          rw [x0] at x1
          cases x1
        · simp [Array.getElem?_eq_none (Nat.le_of_not_lt hlt)] at x1
      have x2 := beside hoj (hfree j oj hoj hji hjl hno) (fun cs b => hsel i oi cs b hi) (fun cs b => hsel j oj cs b hoj) hQ hr (H.2 j hj2)
      refine wpOp_mono (fun b w' hb => ⟨hb.2.1, call_core hi hsel hQ n (L.setIfInBounds j true) b w' ?_ (ready_mono hri (Ne.symm hji)) hb.1 hb.2.1 ?_⟩) x2
      · intro k ok hk hki hun hnk
        refine hfree k ok hk hki ?_ hnk
        by_cases hjk : j = k
        · subst hjk; exact hjl
        · rwa [getD_set_ne true hjk] at hun
      · rw [Array.setIfInBounds_comm _ _ hji]
        exact hb.2.2
/-- the call comes first -/
theorem wpAnyH_call {i : Nat} {oi : Oper} {v : Value} {n : Nat} {L : Array Bool} {a : Act} {w : World} (hi : ops[i]? = some oi) (hs : Region.noSelect ops = true) (hf : Region.free md ops L i = true) (hri : (Region.ready md ops L).contains i = true)
    (hQ : ∀ c a w, Q (.panic c) (a.put oi.dst v) w → Q (.panic c) a w) (hr : Reads P ops S oi v a) (hS : S w) (h : wpAnyH P md ops Q S n (L.setIfInBounds i true) (a.put oi.dst v) w) : wpAnyH P md ops Q S (n + 1) L a w :=
  call_core hi (Region.noSelect_spec hs) hQ n L a w (Region.free_spec hi hf) (by simpa using hri) hr hS h
end
end Go.Proofs.Ytfhhneibdmjfgaa
