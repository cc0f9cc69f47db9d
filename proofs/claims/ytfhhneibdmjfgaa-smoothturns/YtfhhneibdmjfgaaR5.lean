/- regions that draw their order, and some of whose operations give some value of a kind (a number that is drawn, a call's answer): each is taken first, whatever it gives -/
import Derived.Test.YtfhhneibdmjfgaaR4
namespace Go.Proofs.Ytfhhneibdmjfgaa
open Go
section
variable {P : Program} {ops : Array Oper} {Q : Exit → Act → World → Prop} {md : Region.Mode} {S : World → Prop} {Z H : List Nat} {C : Nat → Value → Prop} {m : Nat}
/-- in every world of S the operation gives some v of F, and S stays -/
structure Some1 (P : Program) (ops : Array Oper) (S : World → Prop) (o : Oper) (F : Value → Prop) (a : Act) : Prop where
  want : Region.wanted o (yielded ops a.tmps) = true
  does : (∀ w, S w → ∃ v w', (execOp a.eval o).run P w = .ok (.value v) w' ∧ F v ∧ S w') ∨
    ∃ f args, (∀ w, (execOp a.eval o).run P w = .ok (.enter f args) w) ∧ ∀ w, S w → Calls P f args w fun e w' => ∃ v, e = .returned v ∧ F v ∧ S w'
theorem Some1.like {o : Oper} {F : Value → Prop} {a b : Act} (h : Some1 P ops S o F a) (he : execOp b.eval o = execOp a.eval o) (hw : Region.wanted o (yielded ops b.tmps) = Region.wanted o (yielded ops a.tmps)) : Some1 P ops S o F b :=
  ⟨hw.trans h.want, by rw [he]; exact h.does⟩
theorem Some1.now {i : Nat} {o : Oper} {F : Value → Prop} {a : Act} (hi : ops[i]? = some o) (h : Some1 P ops S o F a) {K : Act → World → Prop} {w : World} (hS : S w) (hK : ∀ v w', F v → S w' → K (a.put o.dst v) w') : wpOp P ops Q i K a w := by
  unfold wpOp
  rw [hi]
  show (if _ then _ else _)
  rw [if_pos h.want]
  refine .inl ?_
  unfold Oper.wp
  rcases h.does with hd | ⟨f, args, he, hc⟩
  · obtain ⟨v, w', hr, hv, hS'⟩ := hd w hS
    rw [hr]
    exact hK v w' hv hS'
  · rw [he w]
    refine (hc w hS).mono ?_
    rintro e w' ⟨v, rfl, hv, hS'⟩
    exact hK v w' hv hS'
/-- what it may give: one of H some value of C, any other one value -/
inductive May (P : Program) (ops : Array Oper) (S : World → Prop) (H : List Nat) (C : Nat → Value → Prop) (i : Nat) (o : Oper) (a : Act) : (Value → Prop) → Prop where
  | any1 (h : H.contains i = true) (g : Some1 P ops S o (C i) a) : May P ops S H C i o a (C i)
  | one (v : Value) (h : H.contains i = false) (g : YieldsIf P ops S o v a) : May P ops S H C i o a (fun x => x = v)
theorem yields_inj {o : Oper} {u v : Value} {a : Act} {w : World} (hS : S w) (h : YieldsIf P ops S o u a) (k : YieldsIf P ops S o v a) : u = v := by
  rcases h with ⟨h1, h2⟩ | ⟨h1, rfl⟩
  · rcases k with ⟨_, k2⟩ | ⟨k1, _⟩
    · have x := h2 w hS
      rw [k2 w hS] at x
      cases x
      rfl
    · rw [h1] at k1; cases k1
  · rcases k with ⟨k1, _⟩ | ⟨_, rfl⟩
    · rw [h1] at k1; cases k1
    · rfl
theorem May.inj {i : Nat} {o : Oper} {a : Act} {D E : Value → Prop} {w : World} (hS : S w) (h : May P ops S H C i o a D) (k : May P ops S H C i o a E) : D = E := by
  cases h with
  | any1 h g =>
    cases k with
    | any1 => rfl
    | one v k => rw [h] at k; cases k
  | one u h g =>
    cases k with
    | any1 k => rw [h] at k; cases k
    | one v k g' => rw [yields_inj hS g g']
theorem May.like {i : Nat} {o : Oper} {D : Value → Prop} {a b : Act} (h : May P ops S H C i o a D) (he : execOp b.eval o = execOp a.eval o) (hw : Region.wanted o (yielded ops b.tmps) = Region.wanted o (yielded ops a.tmps)) : May P ops S H C i o b D := by
  cases h with
  | any1 h g => exact .any1 h (g.like he hw)
  | one v h g => exact .one v h (g.of_same he hw)
theorem May.now {i : Nat} {o : Oper} {D : Value → Prop} {a : Act} (hi : ops[i]? = some o) (h : May P ops S H C i o a D) {K : Act → World → Prop} {w : World} (hS : S w) (hK : ∀ v w', D v → S w' → K (a.put o.dst v) w') : wpOp P ops Q i K a w := by
  cases h with
  | any1 h g => exact g.now hi hS hK
  | one v h g => exact g.wpOp hi hS (hK v w rfl hS)
/-- whatever order comes, whatever each of the n operations ahead of Z gives -/
def wpR (P : Program) (md : Region.Mode) (ops : Array Oper) (Q : Exit → Act → World → Prop) (S : World → Prop) (Z H : List Nat) (C : Nat → Value → Prop) (m : Nat) : Nat → Array Bool → Act → Prop
  | 0, L, a => (∀ j ∈ Region.ready md ops L, Z.contains j = true) ∧ ∀ w, S w → wpAny P md ops Q m L a w
  | n + 1, L, a => Region.ready md ops L ≠ [] ∧ ∀ i ∈ Region.ready md ops L, ∃ o D, ops[i]? = some o ∧ Z.contains i = false ∧ May P ops S H C i o a D ∧ ∀ v, D v → wpR P md ops Q S Z H C m n (L.setIfInBounds i true) (a.put o.dst v)
theorem plain_of_R : ∀ (n : Nat) (L : Array Bool) (a : Act) (w : World), S w → wpR P md ops Q S Z H C m n L a → wpAny P md ops Q (n + m) L a w
  | 0, _, _, _, hS, h => by rw [Nat.zero_add]; exact h.2 _ hS
  | n + 1, L, a, w, hS, h => by
    rw [Nat.add_right_comm]
    refine ⟨fun h0 => absurd h0 h.1, fun i hi => ?_⟩
    obtain ⟨o, D, ho, _, hg, hn⟩ := h.2 i hi
    exact hg.now ho hS fun v w' hv hS' => plain_of_R n _ _ w' hS' (hn v hv)
theorem takeR_core {i : Nat} {oi : Oper} {D : Value → Prop} {w0 : World} (hS : S w0) (hi : ops[i]? = some oi) (hsel : ∀ (j : Nat) (o : Oper) cs b, ops[j]? = some o → o.op ≠ .select cs b) (hz : awaited md ops Z i = true) (hzi : Z.contains i = false) (hv0 : ∃ v, D v) :
    ∀ (n : Nat) (L : Array Bool) (a : Act), (∀ j oj, ops[j]? = some oj → j ≠ i → L.getD j true = false → (∀ e ∈ oj.after, Region.binds md e = true → e.on ≠ i) → oi.apart ops oj = true) →
      i ∈ Region.ready md ops L → May P ops S H C i oi a D → (∀ v, D v → wpR P md ops Q S Z H C m n (L.setIfInBounds i true) (a.put oi.dst v)) → wpR P md ops Q S Z H C m (n + 1) L a
  | n, L, a, hfree, hri, hg, T => by
    refine ⟨fun h => (by rw [h] at hri; cases hri), fun j hj => ?_⟩
    by_cases hji : j = i
    · subst hji
      exact ⟨oi, D, hi, hzi, hg, T⟩
    obtain ⟨v0, hv0'⟩ := hv0
    have hj2 := ready_mono hj hji
    obtain ⟨hjl, oj, hoj, hedge⟩ := mem_ready.1 hj
    have hno : ∀ e ∈ oj.after, Region.binds md e = true → e.on ≠ i := by
      intro e he hb heq
      have x1 := hedge e he hb
      have x0 := (mem_ready.1 hri).1
      rw [heq] at x1
      by_cases hlt : i < L.size
      · simp [hlt] at x0 x1
        rw [x0] at x1
        cases x1
      · simp [Array.getElem?_eq_none (Nat.le_of_not_lt hlt)] at x1
    have hjz : Z.contains j = false := by
      cases q : Z.contains j
      · rfl
      · obtain ⟨e, he, h2, h3⟩ := awaited_spec hz hoj q
        exact absurd h3 (hno e he h2)
    match n, T with
    | 0, T =>
      have := (T v0 hv0').1 j hj2
      rw [hjz] at this
      cases this
    | n + 1, T =>
      obtain ⟨d1, d2, d3⟩ := Oper.apart_spec (hfree j oj hoj hji hjl hno)
      have hsi : ∀ cs b, oi.op ≠ .select cs b := fun cs b => hsel i oi cs b hi
      have hsj : ∀ cs b, oj.op ≠ .select cs b := fun cs b => hsel j oj cs b hoj
      have back : ∀ v E, May P ops S H C j oj (a.put oi.dst v) E → May P ops S H C j oj a E := fun v E h => h.like (execOp_put oj hsj a oi.dst v d1).symm (wanted_put oj a oi.dst v d1).symm
      obtain ⟨o', E, ho', _, hg', _⟩ := (T v0 hv0').2 j hj2
      obtain rfl : oj = o' := by rw [hoj] at ho'; exact Option.some.inj ho'
      refine ⟨oj, E, hoj, hjz, back _ _ hg', fun vj hvj => takeR_core hS hi hsel hz hzi ⟨v0, hv0'⟩ n (L.setIfInBounds j true) (a.put oj.dst vj) ?_ (ready_mono hri (Ne.symm hji)) (hg.like (execOp_put oi hsi a oj.dst vj d3) (wanted_put oi a oj.dst vj d3)) fun v hv => ?_⟩
      · intro k ok hk hki hun hnk
        refine hfree k ok hk hki ?_ hnk
        by_cases hjk : j = k
        · subst hjk; exact hjl
        · rwa [getD_set_ne true hjk] at hun
      · obtain ⟨o'', E', ho'', _, hg'', hr⟩ := (T v hv).2 j hj2
        obtain rfl : oj = o'' := by rw [hoj] at ho''; exact Option.some.inj ho''
        obtain rfl : E = E' := (back _ _ hg').inj hS (back _ _ hg'')
        have := hr vj hvj
        rw [Array.setIfInBounds_comm _ _ hji, ← Act.put_comm a v vj d2]
        exact this
/-- one that gives one value comes first -/
theorem wpR_pure {i : Nat} {oi : Oper} {v : Value} {n : Nat} {L : Array Bool} {a : Act} {w0 : World} (hi : ops[i]? = some oi) (hs : Region.noSelect ops = true) (hf : Region.free md ops L i = true) (hri : (Region.ready md ops L).contains i = true) (hz : awaited md ops Z i = true) (hzi : Z.contains i = false) (hH : H.contains i = false)
    (hS : S w0) (hg : YieldsIf P ops S oi v a) (h : wpR P md ops Q S Z H C m n (L.setIfInBounds i true) (a.put oi.dst v)) : wpR P md ops Q S Z H C m (n + 1) L a :=
  takeR_core (D := fun x => x = v) hS hi (Region.noSelect_spec hs) hz hzi ⟨v, rfl⟩ n L a (Region.free_spec hi hf) (by simpa using hri) (.one v hH hg) (fun _ e => e ▸ h)
/-- one of H comes first, whatever it gives -/
theorem wpR_some {i : Nat} {oi : Oper} {n : Nat} {L : Array Bool} {a : Act} {w0 : World} (hi : ops[i]? = some oi) (hs : Region.noSelect ops = true) (hf : Region.free md ops L i = true) (hri : (Region.ready md ops L).contains i = true) (hz : awaited md ops Z i = true) (hzi : Z.contains i = false) (hH : H.contains i = true)
    (hS : S w0) (F : Value → Prop) (hF : C i = F) (hv0 : ∃ v, F v) (hg : Some1 P ops S oi F a) (h : ∀ v, F v → wpR P md ops Q S Z H C m n (L.setIfInBounds i true) (a.put oi.dst v)) : wpR P md ops Q S Z H C m (n + 1) L a := by
  subst hF
  exact takeR_core hS hi (Region.noSelect_spec hs) hz hzi hv0 n L a (Region.free_spec hi hf) (by simpa using hri) (.any1 hH hg) h
theorem wpR_end {L : Array Bool} {a : Act} (hr : ((Region.ready md ops L).all fun j => Z.contains j) = true) (h : ∀ w, S w → wpAny P md ops Q m L a w) : wpR P md ops Q S Z H C m 0 L a :=
  ⟨fun j hj => by have := List.all_eq_true.1 hr j hj; exact this, h⟩
theorem region_R (S : World → Prop) (Z H : List Nat) (C : Nat → Value → Prop) (m n : Nat) {id : Nat} {a : Act} {w : World} (hm : P.follows .mixedOrders = true) (hn : n + m = ops.size) (hS : S w.drew) (h : S w.drew → wpR P .any ops Q S Z H C m n (Array.replicate ops.size false) a) : (Code.region id ops true).wp P Q a w := by
  have x := plain_of_R n _ _ _ hS (h hS)
  rw [hn] at x
  exact wp_region_any hm x
/-- what comes late, one at a time -/
theorem any_one {i : Nat} {o : Oper} {n : Nat} {L : Array Bool} {a : Act} {w : World} (hr : Region.ready md ops L = [i]) (ho : ops[i]? = some o)
    (h : ∀ K' : Act → World → Prop, Shut (∀ a w', wpAny P md ops Q n (L.setIfInBounds i true) a w' → K' a w') → if Region.wanted o (yielded ops a.tmps) = true then Oper.wp P o a w K' Q else K' (a.put o.dst undef) w) : wpAny P md ops Q (n + 1) L a w :=
  ⟨fun h0 => (by rw [hr] at h0; cases h0), fun j hj => by
    rw [hr, List.mem_singleton] at hj
    subst hj
    exact wpOp_step ho (fun K' hK => h K' (fun a w hW => hK a w hW))⟩
theorem any_done {L : Array Bool} {a : Act} {w : World} (hr : Region.ready md ops L = []) (h : Q .normal a w) : ∀ n, wpAny P md ops Q n L a w
  | 0 => ⟨hr, h⟩
  | _ + 1 => ⟨fun _ => h, by rw [hr]; simp⟩
end
end Go.Proofs.Ytfhhneibdmjfgaa
