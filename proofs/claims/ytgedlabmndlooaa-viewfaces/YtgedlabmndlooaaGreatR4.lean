/- R1, R2, R3, R4 -/
import Derived.Deep.RegionHeld
import Derived.Test.YtgedlabmndlooaaGreatS2
namespace Go.Proofs.YtgedlabmndlooaaGreat
open Go
section
variable {P : Program} {ops : Array Oper} {Q : Exit → Act → World → Prop} {md : Region.Mode} {S : World → Prop}
/-- in every world of S the call gives v and leaves the world -/
structure Reads (P : Program) (ops : Array Oper) (S : World → Prop) (o : Oper) (v : Value) (a : Act) : Prop where
  want : Region.wanted o (yielded ops a.tmps) = true
  call : ∃ f args, (∀ w, (execOp a.eval o).run P w = .ok (.enter f args) w) ∧ ∀ w, S w → Calls P f args w fun e w' => e = .returned v ∧ w' = w
set_option maxRecDepth 100000 in
theorem Reads.like {o : Oper} {v : Value} {a b : Act} (h : Reads P ops S o v a) (he : execOp b.eval o = execOp a.eval o) (hw : Region.wanted o (yielded ops b.tmps) = Region.wanted o (yielded ops a.tmps)) : Reads P ops S o v b :=
  ⟨hw.trans h.want, by rw [he]; exact h.call⟩
set_option maxRecDepth 100000 in
theorem Reads.now {i : Nat} {o : Oper} {v : Value} {a : Act} (hi : ops[i]? = some o) (h : Reads P ops S o v a) {K : Act → World → Prop} {w : World} (hS : S w) (hK : K (a.put o.dst v) w) : wpOp P ops Q i K a w := by
  obtain ⟨f, args, he, hc⟩ := h.call
  unfold wpOp
  rw [hi]
  show (if _ then _ else _)
  rw [if_pos h.want]
  refine .inl ?_
  unfold Oper.wp
  rw [he w]
  refine (hc w hS).mono ?_
  rintro e w' ⟨rfl, rfl⟩
  exact hK
/-- what one operation does is the same whether or not the other's value is there already -/
theorem beside {j : Nat} {oi oj : Oper} {v : Value} (hj : ops[j]? = some oj) (hap : oi.apart ops oj = true) (hsi : ∀ cs b, oi.op ≠ .select cs b) (hsj : ∀ cs b, oj.op ≠ .select cs b)
    (hQ : ∀ c a w, Q (.panic c) (a.put oi.dst v) w → Q (.panic c) a w) {K : Act → World → Prop} {a : Act} {w : World} (hr : Reads P ops S oi v a) (h : wpOp P ops Q j K (a.put oi.dst v) w) :
    wpOp P ops Q j (fun b w' => Reads P ops S oi v b ∧ K (b.put oi.dst v) w') a w := by
  obtain ⟨d1, d2, d3⟩ := Oper.apart_spec hap
  have stay : ∀ b : Act, Reads P ops S oi v b → ∀ x, Reads P ops S oi v (b.put oj.dst x) := fun b hb x => hb.like (execOp_put oi hsi b oj.dst x d3) (wanted_put oi b oj.dst x d3)
  have eqE := execOp_put oj hsj a oi.dst v d1
  have eqW := wanted_put oj a oi.dst v d1
  have sw : ∀ x, (a.put oi.dst v).put oj.dst x = (a.put oj.dst x).put oi.dst v := fun x => Act.put_comm a v x d2
  unfold wpOp at h ⊢
  rw [hj] at h ⊢
  change (if _ then _ else _) at h
  show (if _ then _ else _)
  rw [eqW] at h
  by_cases hw : Region.wanted oj (yielded ops a.tmps) = true
  · rw [if_pos hw] at h ⊢
    rcases h with h | ⟨h1, h2⟩
    · left
      unfold Oper.wp at h ⊢
      rw [eqE] at h
      revert h
      generalize (execOp a.eval oj).run P w = res
      intro h
      match res, h with
      | .ok (.value x) w', h => exact ⟨stay a hr x, by rw [← sw x]; exact h⟩
      | .ok .skip w', h => exact ⟨stay a hr undef, by rw [← sw undef]; exact h⟩
      | .ok (.defer d) w', h =>
        refine ⟨stay { a with defers := d :: a.defers } (hr.like rfl rfl) undef, ?_⟩
        rw [← Act.put_comm _ v undef d2, ← Act.put_defers]
        exact h
      | .ok (.enter f args) w', h =>
        refine Calls.mono h ?_
        intro e w2 he
        match e, he with
        | .returned x, he => exact ⟨stay a hr x, by rw [← sw x]; exact he⟩
        | .panicked c, he => exact hQ _ _ _ he
        | .outgrown, he => exact he
      | .ok (.row r args) w', h => exact Rows.mono h fun x w2 he => ⟨stay a hr x, by rw [← sw x]; exact he⟩
      | .halt x w', h =>
        cases x
        case panic c => exact hQ _ _ _ h
        all_goals exact h
    · refine .inr ⟨?_, h2⟩
      unfold Oper.asks at h1 ⊢
      rw [eqE] at h1
      exact h1
  · rw [if_neg hw] at h ⊢
    exact ⟨stay a hr undef, by rw [← sw undef]; exact h⟩
set_option maxRecDepth 100000 in
theorem call_core {i : Nat} {oi : Oper} {v : Value} (hi : ops[i]? = some oi) (hsel : ∀ (j : Nat) (o : Oper) cs b, ops[j]? = some o → o.op ≠ .select cs b) (hQ : ∀ c a w, Q (.panic c) (a.put oi.dst v) w → Q (.panic c) a w) :
    ∀ (n : Nat) (L : Array Bool) (a : Act) (w : World), (∀ j oj, ops[j]? = some oj → j ≠ i → L.getD j true = false → (∀ e ∈ oj.after, Region.binds md e = true → e.on ≠ i) → oi.apart ops oj = true) →
      i ∈ Region.ready md ops L → Reads P ops S oi v a → S w → wpAnyH P md ops Q S n (L.setIfInBounds i true) (a.put oi.dst v) w → wpAnyH P md ops Q S (n + 1) L a w
  | n, L, a, w, hfree, hri, hr, hS, H => by
    refine ⟨fun h => (by rw [h] at hri; cases hri), fun j hj => ?_⟩
    by_cases hji : j = i
    · subst hji
      exact hr.now hi hS ⟨hS, H⟩
    have hj2 := ready_mono hj hji
    match n, H with
    | 0, H => rw [H.1] at hj2; cases hj2
    | n + 1, H =>
      obtain ⟨hjl, oj, hoj, hedge⟩ := mem_ready.1 hj
      have hno : ∀ e ∈ oj.after, Region.binds md e = true → e.on ≠ i := by
        intro e he hb heq
        have x1 := hedge e he hb
        have x0 := (mem_ready.1 hri).1
        rw [heq] at x1
        by_cases hlt : i < L.size
        · simp [hlt] at x0 x1
          rw [x0] at x1
          cases x1
        · simp [Array.getElem?_eq_none (Nat.le_of_not_lt hlt)] at x1
      have x2 := beside hoj (hfree j oj hoj hji hjl hno) (fun cs b => hsel i oi cs b hi) (fun cs b => hsel j oj cs b hoj) hQ hr (H.2 j hj2)
      refine wpOp_mono (fun b w' hb => ⟨hb.2.1, call_core hi hsel hQ n (L.setIfInBounds j true) b w' ?_ (ready_mono hri (Ne.symm hji)) hb.1 hb.2.1 ?_⟩) x2
      · intro k ok hk hki hun hnk
        refine hfree k ok hk hki ?_ hnk
        by_cases hjk : j = k
        · subst hjk; exact hjl
        · rwa [getD_set_ne true hjk] at hun
      · rw [Array.setIfInBounds_comm _ _ hji]
        exact hb.2.2
/-- the call comes first -/
theorem wpAnyH_call {i : Nat} {oi : Oper} {v : Value} {n : Nat} {L : Array Bool} {a : Act} {w : World} (hi : ops[i]? = some oi) (hs : Region.noSelect ops = true) (hf : Region.free md ops L i = true) (hri : (Region.ready md ops L).contains i = true)
    (hQ : ∀ c a w, Q (.panic c) (a.put oi.dst v) w → Q (.panic c) a w) (hr : Reads P ops S oi v a) (hS : S w) (h : wpAnyH P md ops Q S n (L.setIfInBounds i true) (a.put oi.dst v) w) : wpAnyH P md ops Q S (n + 1) L a w :=
  call_core hi (Region.noSelect_spec hs) hQ n L a w (Region.free_spec hi hf) (by simpa using hri) hr hS h
end
end Go.Proofs.YtgedlabmndlooaaGreat

namespace Go.Proofs.YtgedlabmndlooaaGreat
open Go
section
variable {P : Program} {ops : Array Oper} {Q : Exit → Act → World → Prop} {md : Region.Mode} {S : World → Prop} {Z : List Nat}
/-- whatever order comes; S holds behind every operation but those of Z -/
def wpAnyX (P : Program) (md : Region.Mode) (ops : Array Oper) (Q : Exit → Act → World → Prop) (S : World → Prop) (Z : List Nat) : Nat → Array Bool → Act → World → Prop
  | 0, L, a, w => Region.ready md ops L = [] ∧ Q .normal a w
  | n + 1, L, a, w => (Region.ready md ops L = [] → Q .normal a w) ∧ ∀ i ∈ Region.ready md ops L, wpOp P ops Q i (fun b w' => (Z.contains i = false → S w') ∧ wpAnyX P md ops Q S Z n (L.setIfInBounds i true) b w') a w
set_option maxRecDepth 100000 in
theorem plain_of_X : ∀ (n : Nat) (L : Array Bool) (a : Act) (w : World), wpAnyX P md ops Q S Z n L a w → wpAny P md ops Q n L a w
  | 0, _, _, _, h => h
  | n + 1, _, _, _, h => ⟨h.1, fun i hi => wpOp_mono (fun b w' hb => plain_of_X n _ b w' hb.2) (h.2 i hi)⟩
/-- all of Z wait for it -/
def awaited (md : Region.Mode) (ops : Array Oper) (Z : List Nat) (i : Nat) : Bool :=
  Z.all fun z => match ops[z]? with
    | some o => o.after.any fun e => Region.binds md e && e.on == i
    | none => false
set_option maxRecDepth 100000 in
theorem awaited_spec {i j : Nat} {oj : Oper} (h : awaited md ops Z i = true) (hj : ops[j]? = some oj) (hz : Z.contains j = true) : ∃ e ∈ oj.after, Region.binds md e = true ∧ e.on = i := by
  have h1 := List.all_eq_true.1 h j (by simpa using hz)
  simp only [hj] at h1
  simp only [Array.any_eq_true', Bool.and_eq_true, beq_iff_eq] at h1
  obtain ⟨e, he, h2, h3⟩ := h1
  exact ⟨e, he, h2, h3⟩
set_option maxRecDepth 100000 in
theorem takeX_core {i : Nat} {oi : Oper} {v : Value} (hi : ops[i]? = some oi) (hsel : ∀ (j : Nat) (o : Oper) cs b, ops[j]? = some o → o.op ≠ .select cs b) (hQ : ∀ c a w, Q (.panic c) (a.put oi.dst v) w → Q (.panic c) a w) (hz : awaited md ops Z i = true) (hzi : Z.contains i = false) :
    ∀ (n : Nat) (L : Array Bool) (a : Act) (w : World), (∀ j oj, ops[j]? = some oj → j ≠ i → L.getD j true = false → (∀ e ∈ oj.after, Region.binds md e = true → e.on ≠ i) → oi.apart ops oj = true) →
      i ∈ Region.ready md ops L → YieldsIf P ops S oi v a → S w → wpAnyX P md ops Q S Z n (L.setIfInBounds i true) (a.put oi.dst v) w → wpAnyX P md ops Q S Z (n + 1) L a w
  | n, L, a, w, hfree, hri, hy, hS, H => by
    refine ⟨fun h => (by rw [h] at hri; cases hri), fun j hj => ?_⟩
    by_cases hji : j = i
    · subst hji
      exact hy.wpOp hi hS ⟨fun _ => hS, H⟩
    have hj2 := ready_mono hj hji
    match n, H with
    | 0, H => rw [H.1] at hj2; cases hj2
    | n + 1, H =>
      obtain ⟨hjl, oj, hoj, hedge⟩ := mem_ready.1 hj
      have hno : ∀ e ∈ oj.after, Region.binds md e = true → e.on ≠ i := by
        intro e he hb heq
        have x1 := hedge e he hb
        have x0 := (mem_ready.1 hri).1
        rw [heq] at x1
        by_cases hlt : i < L.size
        · simp [hlt] at x0 x1
          rw [x0] at x1
          cases x1
        · simp [Array.getElem?_eq_none (Nat.le_of_not_lt hlt)] at x1
      have hjz : Z.contains j = false := by
        cases q : Z.contains j
        · rfl
        · obtain ⟨e, he, h2, h3⟩ := awaited_spec hz hoj q
          exact absurd h3 (hno e he h2)
      have x2 := wpOp_putIf hoj (hfree j oj hoj hji hjl hno) (fun cs b => hsel i oi cs b hi) (fun cs b => hsel j oj cs b hoj) hQ hy (H.2 j hj2)
      refine wpOp_mono (fun b w' hb => ⟨fun _ => hb.2.1 hjz, takeX_core hi hsel hQ hz hzi n (L.setIfInBounds j true) b w' ?_ (ready_mono hri (Ne.symm hji)) hb.1 (hb.2.1 hjz) ?_⟩) x2
      · intro k ok hk hki hun hnk
        refine hfree k ok hk hki ?_ hnk
        by_cases hjk : j = k
        · subst hjk; exact hjl
        · rwa [getD_set_ne true hjk] at hun
      · rw [Array.setIfInBounds_comm _ _ hji]
        exact hb.2.2
/-- one that yields in every world of S comes first -/
theorem wpAnyX_take {i : Nat} {oi : Oper} {v : Value} {n : Nat} {L : Array Bool} {a : Act} {w : World} (hi : ops[i]? = some oi) (hs : Region.noSelect ops = true) (hf : Region.free md ops L i = true) (hri : (Region.ready md ops L).contains i = true) (hz : awaited md ops Z i = true) (hzi : Z.contains i = false)
    (hQ : ∀ c a w, Q (.panic c) (a.put oi.dst v) w → Q (.panic c) a w) (hy : YieldsIf P ops S oi v a) (hS : S w) (h : wpAnyX P md ops Q S Z n (L.setIfInBounds i true) (a.put oi.dst v) w) : wpAnyX P md ops Q S Z (n + 1) L a w :=
  takeX_core hi (Region.noSelect_spec hs) hQ hz hzi n L a w (Region.free_spec hi hf) (by simpa using hri) hy hS h
/-- only one may come, and S is shown behind it -/
theorem wpAnyX_one {i : Nat} {o : Oper} {n : Nat} {L : Array Bool} {a : Act} {w : World} (hr : Region.ready md ops L = [i]) (ho : ops[i]? = some o)
    (h : ∀ K' : Act → World → Prop, Shut (∀ a w, S w → (S w → wpAnyX P md ops Q S Z n (L.setIfInBounds i true) a w) → K' a w) → if Region.wanted o (yielded ops a.tmps) = true then Oper.wp P o a w K' Q else K' (a.put o.dst undef) w) : wpAnyX P md ops Q S Z (n + 1) L a w :=
  ⟨fun h0 => (by rw [hr] at h0; cases h0), fun j hj => by
    rw [hr, List.mem_singleton] at hj
    subst hj
    exact wpOp_step ho (fun K' hK => h K' (fun a w hS hW => hK a w ⟨fun _ => hS, hW hS⟩))⟩
/-- only one may come, and it is of Z -/
theorem wpAnyX_late {i : Nat} {o : Oper} {n : Nat} {L : Array Bool} {a : Act} {w : World} (hr : Region.ready md ops L = [i]) (ho : ops[i]? = some o) (hz : Z.contains i = true)
    (h : ∀ K' : Act → World → Prop, Shut (∀ a w, wpAnyX P md ops Q S Z n (L.setIfInBounds i true) a w → K' a w) → if Region.wanted o (yielded ops a.tmps) = true then Oper.wp P o a w K' Q else K' (a.put o.dst undef) w) : wpAnyX P md ops Q S Z (n + 1) L a w :=
  ⟨fun h0 => (by rw [hr] at h0; cases h0), fun j hj => by
    rw [hr, List.mem_singleton] at hj
    subst hj
    exact wpOp_step ho (fun K' hK => h K' (fun a w hW => hK a w ⟨fun q => (by rw [hz] at q; cases q), hW⟩))⟩
set_option maxRecDepth 100000 in
theorem wpAnyX_done {L : Array Bool} {a : Act} {w : World} (hr : Region.ready md ops L = []) (h : Q .normal a w) : ∀ n, wpAnyX P md ops Q S Z n L a w
  | 0 => ⟨hr, h⟩
  | _ + 1 => ⟨fun _ => h, by rw [hr]; simp⟩
set_option maxRecDepth 100000 in
theorem region_X (Z : List Nat) {id : Nat} {a : Act} {w : World} (hm : P.follows .mixedOrders = true) (hS : S w.drew) (h : S w.drew → wpAnyX P .any ops Q S Z ops.size (Array.replicate ops.size false) a w.drew) : (Code.region id ops true).wp P Q a w :=
  wp_region_any hm (plain_of_X _ _ _ _ (h hS))
end
end Go.Proofs.YtgedlabmndlooaaGreat

namespace Go.Proofs.YtgedlabmndlooaaGreat
open Go Go.RowKit

section
variable {P : Program} {ops : Array Oper} {Q : Exit → Act → World → Prop} {md : Region.Mode} {S : World → Prop} {Z : List Nat}
/-- two may come -/
theorem wpAnyX_two {i j : Nat} {o p : Oper} {n : Nat} {L : Array Bool} {a : Act} {w : World} (hr : Region.ready md ops L = [i, j]) (ho : ops[i]? = some o) (hp : ops[j]? = some p)
    (h : ∀ K' : Act → World → Prop, Shut (∀ a w, S w → (S w → wpAnyX P md ops Q S Z n (L.setIfInBounds i true) a w) → K' a w) → if Region.wanted o (yielded ops a.tmps) = true then Oper.wp P o a w K' Q else K' (a.put o.dst undef) w)
    (k : ∀ K' : Act → World → Prop, Shut (∀ a w, S w → (S w → wpAnyX P md ops Q S Z n (L.setIfInBounds j true) a w) → K' a w) → if Region.wanted p (yielded ops a.tmps) = true then Oper.wp P p a w K' Q else K' (a.put p.dst undef) w) : wpAnyX P md ops Q S Z (n + 1) L a w :=
  ⟨fun h0 => (by rw [hr] at h0; cases h0), fun l hl => by
    rw [hr] at hl
    rcases List.mem_cons.1 hl with rfl | hl
    · exact wpOp_step ho (fun K' hK => h K' (fun a w hS hW => hK a w ⟨fun _ => hS, hW hS⟩))
    · rw [List.mem_singleton] at hl
      subst hl
      exact wpOp_step hp (fun K' hK => k K' (fun a w hS hW => hK a w ⟨fun _ => hS, hW hS⟩))⟩
end
set_option maxRecDepth 100000 in
theorem Sep.boxTurn {w0 W W' : World} {l : List As} {b : Nat} {cs ds : List Value} {t : TypeId} (h : Sep w0 W (boxA b cs t :: l)) (hh : Has W' b ds t) (g : W.grownBy W' (some b)) : Sep w0 W' (boxA b ds t :: l) := by
  obtain ⟨F, ⟨h1, rfl⟩, _, hu⟩ := h.use
  exact hu W' [_] (Fr.ofSome g rfl) (Loc.one (a := boxA _ _ _) _ ⟨hh, rfl⟩ (fun i hi => .inl hi))
/-- a value of many cells is laid over a part of a block -/
theorem store_at {ops : Array Oper} {rest : List Oper} {op : Oper} {a : Act} {Q : Exit → Act → World → Prop} (w3 : World) (rb o : Nat) (ds cs : List Value) (T T' : TypeId) (hgd : op.guard = none) {x y : Operand} (ho : op.op = .store T x y)
    (hx : a.eval x = .pointer (some ⟨rb, o, none⟩)) (hy : a.eval y = .agg cs.toArray) (hh : Has w3 rb ds T') (hl : o + cs.length ≤ ds.length) (hi : (Tryz.prog.info? T).map (·.size) = some cs.length) (h1 : ∀ v ∈ cs, v.oneCell' = true)
    (h : ∀ w6, (∀ w0 l, Sep w0 w3 (boxA rb ds T' :: l) → Sep w0 w6 (boxA rb (over ds o cs) T' :: l)) → w3.grownBy w6 (some rb) → wpList Tryz.prog ops Q rest (a.put op.dst undef) w6) : wpList Tryz.prog ops Q (op :: rest) a w3 := by
  have hg : w3.grownBy (w3.setCells rb o cs.toArray.toList) (some rb) := gr_sets _ _ _ _
  refine wpList_store_mid hgd T x y ho rb o cs.toArray hx hy (hh.there o cs.toArray.size (by rw [List.size_toArray]; omega)) (by rw [List.size_toArray]; exact hi) (all_oneCell_toArray h1) ?_
  exact h _ (fun w0 l hS => hS.boxTurn (hh.setCells cs o) hg) hg
set_option maxRecDepth 100000 in
theorem over_all (ds cs : List Value) (h : cs.length = ds.length) : over ds 0 cs = cs := by
  rw [over_eq _ _ _ (by omega)]; simp [h]
set_option maxRecDepth 100000 in
theorem results_c {fn : Func} {p : Tmp} {ty : TypeId} (h : fn.results = #[.cell p ty]) (tmps : Array Value) (P : Program) (w : World) :
    (results fn tmps).run P w = ((asAddr (tmps.getD p undef)).run P w).andThen fun a w₁ => (loadVar ty a).run P w₁ := by
  simp only [results, h]
  simp [Sem.run_bind, Result.andThen]
set_option maxRecDepth 100000 in
theorem ret_c {P : Program} {fn : Func} {R : Ending → World → Prop} {a : Act} {w : World} {p : Tmp} {ty t : TypeId} {b : Nat} {cs : List Value} {d : TypeDesc}
    (hr : fn.results = #[.cell p ty]) (hp : a.tmps.getD p undef = .pointer (some ⟨b, 0, none⟩)) (hh : Has w b cs t) (hu : P.underlying ty = some d) (hd : d.isRow = true)
    (hi : (P.info? ty).map (·.size) = some cs.length) (hdf : a.defers = []) (h : R (.returned (.agg cs.toArray)) w) : bodyPost P fn R .ret a w := by
  refine bodyPost_ret (v := .agg cs.toArray) ?_ hdf h
  rw [results_c hr, hp]
  simp [asAddr, Result.andThen, run_loadVar_mid w b 0 ty cs d hh.range hu hd hi]
set_option maxRecDepth 100000 in
theorem wpList_build {P : Program} {w : World} {ops : Array Oper} {rest : List Oper} {o : Oper} {a : Act} {Q : Exit → Act → World → Prop} (hgd : o.guard = none) (t : TypeId) (parts : Array (Nat × Operand))
    (ho : o.op = .build t parts) (cells : Array Value) (hb : P.built t (parts.map fun (i, x) => (i, a.eval x)).toList = some cells) (h : wpList P ops Q rest (a.put o.dst (.agg cells)) w) : wpList P ops Q (o :: rest) a w :=
  wpList_plain hgd fun _ hK => by
    unfold Oper.wp execOp
    simp only [ho, Sem.run_bind, run_build w t _ cells hb, Result.andThen_ok]
    exact hK _ _ h
set_option maxRecDepth 100000 in
theorem yieldsIf_build {P : Program} {ops : Array Oper} {S : World → Prop} {op : Oper} {a : Act} (hw : Region.wanted op (yielded ops a.tmps) = true) (t : TypeId) (parts : Array (Nat × Operand)) (ho : op.op = .build t parts) (cells : Array Value)
    (hb : P.built t (parts.map fun (i, x) => (i, a.eval x)).toList = some cells) : YieldsIf P ops S op (.agg cells) a :=
  .inl ⟨hw, fun w _ => by
    unfold execOp
    simp only [ho, Sem.run_bind, run_build w t _ cells hb, Result.andThen_ok]
    rfl⟩
set_option maxRecDepth 100000 in
theorem wpList_want {P : Program} {ops : Array Oper} {rest : List Oper} {o : Oper} {a : Act} {w : World} {Q : Exit → Act → World → Prop} (hw : Region.wanted o (yielded ops a.tmps) = true)
    (h : ∀ K : Act → World → Prop, (∀ a w, wpList P ops Q rest a w → K a w) → o.wp P a w K Q) : wpList P ops Q (o :: rest) a w :=
  wpList_step fun K hK => by rw [if_pos hw]; exact h K hK
/-- a load under a guard that holds -/
theorem load_g {P : Program} {ops : Array Oper} {rest : List Oper} {op : Oper} {a : Act} {w : World} {Q : Exit → Act → World → Prop} (hw : Region.wanted op (yielded ops a.tmps) = true) (ty : TypeId) (x : Operand) (ho : op.op = .load ty x)
    (b o : Nat) (hx : a.eval x = .pointer (some ⟨b, o, none⟩)) (cs : List Value) (d : TypeDesc) (hc : w.rangeAt b o cs)
    (hu : P.underlying ty = some d) (hd : d.isRow = true) (hi : (P.info? ty).map (·.size) = some cs.length)
    (h : wpList P ops Q rest (a.put op.dst (.agg cs.toArray)) w) : wpList P ops Q (op :: rest) a w :=
  wpList_want hw fun _ hK => wp_load_mid ty x ho b o hx cs d hc hu hd hi (hK _ _ h)
set_option maxRecDepth 100000 in
theorem build_g {P : Program} {w : World} {ops : Array Oper} {rest : List Oper} {o : Oper} {a : Act} {Q : Exit → Act → World → Prop} (hw : Region.wanted o (yielded ops a.tmps) = true) (t : TypeId) (parts : Array (Nat × Operand))
    (ho : o.op = .build t parts) (cells : Array Value) (hb : P.built t (parts.map fun (i, x) => (i, a.eval x)).toList = some cells) (h : wpList P ops Q rest (a.put o.dst (.agg cells)) w) : wpList P ops Q (o :: rest) a w :=
  wpList_want hw fun _ hK => by
    unfold Oper.wp execOp
    simp only [ho, Sem.run_bind, run_build w t _ cells hb, Result.andThen_ok]
    exact hK _ _ h
end Go.Proofs.YtgedlabmndlooaaGreat

namespace Go.Proofs.YtgedlabmndlooaaGreat
open Go
section
variable {P : Program} {ops : Array Oper} {Q : Exit → Act → World → Prop} {md : Region.Mode} {S : World → Prop} {Z : List Nat}
/-- whatever order comes; S stays behind every operation but those of Z -/
def wpAnyY (P : Program) (md : Region.Mode) (ops : Array Oper) (Q : Exit → Act → World → Prop) (S : World → Prop) (Z : List Nat) : Nat → Array Bool → Act → World → Prop
  | 0, L, a, w => Region.ready md ops L = [] ∧ Q .normal a w
  | n + 1, L, a, w => (Region.ready md ops L = [] → Q .normal a w) ∧ ∀ i ∈ Region.ready md ops L, wpOp P ops Q i (fun b w' => (Z.contains i = false → S w → S w') ∧ wpAnyY P md ops Q S Z n (L.setIfInBounds i true) b w') a w
theorem plain_of_Y : ∀ (n : Nat) (L : Array Bool) (a : Act) (w : World), wpAnyY P md ops Q S Z n L a w → wpAny P md ops Q n L a w
  | 0, _, _, _, h => h
  | n + 1, _, _, _, h => ⟨h.1, fun i hi => wpOp_mono (fun b w' hb => plain_of_Y n _ b w' hb.2) (h.2 i hi)⟩
theorem pureY_core {i : Nat} {oi : Oper} {v : Value} (hi : ops[i]? = some oi) (hsel : ∀ (j : Nat) (o : Oper) cs b, ops[j]? = some o → o.op ≠ .select cs b) (hQ : ∀ c a w, Q (.panic c) (a.put oi.dst v) w → Q (.panic c) a w) :
    ∀ (n : Nat) (L : Array Bool) (a : Act) (w : World), (∀ j oj, ops[j]? = some oj → j ≠ i → L.getD j true = false → (∀ e ∈ oj.after, Region.binds md e = true → e.on ≠ i) → oi.apart ops oj = true) →
      i ∈ Region.ready md ops L → YieldsIf P ops (fun _ => True) oi v a → wpAnyY P md ops Q S Z n (L.setIfInBounds i true) (a.put oi.dst v) w → wpAnyY P md ops Q S Z (n + 1) L a w
  | n, L, a, w, hfree, hri, hy, H => by
    refine ⟨fun h => (by rw [h] at hri; cases hri), fun j hj => ?_⟩
    by_cases hji : j = i
    · subst hji
      exact hy.wpOp hi trivial ⟨fun _ h => h, H⟩
    have hj2 := ready_mono hj hji
    match n, H with
    | 0, H => rw [H.1] at hj2; cases hj2
    | n + 1, H =>
      obtain ⟨hjl, oj, hoj, hedge⟩ := mem_ready.1 hj
      have hno : ∀ e ∈ oj.after, Region.binds md e = true → e.on ≠ i := by
        intro e he hb heq
        have x1 := hedge e he hb
        have x0 := (mem_ready.1 hri).1
        rw [heq] at x1
        by_cases hlt : i < L.size
        · simp [hlt] at x0 x1
          rw [x0] at x1
          cases x1
        · simp [Array.getElem?_eq_none (Nat.le_of_not_lt hlt)] at x1
      have x2 := wpOp_putIf hoj (hfree j oj hoj hji hjl hno) (fun cs b => hsel i oi cs b hi) (fun cs b => hsel j oj cs b hoj) hQ hy (H.2 j hj2)
      refine wpOp_mono (fun b w' hb => ⟨hb.2.1, pureY_core hi hsel hQ n (L.setIfInBounds j true) b w' ?_ (ready_mono hri (Ne.symm hji)) hb.1 ?_⟩) x2
      · intro k ok hk hki hun hnk
        refine hfree k ok hk hki ?_ hnk
        by_cases hjk : j = k
        · subst hjk; exact hjl
        · rwa [getD_set_ne true hjk] at hun
      · rw [Array.setIfInBounds_comm _ _ hji]
        exact hb.2.2
theorem takeY_core {i : Nat} {oi : Oper} {v : Value} (hi : ops[i]? = some oi) (hsel : ∀ (j : Nat) (o : Oper) cs b, ops[j]? = some o → o.op ≠ .select cs b) (hQ : ∀ c a w, Q (.panic c) (a.put oi.dst v) w → Q (.panic c) a w) (hz : awaited md ops Z i = true) (hzi : Z.contains i = false) :
    ∀ (n : Nat) (L : Array Bool) (a : Act) (w : World), (∀ j oj, ops[j]? = some oj → j ≠ i → L.getD j true = false → (∀ e ∈ oj.after, Region.binds md e = true → e.on ≠ i) → oi.apart ops oj = true) →
      i ∈ Region.ready md ops L → YieldsIf P ops S oi v a → S w → wpAnyY P md ops Q S Z n (L.setIfInBounds i true) (a.put oi.dst v) w → wpAnyY P md ops Q S Z (n + 1) L a w
  | n, L, a, w, hfree, hri, hy, hS, H => by
    refine ⟨fun h => (by rw [h] at hri; cases hri), fun j hj => ?_⟩
    by_cases hji : j = i
    · subst hji
      exact hy.wpOp hi hS ⟨fun _ h => h, H⟩
    have hj2 := ready_mono hj hji
    match n, H with
    | 0, H => rw [H.1] at hj2; cases hj2
    | n + 1, H =>
      obtain ⟨hjl, oj, hoj, hedge⟩ := mem_ready.1 hj
      have hno : ∀ e ∈ oj.after, Region.binds md e = true → e.on ≠ i := by
        intro e he hb heq
        have x1 := hedge e he hb
        have x0 := (mem_ready.1 hri).1
        rw [heq] at x1
        by_cases hlt : i < L.size
        · simp [hlt] at x0 x1
          rw [x0] at x1
          cases x1
        · simp [Array.getElem?_eq_none (Nat.le_of_not_lt hlt)] at x1
      have hjz : Z.contains j = false := by
        cases q : Z.contains j
        · rfl
        · obtain ⟨e, he, h2, h3⟩ := awaited_spec hz hoj q
          exact absurd h3 (hno e he h2)
      have x2 := wpOp_putIf hoj (hfree j oj hoj hji hjl hno) (fun cs b => hsel i oi cs b hi) (fun cs b => hsel j oj cs b hoj) hQ hy (H.2 j hj2)
      refine wpOp_mono (fun b w' hb => ⟨hb.2.1, takeY_core hi hsel hQ hz hzi n (L.setIfInBounds j true) b w' ?_ (ready_mono hri (Ne.symm hji)) hb.1 (hb.2.1 hjz hS) ?_⟩) x2
      · intro k ok hk hki hun hnk
        refine hfree k ok hk hki ?_ hnk
        by_cases hjk : j = k
        · subst hjk; exact hjl
        · rwa [getD_set_ne true hjk] at hun
      · rw [Array.setIfInBounds_comm _ _ hji]
        exact hb.2.2
/-- one that yields in every world of S comes first -/
theorem wpAnyY_take {i : Nat} {oi : Oper} {v : Value} {n : Nat} {L : Array Bool} {a : Act} {w : World} (hi : ops[i]? = some oi) (hs : Region.noSelect ops = true) (hf : Region.free md ops L i = true) (hri : (Region.ready md ops L).contains i = true) (hz : awaited md ops Z i = true) (hzi : Z.contains i = false)
    (hQ : ∀ c a w, Q (.panic c) (a.put oi.dst v) w → Q (.panic c) a w) (hy : YieldsIf P ops S oi v a) (hS : S w) (h : wpAnyY P md ops Q S Z n (L.setIfInBounds i true) (a.put oi.dst v) w) : wpAnyY P md ops Q S Z (n + 1) L a w :=
  takeY_core hi (Region.noSelect_spec hs) hQ hz hzi n L a w (Region.free_spec hi hf) (by simpa using hri) hy hS h
/-- one that yields in every world comes first -/
theorem wpAnyY_pure {i : Nat} {oi : Oper} {v : Value} {n : Nat} {L : Array Bool} {a : Act} {w : World} (hi : ops[i]? = some oi) (hs : Region.noSelect ops = true) (hf : Region.free md ops L i = true) (hri : (Region.ready md ops L).contains i = true) (_ : Z.contains i = false)
    (hQ : ∀ c a w, Q (.panic c) (a.put oi.dst v) w → Q (.panic c) a w) (hy : YieldsIf P ops (fun _ => True) oi v a) (h : wpAnyY P md ops Q S Z n (L.setIfInBounds i true) (a.put oi.dst v) w) : wpAnyY P md ops Q S Z (n + 1) L a w :=
  pureY_core hi (Region.noSelect_spec hs) hQ n L a w (Region.free_spec hi hf) (by simpa using hri) hy h
/-- the same, the plain premises by the machine -/
theorem yp {i : Nat} {oi : Oper} {v : Value} {n : Nat} {L : Array Bool} {a : Act} {w : World} (hi : ops[i]? = some oi) (hy : YieldsIf P ops (fun _ => True) oi v a) (h : wpAnyY P md ops Q S Z n (L.setIfInBounds i true) (a.put oi.dst v) w) (hs : Region.noSelect ops = true := by kernel_rfl) (hf : Region.free md ops L i = true := by kernel_rfl) (hri : (Region.ready md ops L).contains i = true := by kernel_rfl) (hz : Z.contains i = false := by kernel_rfl)
    (hQ : ∀ c a w, Q (.panic c) (a.put oi.dst v) w → Q (.panic c) a w := by exact fun _ _ _ h => h) : wpAnyY P md ops Q S Z (n + 1) L a w :=
  wpAnyY_pure hi hs hf hri hz hQ hy h
theorem yt {i : Nat} {oi : Oper} {v : Value} {n : Nat} {L : Array Bool} {a : Act} {w : World} (hi : ops[i]? = some oi) (hy : YieldsIf P ops S oi v a) (hS : S w) (h : wpAnyY P md ops Q S Z n (L.setIfInBounds i true) (a.put oi.dst v) w) (hs : Region.noSelect ops = true := by kernel_rfl) (hf : Region.free md ops L i = true := by kernel_rfl) (hri : (Region.ready md ops L).contains i = true := by kernel_rfl) (hz : awaited md ops Z i = true := by kernel_rfl) (hzi : Z.contains i = false := by kernel_rfl)
    (hQ : ∀ c a w, Q (.panic c) (a.put oi.dst v) w → Q (.panic c) a w := by exact fun _ _ _ h => h) : wpAnyY P md ops Q S Z (n + 1) L a w :=
  wpAnyY_take hi hs hf hri hz hzi hQ hy hS h
/-- only one may come, and S stays -/
theorem wpAnyY_one {i : Nat} {o : Oper} {n : Nat} {L : Array Bool} {a : Act} {w : World} (hr : Region.ready md ops L = [i]) (ho : ops[i]? = some o)
    (h : ∀ K' : Act → World → Prop, Shut (∀ a w', (S w → S w') → wpAnyY P md ops Q S Z n (L.setIfInBounds i true) a w' → K' a w') → if Region.wanted o (yielded ops a.tmps) = true then Oper.wp P o a w K' Q else K' (a.put o.dst undef) w) : wpAnyY P md ops Q S Z (n + 1) L a w :=
  ⟨fun h0 => (by rw [hr] at h0; cases h0), fun j hj => by
    rw [hr, List.mem_singleton] at hj
    subst hj
    exact wpOp_step ho (fun K' hK => h K' (fun a w hS hW => hK a w ⟨fun _ => hS, hW⟩))⟩
/-- only one may come, and it is of Z -/
theorem wpAnyY_late {i : Nat} {o : Oper} {n : Nat} {L : Array Bool} {a : Act} {w : World} (hr : Region.ready md ops L = [i]) (ho : ops[i]? = some o) (hz : Z.contains i = true)
    (h : ∀ K' : Act → World → Prop, Shut (∀ a w, wpAnyY P md ops Q S Z n (L.setIfInBounds i true) a w → K' a w) → if Region.wanted o (yielded ops a.tmps) = true then Oper.wp P o a w K' Q else K' (a.put o.dst undef) w) : wpAnyY P md ops Q S Z (n + 1) L a w :=
  ⟨fun h0 => (by rw [hr] at h0; cases h0), fun j hj => by
    rw [hr, List.mem_singleton] at hj
    subst hj
    exact wpOp_step ho (fun K' hK => h K' (fun a w hW => hK a w ⟨fun q => (by rw [hz] at q; cases q), hW⟩))⟩
theorem wpAnyY_done {L : Array Bool} {a : Act} {w : World} (hr : Region.ready md ops L = []) (h : Q .normal a w) : ∀ n, wpAnyY P md ops Q S Z n L a w
  | 0 => ⟨hr, h⟩
  | _ + 1 => ⟨fun _ => h, by rw [hr]; simp⟩
theorem region_Y (Z : List Nat) {id : Nat} {a : Act} {w : World} (hm : P.follows .mixedOrders = true) (h : wpAnyY P .any ops Q S Z ops.size (Array.replicate ops.size false) a w.drew) : (Code.region id ops true).wp P Q a w :=
  wp_region_any hm (plain_of_Y _ _ _ _ h)
end
end Go.Proofs.YtgedlabmndlooaaGreat
