import Derived.Test.YtjbkoablleneeaaGreatDoorX27
/- Labels of ticks alone -/
namespace Go.Proofs.YtjbkoablleneeaaGreatDoor.Pk
open Go Go.RowKit Go.Shelf
attribute [local go_sem] Oper.semAt_some

def bodyPostN (fn : Func) (R : Ending → World → Prop) : Exit → Act → World → Prop
  | .normal, a, w => bodyPostM Fence.wide 8 Tryz.prog fn R .normal a w
  | .ret, a, w => bodyPostM Fence.wide 8 Tryz.prog fn R .ret a w
  | .panic _, _, _ => False
  | .outgrown, _, _ => False
  | .exit _, _, _ => False
  | .goto _, _, _ => False
theorem calls_of_wpN {f : FuncId} {fn : Func} {c : Code} {args : Array Value} {w : World} {R : Ending → World → Prop} (hf : Tryz.prog.funcs[f]? = some fn) (hb : fn.body = some c)
    (h : c.wpIn Fence.wide 8 Tryz.prog (bodyPostN fn R) { tmps := args ++ Array.replicate (fn.ntmps - args.size) undef, defers := [] } w) : Calls Tryz.prog f args w R := by
  refine (callsIn_wide (n := 8)).1 (callsIn_of_wp_marks hf hb trivial (wpIn_mono h ?_) rfl)
  intro e a w hq
  cases e with
  | normal => exact hq
  | ret => exact hq
  | panic c => exact hq.elim
  | outgrown => exact hq.elim
  | exit i => exact hq.elim
  | goto t => exact hq.elim
theorem size96 : (Tryz.prog.info? 96).map (·.size) = some 353 := by kernel_rfl
set_option maxRecDepth 100000 in
theorem alloc96 (W : World) : (Instr.alloc 96 true (.tuple #[])).run Tryz.prog W = .ok (.pointer (some ⟨W.heap.size, 0, none⟩)) (W.alloc (.cells hz.toArray 96)) := by kernel_rfl
theorem wpListIn_alloc {F : Fence} {n : Nat} {P : Program} {ops : Array Oper} {rest : List Oper} {op : Oper} {a : Act} {w : World} {Q : Exit → Act → World → Prop} (hgd : op.guard = none) (t : TypeId) (ho : op.op = .alloc t) {v : Value} {w' : World}
    (hr : (Instr.alloc t true (.tuple #[])).run P w = .ok v w') (h : wpListIn F n P ops Q rest (a.put op.dst v) w') : wpListIn F n P ops Q (op :: rest) a w :=
  wpListIn_plain hgd fun _ hK => by
    unfold Oper.wpIn
    refine ⟨?_, ?_⟩
    · simp [Oper.about, ho]
    · rw [Oper.semAt_plain F _ _ (by rw [ho]; intro c hc'; cases hc')]
      simp only [execOp, ho, Sem.run_bind, Sem.run_pure, hr, Result.andThen_ok]
      exact hK _ _ h
theorem load43 {W : World} {b : Nat} {v : Value} (h : Has W b [v] 43) : (loadVar 43 ⟨b, 0, none⟩).run Tryz.prog W = .ok v W := by
  have hc : W.cell? ⟨b, 0, none⟩ = some v := h.cellv 0 _ rfl
  simp [loadVar, go_sem, hc]
theorem run_two {fn : Func} {p q : Tmp} (h : fn.results = #[.cell p 43, .cell q 27]) (tmps : Array Value) (W : World) (b c : Nat) (v : Value) (x : Int) (hp : tmps.getD p undef = .pointer (some ⟨b, 0, none⟩)) (hq : tmps.getD q undef = .pointer (some ⟨c, 0, none⟩)) (hb : Has W b [v] 43) (hc : Has W c [iv x] 27) :
    (results fn tmps).run Tryz.prog W = .ok (.tuple #[v, iv x]) W := by
  rw [results_two h, hp, hq]
  simp only [asAddr, Sem.run_pure, Result.andThen_ok, load43 hb, load27 hc]
theorem has_put {W : World} {b D : Nat} {cs : List Value} {t : TypeId} (hb : Has W b cs t) (hD : W.heap[D]? = some (.deferred (some []))) (o : Obj) : Has (W.putObj D o) b cs t :=
  hb.kept (grownBy_putObj' W D o) (fun e => by
    have e := Option.some.inj e
    subst e
    unfold Has at hb
    rw [hb] at hD; cases hD)
theorem leaves_two {fn : Func} {p q : Tmp} {a : Act} (h : fn.results = #[.cell p 43, .cell q 27]) (W : World) (b c D : Nat) (v : Value) (x : Int) (hp : a.tmps.getD p undef = .pointer (some ⟨b, 0, none⟩)) (hq : a.tmps.getD q undef = .pointer (some ⟨c, 0, none⟩)) (R : Ending → World → Prop) (hds : a.defers = [{ target := .collected D, args := #[] }]) (hD : W.heap[D]? = some (.deferred (some []))) (hb : Has W b [v] 43) (hc : Has W c [iv x] 27) (hR : R (.returned (.tuple #[v, iv x])) (W.putObj D (.deferred none))) :
    bodyPostN fn R .ret a W := by
  show LeavesInM _ _ _ _ _ _ a.defers .returning W
  rw [hds]
  refine ⟨by simp, .inl ⟨D, _, rfl, run_takeDeferred hD, ?_⟩⟩
  exact ⟨_, run_two h a.tmps _ b c v x hp hq (has_put hb hD _) (has_put hc hD _), hR⟩
/-- labels of so many ticks -/
def lbls : Nat → List Value
  | 0 => []
  | n + 1 => lbls n ++ lbl
theorem lbls_len (n : Nat) : (lbls n).length = n * 4 := by
  induction n with
  | zero => rfl
  | succ n ih => rw [lbls, List.length_append, ih]; show n * 4 + 4 = _; omega
/-- where the labels stand -/
structure Lb (w W : World) (b2 b3 b4 b5 m : Nat) : Prop where
  h2 : Has W b2 [.slice none 0 0] 43
  h3 : Has W b3 [iv 0] 27
  h4 : ∃ v, Has W b4 [v] 43 ∧ W.ownsRow w.heap.size 53 4 v m (lbls m)
  h5 : Has W b5 hz 96
  g : w.grownBy W none
  l2 : w.heap.size ≤ b2
  l3 : w.heap.size ≤ b3
  l4 : w.heap.size ≤ b4
  d2 : b2 ≠ b4
  d3 : b3 ≠ b4
  d5 : b5 ≠ b4
theorem own_type {W : World} {base m b : Nat} {v : Value} {xs cs : List Value} {t : TypeId} (h : W.ownsRow base 53 4 v m xs) (hb : Has W b cs t) (ht : t ≠ 53) : v.ownBlock ≠ some b := fun q => by
  obtain ⟨_, h2⟩ := h
  rcases h2 with ⟨e, _⟩ | ⟨g, cap, cur, rfl, _, hheap, _⟩
  · rw [e] at q; cases q
  · have e : g = b := Option.some.inj q
    subst e
    unfold Has at hb
    rw [hheap] at hb
    have := Option.some.inj hb
    injection this with e1 e2
    exact ht e2.symm
theorem own_turn {W W' : World} {row : Option Nat} {base m : Nat} {v : Value} {xs : List Value} (h : W.ownsRow base 53 4 v m xs) (hg : W.grownBy W' row) (hr : ∀ r, row = some r → ∃ o : Obj, W.heap[r]? = some o ∧ o.isCells = false) : W'.ownsRow base 53 4 v m xs :=
  World.ownsRow.kept h hg (by
    by_cases q : v.ownBlock = none
    · exact .inl q
    · right
      intro e
      obtain ⟨_, h2⟩ := h
      rcases h2 with ⟨e2, _⟩ | ⟨g, cap, cur, rfl, _, hheap, _⟩
      · rw [e2] at q; exact q rfl
      · obtain ⟨o, q1, q2⟩ := hr g e.symm
        rw [hheap] at q1; cases q1; cases q2)
theorem has_turn {W W' : World} {row : Option Nat} {b : Nat} {cs : List Value} {t : TypeId} (h : Has W b cs t) (hg : W.grownBy W' row) (hr : ∀ r, row = some r → ∃ o : Obj, W.heap[r]? = some o ∧ o.isCells = false) : Has W' b cs t :=
  h.kept hg (fun e => by
    obtain ⟨o, q1, q2⟩ := hr b e.symm
    unfold Has at h
    rw [h] at q1; cases q1; cases q2)
theorem Lb.turn {w W W' : World} {row : Option Nat} {b2 b3 b4 b5 m : Nat} (h : Lb w W b2 b3 b4 b5 m) (hg : W.grownBy W' row) (hr : ∀ r, row = some r → w.heap.size ≤ r ∧ ∃ o : Obj, W.heap[r]? = some o ∧ o.isCells = false) : Lb w W' b2 b3 b4 b5 m := by
  obtain ⟨v, v1, v2⟩ := h.h4
  have hr2 := fun r e => (hr r e).2
  exact ⟨has_turn h.h2 hg hr2, has_turn h.h3 hg hr2, ⟨v, has_turn v1 hg hr2, own_turn v2 hg hr2⟩, has_turn h.h5 hg hr2, fr_mine h.g (Fr.of hg) (fun i e => (hr i e).1), h.l2, h.l3, h.l4, h.d2, h.d3, h.d5⟩
theorem Lb.grown {w W W' : World} {b2 b3 b4 b5 m : Nat} (h : Lb w W b2 b3 b4 b5 m) (hg : W.grownBy W' none) : Lb w W' b2 b3 b4 b5 m := h.turn hg (fun r e => by cases e)
theorem keeps_grown {W W' : World} {B : Nat} (h : W.grownBy W' none) : KeepsFrom B W W' := ⟨h.size, fun k o _ hk _ => by rw [h.block k (Array.getElem?_eq_some_iff.1 hk).1 (by simp)]; exact hk⟩
theorem keeps_row {W W' : World} {B : Nat} {row : Option Nat} (h : W.grownBy W' row) (hr : ∀ r, row = some r → ∃ o : Obj, W.heap[r]? = some o ∧ o.isCells = true) : KeepsFrom B W W' := ⟨h.size, fun k o _ hk ho => by
  rw [h.block k (Array.getElem?_eq_some_iff.1 hk).1 (fun e => by
    obtain ⟨o2, q1, q2⟩ := hr k e.symm
    rw [hk] at q1; cases q1; rw [ho] at q2; cases q2)]
  exact hk⟩
theorem keeps_tr {A B C : World} {n : Nat} (h : KeepsFrom n A B) (k : KeepsFrom n B C) : KeepsFrom n A C := ⟨Nat.le_trans h.size k.size, fun i o hi ho hc => k.same i o hi (h.same i o hi ho hc) hc⟩
theorem own_slice {W : World} {base m : Nat} {v : Value} {xs : List Value} (h : W.ownsRow base 53 4 v m xs) : ∃ a c, v = .slice a m c := by
  obtain ⟨_, h2⟩ := h
  rcases h2 with ⟨e, e2⟩ | ⟨g, cap, cur, rfl, _⟩
  · exact ⟨none, 0, by rw [e, e2]⟩
  · exact ⟨_, _, rfl⟩
theorem load_gIn {F : Fence} {n : Nat} {P : Program} {ops : Array Oper} {rest : List Oper} {op : Oper} {a : Act} {w : World} {Q : Exit → Act → World → Prop} (hw : Region.wanted op (yielded ops a.tmps) = true) (ty : TypeId) (x : Operand) (ho : op.op = .load ty x)
    (b o : Nat) (hx : a.eval x = .pointer (some ⟨b, o, none⟩)) (cs : List Value) (d : TypeDesc) (hc : w.rangeAt b o cs)
    (hu : P.underlying ty = some d) (hd : d.isRow = true) (hi : (P.info? ty).map (·.size) = some cs.length)
    (h : wpListIn F n P ops Q rest (a.put op.dst (.agg cs.toArray)) w) : wpListIn F n P ops Q (op :: rest) a w :=
  Go.BigFrame.wpListIn_want hw fun _ hK => by
    unfold Oper.wpIn
    refine ⟨?_, ?_⟩
    · simp [Oper.about, ho]
    · rw [Oper.semAt_plain F _ _ (by rw [ho]; intro c hc'; cases hc')]
      simp only [execOp, ho, hx, Instr.loadAt, Instr.sureAddr, Sem.run_bind, Sem.run_pure, Result.andThen_ok, run_loadVar_mid w b o ty cs d hc hu hd hi]
      exact hK _ _ h
/-- a label more -/
theorem Lb.app {w W : World} {b2 b3 b4 b5 m : Nat} {v : Value} (h : Lb w W b2 b3 b4 b5 m) (hv : Has W b4 [v] 43) (hr : W.ownsRow w.heap.size 53 4 v m (lbls m)) (hm : m ≤ 1000) :
    ∃ v' W1, (∃ a c, v' = .slice a (m + 1) c) ∧ (Builtin.append_ #[43, 43] 43 #[v, .slice (some ⟨W.heap.size, 0, none⟩) 1 1]).run Tryz.prog (W.alloc (.cells lbl.toArray 53)) = .ok v' W1 ∧ W1.cell? ⟨b4, 0, none⟩ = some v ∧ W1.frozen? ⟨b4, 0, none⟩ = false ∧ Lb w (W1.setCell ⟨b4, 0, none⟩ v') b2 b3 b4 b5 (m + 1) ∧ KpT W (W1.setCell ⟨b4, 0, none⟩ v') ∧ ∀ B, KeepsFrom B W (W1.setCell ⟨b4, 0, none⟩ v') := by
  have u43 : Tryz.prog.underlying 43 = some (.slice 53) := by kernel_rfl
  obtain ⟨i, i1, i2, i3, i4⟩ : ∃ i, Tryz.prog.info? 53 = some i ∧ i.size = 4 ∧ i.bytes = 56 ∧ i.zero = some (.agg #[iv 0, iv 0, Value.string { data := #[] }, .slice none 0 0]) := by
    have h : (Tryz.prog.info? 53).map (fun i => (i.size, i.bytes, i.zero)) = some (4, 56, some (.agg #[iv 0, iv 0, Value.string { data := #[] }, .slice none 0 0])) := by kernel_rfl
    cases e : Tryz.prog.info? 53 with
    | none => rw [e] at h; cases h
    | some i =>
      rw [e] at h
      simp only [Option.map_some, Option.some.injEq, Prod.mk.injEq] at h
      exact ⟨i, rfl, h.1, h.2.1, h.2.2⟩
  have ga := World.grownBy_alloc W (.cells lbl.toArray 53) none
  have hk := own_turn hr ga (fun r e => by cases e)
  obtain ⟨v', W1, r1, r2, r3, _, r5⟩ := run_append_own_at (P := Tryz.prog) (W.alloc (.cells lbl.toArray 53)) w.heap.size 43 43 53 i _ 4 56 u43 i1 i4 i2 i3 rfl (by decide) v m (lbls m) hk ⟨W.heap.size, 0, none⟩ 1 1 lbl rfl (fun j u hu => by
      rw [Addr.add_mid, Nat.zero_add]; exact (Has.newA W lbl.toArray 53).cellv j u (by simpa using hu)) lbl_one (by unfold maxLen; omega) (by omega) (by rw [heap1]; have := h.g.size; omega)
  have hA := h.grown ga
  have hne : ∀ b cs t, Has (W.alloc (.cells lbl.toArray 53)) b cs t → t ≠ 53 → Has W1 b cs t := fun b cs t hb ht => hb.kept r3 (fun e => own_type hk hb ht e.symm)
  have hv1 : Has W1 b4 [v] 43 := hne _ _ _ (hv.alloc _) (by decide)
  have hs := gr_set W1 b4 0 v'
  have hk2 : W1.ownsRow w.heap.size 53 4 v' (m + 1) (lbls (m + 1)) := r2
  have hq : ∀ b cs t, Has W1 b cs t → b ≠ b4 → Has (W1.setCell ⟨b4, 0, none⟩ v') b cs t := fun b cs t hb hn => hb.kept hs (fun e => hn (Option.some.inj e))
  have hown : ∀ r, v.ownBlock = some r → w.heap.size ≤ r ∧ ∃ o : Obj, (W.alloc (.cells lbl.toArray 53)).heap[r]? = some o ∧ o.isCells = true := fun r e => by
    refine ⟨(World.ownsRow.lt hk r e).1, ?_⟩
    obtain ⟨_, h2⟩ := hk
    rcases h2 with ⟨e2, _⟩ | ⟨g, cap, cur, rfl, _, hheap, _⟩
    · rw [e2] at e; cases e
    · cases e; exact ⟨_, hheap, rfl⟩
  refine ⟨v', W1, own_slice hk2, r1, hv1.cellv 0 _ rfl, hv1.frozen 0, ⟨hq _ _ _ (hne _ _ _ hA.h2 (by decide)) h.d2, hq _ _ _ (hne _ _ _ hA.h3 (by decide)) h.d3, ⟨v', hv1.setCell 0 v', ?_⟩, hq _ _ _ (hne _ _ _ hA.h5 (by decide)) h.d5, ?_, h.l2, h.l3, h.l4, h.d2, h.d3, h.d5⟩, ?_, ?_⟩
  · exact World.ownsRow.kept hk2 hs (by
      by_cases q : v'.ownBlock = none
      · exact .inl q
      · exact .inr (own_type hk2 hv1 (by decide)))
  · exact gr_new (fr_mine (h.g.trans ga) (Fr.of r3) (fun r e => (hown r e).1)) hs h.l4
  · refine ⟨Nat.le_trans ga.size (Nat.le_trans r3.size hs.size), fun b cs t ht hb => ?_⟩
    have hb4 : b ≠ b4 := fun e => by
      subst e
      unfold Has at hb hv
      rw [hv] at hb
      have := Option.some.inj hb
      injection this with e1 e2
      rcases ht with ht | ht <;> rw [ht] at e2 <;> cases e2
    exact hq _ _ _ (hne _ _ _ (hb.alloc _) (by rcases ht with ht | ht <;> rw [ht] <;> decide)) hb4
  · intro B
    exact keeps_tr (keeps_grown ga) (keeps_tr (keeps_row r3 (fun r e => (hown r e).2)) (keeps_row hs (fun r e => by cases e; exact ⟨_, hv1, rfl⟩)))
end Go.Proofs.YtjbkoablleneeaaGreatDoor.Pk

