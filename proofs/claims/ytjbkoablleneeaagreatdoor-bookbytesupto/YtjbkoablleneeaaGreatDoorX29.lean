import Derived.Test.YtjbkoablleneeaaGreatDoorX28
/- Labels of ticks alone: the walk -/
namespace Go.Proofs.YtjbkoablleneeaaGreatDoor.Pk
open Go Go.RowKit Go.Shelf
attribute [local go_sem] Oper.semAt_some

theorem under105 : ∃ d, Tryz.prog.underlying 105 = some d ∧ d.isRow = true := by
  have h : (Tryz.prog.underlying 105).map (·.isRow) = some true := by kernel_rfl
  cases hq : Tryz.prog.underlying 105 with
  | none => rw [hq] at h; cases h
  | some d => rw [hq] at h; exact ⟨d, rfl, Option.some.inj h⟩
theorem size105 : (Tryz.prog.info? 105).map (·.size) = some 24 := by kernel_rfl
theorem itm_len (t b : Nat) : (itm t b).length = 24 := rfl
theorem itm_one (t b : Nat) : (itm t b).toArray.all (·.oneCell') = true := all_oneCell_toArray (by
  intro v hv
  rcases List.mem_append.1 hv with hv | hv
  · exact en_one _ v hv
  · rcases List.mem_cons.1 hv with rfl | hv
    · rfl
    · simp only [zdg, List.mem_cons, List.not_mem_nil, or_false] at hv
      rcases hv with rfl | rfl | rfl | rfl | rfl | rfl | rfl | rfl | rfl | rfl | rfl | rfl | rfl | rfl | rfl <;> rfl)
theorem itVar (w3 : World) (C : Array Value) (hC : C.size = 24) (t b : Nat) (w4 : World) (h : (w3.alloc (.cells C 105)).setCells w3.heap.size 0 (itm t b) = w4) : Has w4 w3.heap.size (itm t b) 105 ∧ w3.grownBy w4 none := by
  subst h
  exact ⟨(Has.newA w3 C 105).setAll _ (by rw [itm_len, Array.length_toList, hC]), gr_new (World.grownBy_alloc _ _ _) (gr_sets _ _ _ _) (Nat.le_refl _)⟩
theorem lbVar (w3 : World) (C : Array Value) (hC : C.size = 4) (w4 : World) (h : (w3.alloc (.cells C 53)).setCells w3.heap.size 0 lbl = w4) : Has w4 w3.heap.size lbl 53 ∧ w3.grownBy w4 none := by
  subst h
  exact ⟨(Has.newA w3 C 53).setAll _ (by simp [hC, lbl]), gr_new (World.grownBy_alloc _ _ _) (gr_sets _ _ _ _) (Nat.le_refl _)⟩
theorem wpListIn_append_run {F : Fence} {n : Nat} {P : Program} (w : World) {ops : Array Oper} {rest : List Oper} {o : Oper} {a : Act} {Q : Exit → Act → World → Prop} (hgd : o.guard = none) (s x : Operand) (t u : TypeId)
    (ho : o.op = .call { callee := .builtin .append, args := #[s, x], argTypes := #[t, u] }) (v y : Value) (hs : a.eval s = v) (hx : a.eval x = y) {v' : Value} {w' : World}
    (hr : (Builtin.append_ #[t, u] o.type #[v, y]).run P w = .ok v' w') (h : wpListIn F n P ops Q rest (a.put o.dst v') w') : wpListIn F n P ops Q (o :: rest) a w :=
  wpListIn_plain hgd fun _ hK => by
    unfold Oper.wpIn
    refine ⟨?_, ?_⟩
    · simp [Oper.about, ho, resolve, Target.leads, Sem.run_pure]
    · rw [Oper.semAt_plain F _ _ (by rw [ho]; intro c hc'; cases hc')]
      simp only [execOp, ho, resolve, invoke, builtin, Sem.run_bind, Sem.run_pure, Result.andThen_ok, List.map_toArray, List.map_cons, List.map_nil, hs, hx, hr]
      exact hK _ _ h
theorem wpListIn_bs_run {F : Fence} {n : Nat} {P : Program} {w : World} {ops : Array Oper} {rest : List Oper} {o : Oper} {a : Act} {Q : Exit → Act → World → Prop} (hgd : o.guard = none) (x : Operand) (t : TypeId)
    (ho : o.op = .buildSlice t 1 #[(0, x)]) (v : Value) (hx : a.eval x = v) {v' : Value} {w' : World}
    (hr : (Instr.buildSlice t 1 #[(0, v)]).run P w = .ok v' w') (h : wpListIn F n P ops Q rest (a.put o.dst v') w') : wpListIn F n P ops Q (o :: rest) a w :=
  wpListIn_plain hgd fun _ hK => by
    unfold Oper.wpIn
    refine ⟨?_, ?_⟩
    · simp [Oper.about, ho]
    · rw [Oper.semAt_plain F _ _ (by rw [ho]; intro c hc'; cases hc')]
      simp only [execOp, ho, Sem.run_bind, Sem.run_pure, Result.andThen_ok, List.map_toArray, List.map_cons, List.map_nil, hx, hr]
      exact hK _ _ h
set_option maxRecDepth 100000 in
theorem bs53_run (w : World) : (Instr.buildSlice 43 1 #[(0, .agg lbl.toArray)]).run Tryz.prog w = .ok (.slice (some ⟨w.heap.size, 0, none⟩) 1 1) (w.alloc (.cells lbl.toArray 53)) := by kernel_rfl
/-- all ticks as they should be -/
def Gd (T : List Nat) (m : Nat) : Prop := ∀ x, x < m → T.getD x 0 = x
set_option maxRecDepth 100000 in
set_option maxHeartbeats 16000000 in
theorem labels_c (T : List Nat) (lb m : Nat) (w : World) (hE : Has w lb (ens (T.map tk)) 35) (hm : T.length = m) (hm9 : m ≤ 900) :
    Calls Tryz.prog 16 #[.slice (some ⟨lb, 0, none⟩) m m] w fun e w' => w.grownBy w' none ∧ (Gd T m → ∃ v, e = .returned (.tuple #[v, iv 0]) ∧ w'.ownsRow w.heap.size 53 4 v m (lbls m)) ∧ (¬ Gd T m → e = .returned (.tuple #[.slice none 0 0, iv 190])) := by
  have HE := Keep.mk (And.intro hE hm)
  obtain ⟨W4, hW4⟩ : ∃ W4, (((w.alloc (.cells #[.slice none 0 0] 43)).alloc (.cells #[.int .i64 0] 27)).alloc (.cells #[.slice none 0 0] 43)).alloc (.cells hz.toArray 96) = W4 := ⟨_, rfl⟩
  have HL : Keep (Lb w W4 w.heap.size (w.heap.size + 1) (w.heap.size + 1 + 1) (w.heap.size + 1 + 1 + 1) 0) := ⟨by
    rw [← hW4]
    have e2 : ∀ (W : World) (o : Obj), (W.alloc o).heap.size = W.heap.size + 1 := fun W o => heap1 W o
    refine ⟨(((Has.newA w #[.slice none 0 0] 43).alloc _).alloc _).alloc _, ?_, ⟨_, ?_, World.ownsRow_nil _ _ _ _⟩, ?_, (((World.grownBy_alloc _ _ _).trans (World.grownBy_alloc _ _ _)).trans (World.grownBy_alloc _ _ _)).trans (World.grownBy_alloc _ _ _), by omega, by omega, by omega, by omega, by omega, by omega⟩
    · have := ((Has.newA (w.alloc (.cells #[.slice none 0 0] 43)) #[.int .i64 0] 27).alloc (.cells #[.slice none 0 0] 43)).alloc (.cells hz.toArray 96)
      rw [e2] at this; exact this
    · have := (Has.newA ((w.alloc (.cells #[.slice none 0 0] 43)).alloc (.cells #[.int .i64 0] 27)) #[.slice none 0 0] 43).alloc (.cells hz.toArray 96)
      rw [e2, e2] at this; exact this
    · have := Has.newA (((w.alloc (.cells #[.slice none 0 0] 43)).alloc (.cells #[.int .i64 0] 27)).alloc (.cells #[.slice none 0 0] 43)) hz.toArray 96
      rw [e2, e2, e2] at this; exact this⟩
  have HI := Keep.mk (items_c (some ⟨lb, 0, none⟩) m m)
  clear hE
  refine calls_of_wpN Tryz.func16 rfl ?_
  simp only [Tryz.ntmps16, List.size_toArray, List.length_cons, List.length_nil, Nat.reduceAdd, Nat.reduceSub, Array.replicate_succ, Array.replicate_zero, List.push_toArray, List.append_toArray, List.nil_append, List.cons_append]
  gi_wp2_with (
    (show wpListIn _ _ _ _ _ ({ dst := _, op := Op.alloc 96, type := _, pos := _, after := _, guard := _ } :: _) _ _
     refine wpListIn_alloc rfl 96 rfl (alloc96 _) ?_
     rw [hW4]))
  refine ⟨trivial, (callsIn_wide.2 (HI.out W4)).mono ?_⟩
  rintro e W5 ⟨rfl, hW5⟩
  obtain ⟨b2, hb2⟩ : ∃ q, w.heap.size = q := ⟨_, rfl⟩
  obtain ⟨Bn, hBn⟩ : ∃ q, W4.heap.size = q := ⟨_, rfl⟩
  have HL5 := HL.out.grown (World.grownBy_alloc W4 (.cells #[Value.slice (some ⟨lb, 0, none⟩) m m] 22) none)
  have HBn := Has.newA W4 #[Value.slice (some ⟨lb, 0, none⟩) m m] 22
  rw [← hW5] at HL5 HBn
  rw [hBn] at HBn
  have H5 : Keep (Lb w W5 w.heap.size (w.heap.size + 1) (w.heap.size + 1 + 1) (w.heap.size + 1 + 1 + 1) 0 ∧ Has W5 Bn [Value.slice (some ⟨lb, 0, none⟩) m m] 22 ∧ Has W5 lb (ens (T.map tk)) 35) := ⟨HL5, HBn, HE.out.1.kept HL5.g (by simp)⟩
  obtain ⟨b3, hb3⟩ : ∃ q, w.heap.size + 1 = q := ⟨_, rfl⟩
  obtain ⟨b4, hb4⟩ : ∃ q, b3 + 1 = q := ⟨_, rfl⟩
  obtain ⟨b5, hb5⟩ : ∃ q, b4 + 1 = q := ⟨_, rfl⟩
  simp only [hb3, hb4, hb5] at H5 ⊢
  obtain ⟨wn, hwn⟩ : ∃ q, w.heap.size = q := ⟨_, rfl⟩
  have HB2 : Keep (w.heap.size = b2) := ⟨hb2⟩
  rw [hb2] at H5 ⊢
  rw [hBn]
  clear HL5 HBn hW5 hW4 HL hb3 hb4 hb5 hwn HI hBn hb2
  obtain ⟨d105, U105, Q105⟩ := under105
  obtain ⟨d53, U53, Q53⟩ := underL
  gi_wp2_with fail
  refine wpIn_rangeFunc_ownH (α := Nat) (n := 8) rfl (by decide) (gf := 74) (lb := #[.pointer (some ⟨Bn, 0, none⟩)]) rfl trivial (enters_of Tryz.func74 (by kernel_rfl) rfl)
    (items_stops 7 Bn lb m T W5 (by decide) H5.out.2.1 H5.out.2.2 HE.out.2 (by omega)) KpT.trans (fun W l o o' _ h ho _ => KpT.put W l o o' h ho) (Below.refl _ _) (by exact fun _ => rfl)
    (fun pre W => (∀ x ∈ pre, T.getD x 0 = x) ∧ Lb w W b2 b3 b4 b5 pre.length)
    (fun cc pre W => cc = .ret ∧ (∃ x ∈ pre, T.getD x 0 ≠ x) ∧ Has W b2 [.slice none 0 0] 43 ∧ Has W b3 [iv 190] 27 ∧ w.grownBy W none)
    (fun pre W W' row hs hg hr => ⟨hs.1, hs.2.turn hg (fun r e => ⟨Nat.le_trans H5.out.1.g.size (hr r e).1, (hr r e).2⟩)⟩)
    (fun cc pre W W' row hs hg hr => ⟨hs.1, hs.2.1, has_turn hs.2.2.1 hg (fun r e => (hr r e).2), has_turn hs.2.2.2.1 hg (fun r e => (hr r e).2), fr_mine hs.2.2.2.2 (Fr.of hg) (fun i e => Nat.le_trans H5.out.1.g.size (hr i e).1)⟩)
    ⟨by simp, H5.out.1⟩
    (fun x a' W => ∃ xb, a' = { tmps := #[.slice (some ⟨lb, 0, none⟩) m m, undef, .pointer (some ⟨b2, 0, none⟩), .pointer (some ⟨b3, 0, none⟩), .pointer (some ⟨b4, 0, none⟩), .pointer (some ⟨b5, 0, none⟩), .pointer (some ⟨xb, 0, none⟩), undef, undef, .slice (some ⟨lb, 0, none⟩) m m, .func (.func 74) #[] #[.pointer (some ⟨Bn, 0, none⟩)], .agg (itm (T.getD x 0) x).toArray, undef, undef, undef, undef, undef, undef, undef, undef, undef, undef, undef, undef, undef, undef, undef, undef, undef, undef, undef], defers := [] } ∧ Has W xb (itm (T.getD x 0) x) 105)
    (fun x a' u W W' row hs hg hr => by obtain ⟨xb, e1, e2⟩ := hs; exact ⟨xb, e1, has_turn e2 hg (fun r e => (hr r e).2)⟩)
    ?assign ?body ?done ?stop
  case assign =>
    intro lp pre x W K hI hK
    gi_wp2_with (
      (show wpListIn _ _ _ _ _ ({ dst := _, op := Op.store 105 _ _, type := _, pos := _, after := _, guard := _ } :: _) _ _
       refine wpListIn_store_mid rfl 105 _ _ rfl _ _ _ rfl rfl ((Has.newA W _ 105).there 0 _ (Nat.le_refl 24)) size105 (itm_one _ _) ?_
       generalize hw6 : World.setCells _ _ _ _ = w6
       obtain ⟨h6, g6⟩ := itVar W _ rfl _ _ w6 hw6))
    exact hK _ _ (keeps_grown g6) (KpT.grown g6) ⟨hI.1, hI.2.grown g6⟩ ⟨W.heap.size, rfl, h6⟩
  case body =>
    rintro lp pre x a' W _ _ ⟨hgd, hI⟩ ⟨xb, rfl, hx⟩ hlen
    obtain ⟨t, ht⟩ : ∃ t, T.getD x 0 = t := ⟨_, rfl⟩
    rw [ht] at hx ⊢
    have HX := Keep.mk hx
    have HI := Keep.mk hI
    have HGD := Keep.mk hgd
    have HT := Keep.mk ht
    have hsz : ∀ b, (Tryz.prog.info? 105).map (·.size) = some (itm t b).length := fun _ => size105
    clear hx hI hgd ht
    by_cases htx : t = x
    · subst htx
      gi_wp2_with (
        (show wpListIn _ _ _ _ _ ({ dst := _, op := Op.load 105 _, type := _, pos := _, after := _, guard := _ } :: _) _ _
         refine wpListIn_load_mid rfl 105 _ rfl _ _ rfl (itm t t) _ HX.out.range U105 Q105 size105 ?_))
      refine ⟨trivial, (CallsIn.inRound lp (callsIn_wide.2 (formed_c t _))).mono ?_⟩
      rintro e w1 ⟨rfl, g1⟩
      have HX1 := Keep.mk (HX.out.kept g1 (by simp))
      have HG1 := Keep.mk g1
      clear g1 HX
      gi_wp2_with (
        (show wpListIn _ _ _ _ _ ({ dst := some 16, op := Op.load 105 _, type := _, pos := _, after := _, guard := _ } :: _) _ _
         refine load_gIn rfl 105 _ rfl _ _ rfl (itm t t) _ HX1.out.range U105 Q105 size105 ?_))
      refine ⟨trivial, (CallsIn.inRound lp (callsIn_wide.2 (admits_c b5 t t _))).mono ?_⟩
      rintro e w2 ⟨rfl, g2⟩
      have HX2 := Keep.mk (HX1.out.kept g2 (by simp))
      have HG2 := Keep.mk (HG1.out.trans g2)
      clear g2 HX1 HG1
      gi_wp2_with (
        (show wpListIn _ _ _ _ _ ({ dst := some 21, op := Op.load 105 _, type := _, pos := _, after := _, guard := _ } :: _) _ _
         refine wpListIn_load_mid rfl 105 _ rfl _ _ rfl (itm t t) _ HX2.out.range U105 Q105 size105 ?_))
      refine ⟨trivial, (CallsIn.inRound lp (callsIn_wide.2 (follow_c b5 t t _ (HI.out.grown HG2.out).h5))).mono ?_⟩
      rintro e w3 ⟨rfl, g3⟩
      have HG3 := Keep.mk (HG2.out.trans g3)
      clear g3 HX2 HG2
      gi_wp2_with (first
        | (show wpListIn _ _ _ _ _ ({ dst := _, op := Op.store 53 _ _, type := _, pos := _, after := _, guard := _ } :: _) _ _
           refine wpListIn_store_mid rfl 53 _ _ rfl _ _ lbl.toArray rfl rfl ((Has.newA w3 _ 53).there 0 _ (Nat.le_refl 4)) size53 (all_oneCell_toArray lbl_one) ?_
           generalize hw4 : World.setCells _ _ _ _ = w4
           obtain ⟨h4, g4⟩ := lbVar w3 _ rfl w4 hw4
           have HG4 := Keep.mk (HG3.out.trans g4)
           have HH4 := Keep.mk h4
           obtain ⟨v, hv4, hvr⟩ := (HI.out.grown HG4.out).h4
           obtain ⟨v', w5, ⟨va', vc', rfl⟩, ap, cc, ff, lb5, kp5, kf5⟩ := (HI.out.grown HG4.out).app hv4 hvr (by omega)
           obtain ⟨va, vc, rfl⟩ := own_slice hvr
           have AP := Keep.mk ap
           have H5' := Keep.mk (And.intro lb5 (And.intro kp5 kf5))
           have c4 : w4.cell? ⟨b4, 0, none⟩ = some (.slice va pre.length vc) := hv4.cellv 0 _ rfl
           clear h4 g4 hw4 hv4 hvr ap lb5 kp5 kf5 HG3)
        | (show wpListIn _ _ _ _ _ ({ dst := some 27, op := Op.load 53 _, type := _, pos := _, after := _, guard := _ } :: _) _ _
           refine wpListIn_load_mid rfl 53 _ rfl _ _ rfl lbl _ HH4.out.range U53 Q53 size53 ?_)
        | (show wpListIn _ _ _ _ _ ({ dst := _, op := Op.buildSlice 43 _ _, type := _, pos := _, after := _, guard := _ } :: _) _ _
           refine wpListIn_bs_run rfl (.tmp 27) 43 rfl _ rfl (bs53_run _) ?_)
        | (show wpListIn _ _ _ _ _ ({ dst := some 29, op := Op.call { callee := Callee.builtin Builtin.append, args := _, argTypes := _ }, type := _, pos := _, after := _, guard := _ } :: _) _ _
           refine wpListIn_append_run _ rfl (.tmp 26) (.tmp 28) 43 43 rfl _ _ rfl rfl AP.out ?_))
      refine ⟨keeps_tr (keeps_grown HG4.out) (H5'.out.2.2 _), (KpT.grown HG4.out).trans H5'.out.2.1, fun y hy => ?_, by rw [List.length_append, List.length_singleton]; exact H5'.out.1⟩
      rcases List.mem_append.1 hy with hy | hy
      · exact HGD.out y hy
      · rw [List.mem_singleton.1 hy]; exact HT.out
    · have HU := Keep.mk (unformed_c t x W htx)
      gi_wp2_with (
        (show wpListIn _ _ _ _ _ ({ dst := _, op := Op.load 105 _, type := _, pos := _, after := _, guard := _ } :: _) _ _
         refine wpListIn_load_mid rfl 105 _ rfl _ _ rfl (itm t x) _ HX.out.range U105 Q105 size105 ?_))
      refine ⟨trivial, (CallsIn.inRound lp (callsIn_wide.2 HU.out)).mono ?_⟩
      rintro e w1 ⟨rfl, g1⟩
      have hL := HI.out.grown g1
      have c2 : w1.cell? ⟨b2, 0, none⟩ = some (.slice none 0 0) := hL.h2.cellv 0 _ rfl
      have f2 := hL.h2.frozen 0
      have n23 : b3 ≠ b2 := fun e => by
        have q1 := hL.h2; have q2 := hL.h3
        subst e
        unfold Has at q1 q2
        rw [q1] at q2
        have := Option.some.inj q2
        injection this with e1 e2
        cases e2
      have k2 := gr_set w1 b2 0 (.slice none 0 0)
      have h23 : Has (w1.setCell ⟨b2, 0, none⟩ (.slice none 0 0)) b3 [iv 0] 27 := hL.h3.kept k2 (fun e => n23 (Option.some.inj e))
      have c3 : (w1.setCell ⟨b2, 0, none⟩ (.slice none 0 0)).cell? ⟨b3, 0, none⟩ = some (iv 0) := h23.cellv 0 _ rfl
      have f3 := h23.frozen 0
      have k3 := gr_set (w1.setCell ⟨b2, 0, none⟩ (.slice none 0 0)) b3 0 (iv 190)
      have hb2' : Has (w1.setCell ⟨b2, 0, none⟩ (.slice none 0 0)) b2 [.slice none 0 0] 43 := hL.h2.setCell 0 _
      have gA : w.grownBy ((w1.setCell ⟨b2, 0, none⟩ (.slice none 0 0)).setCell ⟨b3, 0, none⟩ (iv 190)) none := gr_new (gr_new hL.g k2 hL.l2) k3 hL.l3
      have kk : KeepsFrom W5.heap.size W ((w1.setCell ⟨b2, 0, none⟩ (.slice none 0 0)).setCell ⟨b3, 0, none⟩ (iv 190)) := keeps_tr (keeps_grown g1) (keeps_tr (keeps_row k2 (fun r e => by cases e; exact ⟨_, hL.h2, rfl⟩)) (keeps_row k3 (fun r e => by cases e; exact ⟨_, h23, rfl⟩)))
      have HF := Keep.mk (And.intro kk (And.intro (hb2'.kept k3 (fun e => n23 (Option.some.inj e).symm)) (And.intro (h23.setCell 0 (iv 190)) gA)))
      have HNE : Keep (T.getD x 0 ≠ x) := ⟨by rw [HT.out]; exact htx⟩
      clear hL h23 hb2' gA kk g1 k2 k3
      gi_wp2_with fail
      refine ⟨trivial, ?_⟩
      gi_wp2_with fail
      exact ⟨HF.out.1, rfl, ⟨x, by simp, HNE.out⟩, HF.out.2.1, HF.out.2.2.1, HF.out.2.2.2⟩
  case done =>
    rintro D xs W hD rfl ⟨hgd, hI⟩ hK
    rw [List.length_range] at hI
    obtain ⟨v, hv, hr⟩ := hI.h4
    obtain ⟨va, vc, rfl⟩ := own_slice hr
    obtain ⟨v, hveq⟩ : ∃ q, Value.slice va m vc = q := ⟨_, rfl⟩
    rw [hveq] at hv hr
    have c4 : W.cell? ⟨b4, 0, none⟩ = some v := hv.cellv 0 _ rfl
    have c2 : W.cell? ⟨b2, 0, none⟩ = some (.slice none 0 0) := hI.h2.cellv 0 _ rfl
    have f2 := hI.h2.frozen 0
    have g2 := gr_set W b2 0 v
    have n23 : b3 ≠ b2 := fun e => by
      have q1 := hI.h2; have q2 := hI.h3
      subst e
      unfold Has at q1 q2
      rw [q1] at q2
      have := Option.some.inj q2
      injection this with e1 e2
      cases e2
    have h23 : Has (W.setCell ⟨b2, 0, none⟩ v) b3 [iv 0] 27 := hI.h3.kept g2 (fun e => n23 (Option.some.inj e))
    have c3 : (W.setCell ⟨b2, 0, none⟩ v).cell? ⟨b3, 0, none⟩ = some (iv 0) := h23.cellv 0 _ rfl
    have f3 := h23.frozen 0
    have g3 := gr_set (W.setCell ⟨b2, 0, none⟩ v) b3 0 (iv 0)
    have hb2' : Has (W.setCell ⟨b2, 0, none⟩ v) b2 [v] 43 := hI.h2.setCell 0 v
    have hr2 : (W.setCell ⟨b2, 0, none⟩ v).ownsRow w.heap.size 53 4 v m (lbls m) := World.ownsRow.kept hr g2 (by
      by_cases q : v.ownBlock = none
      · exact .inl q
      · exact .inr (own_type hr hI.h2 (by decide)))
    have hr3 : ((W.setCell ⟨b2, 0, none⟩ v).setCell ⟨b3, 0, none⟩ (iv 0)).ownsRow w.heap.size 53 4 v m (lbls m) := World.ownsRow.kept hr2 g3 (by
      by_cases q : v.ownBlock = none
      · exact .inl q
      · exact .inr (own_type hr2 h23 (by decide)))
    have gA : w.grownBy ((W.setCell ⟨b2, 0, none⟩ v).setCell ⟨b3, 0, none⟩ (iv 0)) none := gr_new (gr_new hI.g g2 hI.l2) g3 hI.l3
    have hDc : ((W.setCell ⟨b2, 0, none⟩ v).setCell ⟨b3, 0, none⟩ (iv 0)).heap[D]? = some (.deferred (some [])) := by
      have hlt := (Array.getElem?_eq_some_iff.1 hK).1
      have z2 : D ≠ b2 := fun e => by subst e; have q := hI.h2; unfold Has at q; rw [hK] at q; cases q
      have z3 : D ≠ b3 := fun e => by subst e; have q := hI.h3; unfold Has at q; rw [hK] at q; cases q
      rw [g3.block D (Nat.lt_of_lt_of_le hlt g2.size) (fun e => z3 (Option.some.inj e)), g2.block D hlt (fun e => z2 (Option.some.inj e)), hK]
    have HF := Keep.mk (And.intro gA (And.intro hr3 (And.intro hDc (And.intro (hb2'.kept g3 (fun e => n23 (Option.some.inj e).symm)) (h23.setCell 0 (iv 0))))))
    have HGD : Keep (Gd T m) := ⟨fun x hx => hgd x (List.mem_range.2 hx)⟩
    have HDD : Keep (w.heap.size ≤ D) := ⟨Nat.le_trans H5.out.1.g.size hD⟩
    clear hI hr hr2 hr3 gA hDc hb2' h23 hv hK hgd
    subst hveq
    gi_wp2_with fail
    refine leaves_two (p := 2) (q := 3) rfl _ b2 b3 D _ 0 rfl rfl _ rfl HF.out.2.2.1 HF.out.2.2.2.1 HF.out.2.2.2.2 ⟨fr_mine HF.out.1 (Fr.of (grownBy_putObj' _ D (.deferred none))) (fun i e => by cases e; exact HDD.out), fun _ => ⟨_, rfl, own_turn HF.out.2.1 (grownBy_putObj' _ D (.deferred none)) (fun r e => by cases e; exact ⟨_, HF.out.2.2.1, rfl⟩)⟩, fun q => absurd HGD.out q⟩
  case stop =>
    rintro D cc pre W hD ⟨hpre, hle⟩ ⟨rfl, ⟨x, hx, hne⟩, h2, h3, hg⟩ hK
    have hxm : x < m := by rw [hpre] at hx; have := List.mem_range.1 hx; omega
    have HF := Keep.mk (And.intro h2 (And.intro h3 (And.intro hg hK)))
    have HNG : Keep (¬ Gd T m) := ⟨fun q => hne (q x hxm)⟩
    have HDD : Keep (w.heap.size ≤ D) := ⟨Nat.le_trans H5.out.1.g.size hD⟩
    clear h2 h3 hg hK hne hx
    gi_wp2_with fail
    exact leaves_two (p := 2) (q := 3) rfl _ b2 b3 D (.slice none 0 0) 190 rfl rfl _ rfl HF.out.2.2.2 HF.out.1 HF.out.2.1 ⟨fr_mine HF.out.2.2.1 (Fr.of (grownBy_putObj' _ D (.deferred none))) (fun i e => by cases e; exact HDD.out), fun q => absurd q HNG.out, fun _ => rfl⟩
end Go.Proofs.YtjbkoablleneeaaGreatDoor.Pk

