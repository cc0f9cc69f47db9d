/- Ahead -/
import Derived.Test.YtfhhneibdmjfgaaQ6
import Derived.Deep.DeepCutAuto
namespace Go.Proofs.Ytfhhneibdmjfgaa
open Go Go.RowKit Ieee Fx
namespace Sm
set_option maxRecDepth 100000
attribute [local go_sem] run_store_fl
abbrev iv (x : Int) : Value := .int .i64 x
structure Cr where
  p : Int
  n : ByteArray
  x : Int
  y : Int
  u : Int
  v : Int
  h : Int
  he : Int
  en : Int
  am : Int
  co : Int
  wt : Int
  sp : Int
  sc : Int
def crv (c : Cr) : List Value := [iv c.p, .string c.n, iv c.x, iv c.y, iv c.u, iv c.v, iv c.h, iv c.he, iv c.en, iv c.am, iv c.co, iv c.wt, iv c.sp, iv c.sc]
abbrev crA (c : Cr) : Array Value := #[iv c.p, .string c.n, iv c.x, iv c.y, iv c.u, iv c.v, iv c.h, iv c.he, iv c.en, iv c.am, iv c.co, iv c.wt, iv c.sp, iv c.sc]
theorem wreck_c (c : Cr) (w : World) : Calls Try.prog 25 #[.agg (crA c)] w fun e w' => e = .returned (.bool (decide (0 < c.wt))) ∧ w.grownBy w' none := by
  have HB := Keep.mk (And.intro (Has.newA w (crA c) 26) (gr_alloc w (.cells (crA c) 26) none))
  go_enter Try.func25, Try.ntmps25
  go_wp2_with fail
  go_ret
  exact ⟨rfl, HB.out.2⟩
def t1V (c : Cr) (t : OF) : OF := if (!gtB t k0 || decide (0 < c.wt)) = true then k0 else t
def t2V (t : OF) : OF := if gtB t k32 then k32 else t
def ahV (c : Cr) (t : OF) : Pl := ⟨alongV (V (fl c.x)) (V (fl c.u)) (t2V (t1V c t)), alongV (V (fl c.y)) (V (fl c.v)) (t2V (t1V c t)), angV c.h⟩
theorem IsV.c0 : IsV k0 := ⟨_, V0⟩
theorem IsV.c32 : IsV k32 := ⟨_, V32⟩
theorem isV_t2 (c : Cr) (t : Nat) : IsV (t2V (t1V c (V t))) := by
  unfold t2V
  split
  · exact .c32
  · unfold t1V
    split
    · exact .c0
    · exact .of t
theorem row26 : ∃ d, Try.prog.underlying 26 = some d ∧ d.isRow = true := ⟨_, Try.underlying26, rfl⟩
theorem info26 : (Try.prog.info? 26).map (·.size) = some 14 := by kernel_rfl
set_option maxHeartbeats 8000000 in
theorem ahead_c (c : Cr) (t : Nat) (w0 : World) :
    Calls Try.prog 23 #[.agg (crA c), fv t] w0 fun e W' => ∃ v, e = .returned v ∧ PV v (ahV c (V t)) ∧ w0.grownBy W' none := by
  have HS := Keep.mk ((((Sep.nil w0).newBox (crA c) 26).newBox #[fv 0, fv 0, fv 0] 37))
  simp only [World.size_alloc] at HS
  go_enter Try.func23, Try.ntmps23
  go_upto_region 1 with fail
  generalize hW : ((w0.alloc (.cells (crA c) 26)).alloc (.cells #[fv 0, fv 0, fv 0] 37)) = W0 at HS ⊢
  obtain ⟨xb, hxb⟩ : ∃ xb, w0.heap.size = xb := ⟨_, rfl⟩
  obtain ⟨rb, hrb⟩ : ∃ rb, xb + 1 = rb := ⟨_, rfl⟩
  have HL : Keep (w0.heap.size ≤ rb) := ⟨by omega⟩
  rw [hxb, hrb] at HS ⊢
  clear hxb hrb hW
  go_cut [12] (fun sv wx => ∃ u, u = wx ∧ sv = .bool (!gtB (V t) k0 || decide (0 < c.wt)) ∧ Keep (Sep w0 u [boxA rb [fv 0, fv 0, fv 0] 37, boxA xb (crv c) 26]))
  case first =>
    cases h1 : gtB (V t) k0
    · have d1 := gtr_is t 0 rfl V0 h1
      replace h1 := Keep.mk h1
      go_wp2_with fail
      go_meet
      exact ⟨_, rfl, by rw [h1.out]; rfl, HS⟩
    · have d1 := gtr_is t 0 rfl V0 h1
      replace h1 := Keep.mk h1
      have hb := (HS.out.boxGet k1m).range
      obtain ⟨du, hdu, hdr⟩ := row26
      have L26 := info26
      go_wp2_with (first | (show wpList _ _ _ ({ dst := some 10, op := Op.load 26 (Operand.tmp 2), type := _, pos := _, after := _, guard := _ } :: _) _ _; refine load_g (by rfl) 26 (.tmp 2) rfl xb 0 rfl (crv c) du hb hdu hdr L26 ?_))
      refine (wreck_c c W0).mono ?_
      rintro e W1 ⟨rfl, g⟩
      have HS1 := Keep.mk (HS.out.grown g)
      clear g hb
      go_wp2_with fail
      go_meet
      exact ⟨_, rfl, by rw [h1.out]; rfl, HS1⟩
  case rest =>
  clear HS
  obtain ⟨W1, rfl, rfl, HS⟩ := hcut
  have HT : Keep (t1V c (V t) = if (!gtB (V t) k0 || decide (0 < c.wt)) = true then k0 else V t) := ⟨rfl⟩
  generalize (!gtB (V t) k0 || decide (0 < c.wt)) = B at *
  generalize hT1 : t1V c (V t) = T1 at *
  go_upto_if 12 with fail
  go_cut [1] (fun sv wx => ∃ g u, u = wx ∧ sv = fv g ∧ Keep (V g = T1) ∧ Keep (Sep w0 u [boxA rb [fv 0, fv 0, fv 0] 37, boxA xb (crv c) 26]))
  case first =>
    cases B
    · go_wp2_with fail
      go_meet
      exact ⟨_, _, rfl, rfl, ⟨HT.out.symm⟩, HS⟩
    · go_wp2_with fail
      go_meet
      exact ⟨_, _, rfl, rfl, ⟨V0.trans HT.out.symm⟩, HS⟩
  case rest =>
  clear HS HT
  obtain ⟨g1, W1, rfl, rfl, Hg1, HS⟩ := hcut
  have HT : Keep (t2V T1 = if gtB T1 k32 then k32 else T1) := ⟨rfl⟩
  generalize hT2 : t2V T1 = T2 at *
  go_upto_if 14 with fail
  go_cut [1] (fun sv wx => ∃ g u, u = wx ∧ sv = fv g ∧ Keep (V g = T2) ∧ Keep (Sep w0 u [boxA rb [fv 0, fv 0, fv 0] 37, boxA xb (crv c) 26]))
  case first =>
    cases s1 : gtB T1 k32
    · have e1 := gtr_is g1 1107296256 Hg1.out V32 s1
      rw [e1]
      replace s1 := Keep.mk s1
      go_wp2_with fail
      go_meet
      exact ⟨_, _, rfl, rfl, ⟨by rw [HT.out, s1.out]; exact Hg1.out⟩, HS⟩
    · have e1 := gtr_is g1 1107296256 Hg1.out V32 s1
      rw [e1]
      replace s1 := Keep.mk s1
      go_wp2_with fail
      go_meet
      exact ⟨_, _, rfl, rfl, ⟨by rw [HT.out, s1.out]; exact V32⟩, HS⟩
  case rest =>
  clear HS HT Hg1
  obtain ⟨g2, W1, rfl, rfl, Hg2, HS⟩ := hcut
  have l2 := (HS.out.boxGet k1m).cellv 2 _ rfl
  have l3 := (HS.out.boxGet k1m).cellv 3 _ rfl
  have l6 := (HS.out.boxGet k1m).cellv 6 _ rfl
  go_wp2_with fail
  clear l2 l3 l6
  refine (of_c c.x c.y c.h W1).mono ?_
  rintro e W2 ⟨v, rfl, ⟨px, py, pa, rfl, hpx, hpy, hpa⟩, g⟩
  have HS2 := HS.out.grown g
  clear g HS
  have HS3 := Keep.mk (HS2.newBox #[fv px, fv py, fv pa] 37)
  obtain ⟨ab, hab⟩ : ∃ ab, W2.heap.size = ab := ⟨_, rfl⟩
  rw [hab] at HS3
  have HP := Keep.mk (And.intro hpx (And.intro hpy hpa))
  clear hpx hpy hpa HS2
  go_wp2_with fail
  clear hab
  generalize W2.alloc (.cells #[fv px, fv py, fv pa] 37) = W3 at HS3 ⊢
  refine region_R (fun w => W3.grownBy w none) [9] [5, 7] (fun i v => if i = 5 then (fun v => v = fv (fl c.u)) v else if i = 7 then (fun v => FV v (alongV (V (fl c.x)) (V (fl c.u)) T2)) v else False) 1 9 (by kernel_rfl) (by rfl) (gr_drew _ _) (fun hHeld0 => ?_)
  refine wpR_pure (i := 0) (oi := _) (v := ?_) rfl (by kernel_rfl) (by kernel_rfl) (by kernel_rfl) (by kernel_rfl) (by kernel_rfl) (by kernel_rfl) hHeld0 (Or.inl ⟨by rfl, ?_⟩) ?_
  rotate_left
  · (intro w hSw; go_simp; first | done | (with_reducible rfl))
  simp only [Act.put, List.getElem_toArray, List.getElem_cons_zero, List.setIfInBounds_toArray, List.set_cons_zero, List.set_cons_succ]
  refine wpR_pure (i := 1) (oi := _) (v := ?_) rfl (by kernel_rfl) (by kernel_rfl) (by kernel_rfl) (by kernel_rfl) (by kernel_rfl) (by kernel_rfl) hHeld0 (Or.inl ⟨by rfl, ?_⟩) ?_
  rotate_left
  · (intro w hSw; have q0 := ((HS3.out.grown hSw).boxGet k0m).cellv 0 _ rfl; go_simp; first | done | (with_reducible rfl))
  simp only [Act.put, List.getElem_toArray, List.getElem_cons_succ, List.getElem_cons_zero, List.setIfInBounds_toArray, List.set_cons_zero, List.set_cons_succ]
  refine wpR_pure (i := 2) (oi := _) (v := ?_) rfl (by kernel_rfl) (by kernel_rfl) (by kernel_rfl) (by kernel_rfl) (by kernel_rfl) (by kernel_rfl) hHeld0 (Or.inl ⟨by rfl, ?_⟩) ?_
  rotate_left
  · (intro w hSw; go_simp; first | done | (with_reducible rfl))
  simp only [Act.put, List.getElem_toArray, List.getElem_cons_succ, List.getElem_cons_zero, List.setIfInBounds_toArray, List.set_cons_zero, List.set_cons_succ]
  refine wpR_pure (i := 3) (oi := _) (v := ?_) rfl (by kernel_rfl) (by kernel_rfl) (by kernel_rfl) (by kernel_rfl) (by kernel_rfl) (by kernel_rfl) hHeld0 (Or.inl ⟨by rfl, ?_⟩) ?_
  rotate_left
  · (intro w hSw; go_simp; first | done | (with_reducible rfl))
  simp only [Act.put, List.getElem_toArray, List.getElem_cons_succ, List.getElem_cons_zero, List.setIfInBounds_toArray, List.set_cons_zero, List.set_cons_succ]
  refine wpR_pure (i := 4) (oi := _) (v := ?_) rfl (by kernel_rfl) (by kernel_rfl) (by kernel_rfl) (by kernel_rfl) (by kernel_rfl) (by kernel_rfl) hHeld0 (Or.inl ⟨by rfl, ?_⟩) ?_
  rotate_left
  · (intro w hSw; have q0 := ((HS3.out.grown hSw).boxGet k2m).cellv 4 _ rfl; go_simp; first | done | (with_reducible rfl))
  simp only [Act.put, List.getElem_toArray, List.getElem_cons_succ, List.getElem_cons_zero, List.setIfInBounds_toArray, List.set_cons_zero, List.set_cons_succ]
  refine wpR_pure (i := 6) (oi := _) (v := ?_) rfl (by kernel_rfl) (by kernel_rfl) (by kernel_rfl) (by kernel_rfl) (by kernel_rfl) (by kernel_rfl) hHeld0 (Or.inl ⟨by rfl, ?_⟩) ?_
  rotate_left
  · (intro w hSw; go_simp; first | done | (with_reducible rfl))
  simp only [Act.put, List.getElem_toArray, List.getElem_cons_succ, List.getElem_cons_zero, List.setIfInBounds_toArray, List.set_cons_zero, List.set_cons_succ]
  refine wpR_some (i := 5) (oi := _) rfl (by kernel_rfl) (by kernel_rfl) (by kernel_rfl) (by kernel_rfl) (by kernel_rfl) (by kernel_rfl) hHeld0 (fun v => v = fv (fl c.u)) rfl ⟨_, rfl⟩ ⟨by rfl, ?_⟩ ?_
  · refine .inr ⟨28, #[iv c.u], fun w => ?_, fun w hSw => ?_⟩
    · (go_simp; first | done | (with_reducible rfl))
    refine (float_c c.u w).mono ?_
    rintro e w' ⟨rfl, rfl⟩
    exact ⟨_, rfl, rfl, hSw⟩
  rintro v rfl
  simp only [Act.put, List.getElem_toArray, List.getElem_cons_succ, List.getElem_cons_zero, List.setIfInBounds_toArray, List.set_cons_zero, List.set_cons_succ]
  refine wpR_some (i := 7) (oi := _) rfl (by kernel_rfl) (by kernel_rfl) (by kernel_rfl) (by kernel_rfl) (by kernel_rfl) (by kernel_rfl) hHeld0 (fun v => FV v (alongV (V (fl c.x)) (V (fl c.u)) T2)) rfl ((IsV.of (fl c.x)).along (IsV.of (fl c.u)) (hT2 ▸ hT1 ▸ isV_t2 c t : IsV T2) w0).ex ⟨by rfl, ?_⟩ ?_
  · refine .inr ⟨31, #[fv px, fv (fl c.u), fv g2], fun w => ?_, fun w hSw => ?_⟩
    · (go_simp; first | done | (with_reducible rfl))
    refine (along_c _ _ _ w).mono ?_
    rintro e w' ⟨⟨v, rfl, hv⟩, g⟩
    exact ⟨v, rfl, by rw [Hg2.out, HP.out.1] at hv; exact hv, World.grownBy.trans hSw g⟩
  rintro v ⟨kx, rfl, hkx⟩
  simp only [Act.put, List.getElem_toArray, List.getElem_cons_succ, List.getElem_cons_zero, List.setIfInBounds_toArray, List.set_cons_zero, List.set_cons_succ]
  refine wpR_pure (i := 8) (oi := _) (v := ?_) rfl (by kernel_rfl) (by kernel_rfl) (by kernel_rfl) (by kernel_rfl) (by kernel_rfl) (by kernel_rfl) hHeld0 (Or.inl ⟨by rfl, ?_⟩) ?_
  rotate_left
  · (intro w hSw; go_simp; first | done | (with_reducible rfl))
  simp only [Act.put, List.getElem_toArray, List.getElem_cons_succ, List.getElem_cons_zero, List.setIfInBounds_toArray, List.set_cons_zero, List.set_cons_succ]
  refine wpR_end (by kernel_rfl) (fun w hSw => ?_)
  refine any_one (i := 9) (by kernel_rfl) rfl (fun K hK => ?_)
  have x0 := ((HS3.out.grown hSw).boxGet k0m).cellv 0 _ rfl
  have y0 := ((HS3.out.grown hSw).boxGet k0m).frozen 0
  go_simp
  clear x0 y0
  have HS4 := Keep.mk ((HS3.out.grown hSw).boxPut 0 (fv kx))
  refine hK.out _ _ ?_
  clear hK K
  generalize w.setCell ⟨ab, 0, none⟩ (fv kx) = W4 at HS4 ⊢
  refine any_done (by kernel_rfl) ?_ _
  clear hSw HS3 hHeld0
  go_wp2_with fail
  refine region_R (fun w => W4.grownBy w none) [9] [5, 7] (fun i v => if i = 5 then (fun v => v = fv (fl c.v)) v else if i = 7 then (fun v => FV v (alongV (V (fl c.y)) (V (fl c.v)) T2)) v else False) 1 9 (by kernel_rfl) (by rfl) (gr_drew _ _) (fun hHeld1 => ?_)
  refine wpR_pure (i := 0) (oi := _) (v := ?_) rfl (by kernel_rfl) (by kernel_rfl) (by kernel_rfl) (by kernel_rfl) (by kernel_rfl) (by kernel_rfl) hHeld1 (Or.inl ⟨by rfl, ?_⟩) ?_
  rotate_left
  · (intro w hSw; go_simp; first | done | (with_reducible rfl))
  simp only [Act.put, List.getElem_toArray, List.getElem_cons_zero, List.setIfInBounds_toArray, List.set_cons_zero, List.set_cons_succ]
  refine wpR_pure (i := 1) (oi := _) (v := ?_) rfl (by kernel_rfl) (by kernel_rfl) (by kernel_rfl) (by kernel_rfl) (by kernel_rfl) (by kernel_rfl) hHeld1 (Or.inl ⟨by rfl, ?_⟩) ?_
  rotate_left
  · (intro w hSw; have q0 := ((HS4.out.grown hSw).boxGet k0m).cellv 1 _ rfl; go_simp; first | done | (with_reducible rfl))
  simp only [Act.put, List.getElem_toArray, List.getElem_cons_succ, List.getElem_cons_zero, List.setIfInBounds_toArray, List.set_cons_zero, List.set_cons_succ]
  refine wpR_pure (i := 2) (oi := _) (v := ?_) rfl (by kernel_rfl) (by kernel_rfl) (by kernel_rfl) (by kernel_rfl) (by kernel_rfl) (by kernel_rfl) hHeld1 (Or.inl ⟨by rfl, ?_⟩) ?_
  rotate_left
  · (intro w hSw; go_simp; first | done | (with_reducible rfl))
  simp only [Act.put, List.getElem_toArray, List.getElem_cons_succ, List.getElem_cons_zero, List.setIfInBounds_toArray, List.set_cons_zero, List.set_cons_succ]
  refine wpR_pure (i := 3) (oi := _) (v := ?_) rfl (by kernel_rfl) (by kernel_rfl) (by kernel_rfl) (by kernel_rfl) (by kernel_rfl) (by kernel_rfl) hHeld1 (Or.inl ⟨by rfl, ?_⟩) ?_
  rotate_left
  · (intro w hSw; go_simp; first | done | (with_reducible rfl))
  simp only [Act.put, List.getElem_toArray, List.getElem_cons_succ, List.getElem_cons_zero, List.setIfInBounds_toArray, List.set_cons_zero, List.set_cons_succ]
  refine wpR_pure (i := 4) (oi := _) (v := ?_) rfl (by kernel_rfl) (by kernel_rfl) (by kernel_rfl) (by kernel_rfl) (by kernel_rfl) (by kernel_rfl) hHeld1 (Or.inl ⟨by rfl, ?_⟩) ?_
  rotate_left
  · (intro w hSw; have q0 := ((HS4.out.grown hSw).boxGet k2m).cellv 5 _ rfl; go_simp; first | done | (with_reducible rfl))
  simp only [Act.put, List.getElem_toArray, List.getElem_cons_succ, List.getElem_cons_zero, List.setIfInBounds_toArray, List.set_cons_zero, List.set_cons_succ]
  refine wpR_pure (i := 6) (oi := _) (v := ?_) rfl (by kernel_rfl) (by kernel_rfl) (by kernel_rfl) (by kernel_rfl) (by kernel_rfl) (by kernel_rfl) hHeld1 (Or.inl ⟨by rfl, ?_⟩) ?_
  rotate_left
  · (intro w hSw; go_simp; first | done | (with_reducible rfl))
  simp only [Act.put, List.getElem_toArray, List.getElem_cons_succ, List.getElem_cons_zero, List.setIfInBounds_toArray, List.set_cons_zero, List.set_cons_succ]
  refine wpR_some (i := 5) (oi := _) rfl (by kernel_rfl) (by kernel_rfl) (by kernel_rfl) (by kernel_rfl) (by kernel_rfl) (by kernel_rfl) hHeld1 (fun v => v = fv (fl c.v)) rfl ⟨_, rfl⟩ ⟨by rfl, ?_⟩ ?_
  · refine .inr ⟨28, #[iv c.v], fun w => ?_, fun w hSw => ?_⟩
    · (go_simp; first | done | (with_reducible rfl))
    refine (float_c c.v w).mono ?_
    rintro e w' ⟨rfl, rfl⟩
    exact ⟨_, rfl, rfl, hSw⟩
  rintro v rfl
  simp only [Act.put, List.getElem_toArray, List.getElem_cons_succ, List.getElem_cons_zero, List.setIfInBounds_toArray, List.set_cons_zero, List.set_cons_succ]
  refine wpR_some (i := 7) (oi := _) rfl (by kernel_rfl) (by kernel_rfl) (by kernel_rfl) (by kernel_rfl) (by kernel_rfl) (by kernel_rfl) hHeld1 (fun v => FV v (alongV (V (fl c.y)) (V (fl c.v)) T2)) rfl ((IsV.of (fl c.y)).along (IsV.of (fl c.v)) (hT2 ▸ hT1 ▸ isV_t2 c t : IsV T2) w0).ex ⟨by rfl, ?_⟩ ?_
  · refine .inr ⟨31, #[fv py, fv (fl c.v), fv g2], fun w => ?_, fun w hSw => ?_⟩
    · (go_simp; first | done | (with_reducible rfl))
    refine (along_c _ _ _ w).mono ?_
    rintro e w' ⟨⟨v, rfl, hv⟩, g⟩
    exact ⟨v, rfl, by rw [Hg2.out, HP.out.2.1] at hv; exact hv, World.grownBy.trans hSw g⟩
  rintro v ⟨ky, rfl, hky⟩
  simp only [Act.put, List.getElem_toArray, List.getElem_cons_succ, List.getElem_cons_zero, List.setIfInBounds_toArray, List.set_cons_zero, List.set_cons_succ]
  refine wpR_pure (i := 8) (oi := _) (v := ?_) rfl (by kernel_rfl) (by kernel_rfl) (by kernel_rfl) (by kernel_rfl) (by kernel_rfl) (by kernel_rfl) hHeld1 (Or.inl ⟨by rfl, ?_⟩) ?_
  rotate_left
  · (intro w hSw; go_simp; first | done | (with_reducible rfl))
  simp only [Act.put, List.getElem_toArray, List.getElem_cons_succ, List.getElem_cons_zero, List.setIfInBounds_toArray, List.set_cons_zero, List.set_cons_succ]
  refine wpR_end (by kernel_rfl) (fun w hSw => ?_)
  refine any_one (i := 9) (by kernel_rfl) rfl (fun K hK => ?_)
  have x0 := ((HS4.out.grown hSw).boxGet k0m).cellv 1 _ rfl
  have y0 := ((HS4.out.grown hSw).boxGet k0m).frozen 1
  go_simp
  clear x0 y0
  have HS5 := Keep.mk ((HS4.out.grown hSw).boxPut 1 (fv ky))
  refine hK.out _ _ ?_
  clear hK K
  generalize w.setCell ⟨ab, 1, none⟩ (fv ky) = W5 at HS5 ⊢
  refine any_done (by kernel_rfl) ?_ _
  clear hSw HS4 hHeld1
  have l0 := (HS5.out.boxGet k0m).cellv 0 _ rfl
  have l1 := (HS5.out.boxGet k0m).cellv 1 _ rfl
  have l2 := (HS5.out.boxGet k0m).cellv 2 _ rfl
  have x0 := (HS5.out.boxGet k1m).cellv 0 _ rfl
  have x1 := (HS5.out.boxGet k1m).cellv 1 _ rfl
  have x2 := (HS5.out.boxGet k1m).cellv 2 _ rfl
  have y0 := (HS5.out.boxGet k1m).frozen 0
  have y1 := (HS5.out.boxGet k1m).frozen 1
  have y2 := (HS5.out.boxGet k1m).frozen 2
  go_wp2_with fail
  have HSF := ((HS5.out.swap.boxPut 0 (fv kx)).boxPut 1 (fv ky)).boxPut 2 (fv pa)
  obtain ⟨du, hdu, hdr⟩ := row37
  exact ret_c rfl rfl (HSF.boxGet k0m) hdu hdr info37 rfl ⟨_, rfl, ⟨_, _, _, rfl, by rw [hkx, ← hT2, ← hT1]; rfl, by rw [hky, ← hT2, ← hT1]; rfl, HP.out.2.2⟩, HSF.1⟩
set_option maxHeartbeats 8000000 in
theorem rahead_c (c : Cr) (t : Nat) (w0 : World) :
    Calls Try.prog 24 #[.agg (crA c), fv t] w0 fun e W' => ∃ v, e = .returned v ∧ PV v (ahV c (V t)) ∧ w0.grownBy W' none := by
  have HS := Keep.mk ((((Sep.nil w0).newBox (crA c) 26).newBox #[fv 0, fv 0, fv 0] 37))
  simp only [World.size_alloc] at HS
  go_enter Try.func24, Try.ntmps24
  go_upto_region 1 with fail
  generalize hW : ((w0.alloc (.cells (crA c) 26)).alloc (.cells #[fv 0, fv 0, fv 0] 37)) = W0 at HS ⊢
  obtain ⟨xb, hxb⟩ : ∃ xb, w0.heap.size = xb := ⟨_, rfl⟩
  obtain ⟨rb, hrb⟩ : ∃ rb, xb + 1 = rb := ⟨_, rfl⟩
  have HL : Keep (w0.heap.size ≤ rb) := ⟨by omega⟩
  rw [hxb, hrb] at HS ⊢
  clear hxb hrb hW
  go_cut [13] (fun sv wx => ∃ u, u = wx ∧ sv = .bool (!gtB (V t) k0 || decide (0 < c.wt)) ∧ Keep (Sep w0 u [boxA rb [fv 0, fv 0, fv 0] 37, boxA xb (crv c) 26]))
  case first =>
    cases h1 : gtB (V t) k0
    · have d1 := gtr_is t 0 rfl V0 h1
      replace h1 := Keep.mk h1
      go_wp2_with fail
      go_meet
      exact ⟨_, rfl, by rw [h1.out]; rfl, HS⟩
    · have d1 := gtr_is t 0 rfl V0 h1
      replace h1 := Keep.mk h1
      have l1 := (HS.out.boxGet k1m).cellv 11 _ rfl
      go_wp2_with fail
      go_meet
      exact ⟨_, rfl, by rw [h1.out]; rfl, HS⟩
  case rest =>
  clear HS
  obtain ⟨W1, rfl, rfl, HS⟩ := hcut
  have HT : Keep (t1V c (V t) = if (!gtB (V t) k0 || decide (0 < c.wt)) = true then k0 else V t) := ⟨rfl⟩
  generalize (!gtB (V t) k0 || decide (0 < c.wt)) = B at *
  generalize hT1 : t1V c (V t) = T1 at *
  go_upto_if 13 with fail
  go_cut [1] (fun sv wx => ∃ g u, u = wx ∧ sv = fv g ∧ Keep (V g = T1) ∧ Keep (Sep w0 u [boxA rb [fv 0, fv 0, fv 0] 37, boxA xb (crv c) 26]))
  case first =>
    cases B
    · go_wp2_with fail
      go_meet
      exact ⟨_, _, rfl, rfl, ⟨HT.out.symm⟩, HS⟩
    · go_wp2_with fail
      go_meet
      exact ⟨_, _, rfl, rfl, ⟨V0.trans HT.out.symm⟩, HS⟩
  case rest =>
  clear HS HT
  obtain ⟨g1, W1, rfl, rfl, Hg1, HS⟩ := hcut
  have HT : Keep (t2V T1 = if gtB T1 k32 then k32 else T1) := ⟨rfl⟩
  generalize hT2 : t2V T1 = T2 at *
  go_upto_if 15 with fail
  go_cut [1] (fun sv wx => ∃ g u, u = wx ∧ sv = fv g ∧ Keep (V g = T2) ∧ Keep (Sep w0 u [boxA rb [fv 0, fv 0, fv 0] 37, boxA xb (crv c) 26]))
  case first =>
    cases s1 : gtB T1 k32
    · have e1 := gtr_is g1 1107296256 Hg1.out V32 s1
      rw [e1]
      replace s1 := Keep.mk s1
      go_wp2_with fail
      go_meet
      exact ⟨_, _, rfl, rfl, ⟨by rw [HT.out, s1.out]; exact Hg1.out⟩, HS⟩
    · have e1 := gtr_is g1 1107296256 Hg1.out V32 s1
      rw [e1]
      replace s1 := Keep.mk s1
      go_wp2_with fail
      go_meet
      exact ⟨_, _, rfl, rfl, ⟨by rw [HT.out, s1.out]; exact V32⟩, HS⟩
  case rest =>
  clear HS HT Hg1
  obtain ⟨g2, W1, rfl, rfl, Hg2, HS⟩ := hcut
  have l2 := (HS.out.boxGet k1m).cellv 2 _ rfl
  have l3 := (HS.out.boxGet k1m).cellv 3 _ rfl
  have l6 := (HS.out.boxGet k1m).cellv 6 _ rfl
  go_wp2_with fail
  clear l2 l3 l6
  refine (rof_c c.x c.y c.h W1).mono ?_
  rintro e W2 ⟨v, rfl, ⟨px, py, pa, rfl, hpx, hpy, hpa⟩, g⟩
  have HS2 := HS.out.grown g
  clear g HS
  have HS3 := Keep.mk (HS2.newBox #[fv px, fv py, fv pa] 37)
  obtain ⟨ab, hab⟩ : ∃ ab, W2.heap.size = ab := ⟨_, rfl⟩
  rw [hab] at HS3
  have HP := Keep.mk (And.intro hpx (And.intro hpy hpa))
  clear hpx hpy hpa HS2
  go_wp2_with fail
  clear hab
  generalize W2.alloc (.cells #[fv px, fv py, fv pa] 37) = W3 at HS3 ⊢
  refine region_R (fun w => W3.grownBy w none) [10] [5, 7, 8] (fun i v => if i = 5 then (fun v => v = fv (fl c.u)) v else if i = 7 then (fun v => FV v (omul (V (fl c.u)) T2)) v else if i = 8 then (fun v => FV v (alongV (V (fl c.x)) (V (fl c.u)) T2)) v else False) 1 10 (by kernel_rfl) (by rfl) (gr_drew _ _) (fun hHeld0 => ?_)
  refine wpR_pure (i := 0) (oi := _) (v := ?_) rfl (by kernel_rfl) (by kernel_rfl) (by kernel_rfl) (by kernel_rfl) (by kernel_rfl) (by kernel_rfl) hHeld0 (Or.inl ⟨by rfl, ?_⟩) ?_
  rotate_left
  · (intro w hSw; go_simp; first | done | (with_reducible rfl))
  simp only [Act.put, List.getElem_toArray, List.getElem_cons_zero, List.setIfInBounds_toArray, List.set_cons_zero, List.set_cons_succ]
  refine wpR_pure (i := 1) (oi := _) (v := ?_) rfl (by kernel_rfl) (by kernel_rfl) (by kernel_rfl) (by kernel_rfl) (by kernel_rfl) (by kernel_rfl) hHeld0 (Or.inl ⟨by rfl, ?_⟩) ?_
  rotate_left
  · (intro w hSw; have q0 := ((HS3.out.grown hSw).boxGet k0m).cellv 0 _ rfl; go_simp; first | done | (with_reducible rfl))
  simp only [Act.put, List.getElem_toArray, List.getElem_cons_succ, List.getElem_cons_zero, List.setIfInBounds_toArray, List.set_cons_zero, List.set_cons_succ]
  refine wpR_pure (i := 2) (oi := _) (v := ?_) rfl (by kernel_rfl) (by kernel_rfl) (by kernel_rfl) (by kernel_rfl) (by kernel_rfl) (by kernel_rfl) hHeld0 (Or.inl ⟨by rfl, ?_⟩) ?_
  rotate_left
  · (intro w hSw; go_simp; first | done | (with_reducible rfl))
  simp only [Act.put, List.getElem_toArray, List.getElem_cons_succ, List.getElem_cons_zero, List.setIfInBounds_toArray, List.set_cons_zero, List.set_cons_succ]
  refine wpR_pure (i := 3) (oi := _) (v := ?_) rfl (by kernel_rfl) (by kernel_rfl) (by kernel_rfl) (by kernel_rfl) (by kernel_rfl) (by kernel_rfl) hHeld0 (Or.inl ⟨by rfl, ?_⟩) ?_
  rotate_left
  · (intro w hSw; go_simp; first | done | (with_reducible rfl))
  simp only [Act.put, List.getElem_toArray, List.getElem_cons_succ, List.getElem_cons_zero, List.setIfInBounds_toArray, List.set_cons_zero, List.set_cons_succ]
  refine wpR_pure (i := 4) (oi := _) (v := ?_) rfl (by kernel_rfl) (by kernel_rfl) (by kernel_rfl) (by kernel_rfl) (by kernel_rfl) (by kernel_rfl) hHeld0 (Or.inl ⟨by rfl, ?_⟩) ?_
  rotate_left
  · (intro w hSw; have q0 := ((HS3.out.grown hSw).boxGet k2m).cellv 4 _ rfl; go_simp; first | done | (with_reducible rfl))
  simp only [Act.put, List.getElem_toArray, List.getElem_cons_succ, List.getElem_cons_zero, List.setIfInBounds_toArray, List.set_cons_zero, List.set_cons_succ]
  refine wpR_pure (i := 6) (oi := _) (v := ?_) rfl (by kernel_rfl) (by kernel_rfl) (by kernel_rfl) (by kernel_rfl) (by kernel_rfl) (by kernel_rfl) hHeld0 (Or.inl ⟨by rfl, ?_⟩) ?_
  rotate_left
  · (intro w hSw; go_simp; first | done | (with_reducible rfl))
  simp only [Act.put, List.getElem_toArray, List.getElem_cons_succ, List.getElem_cons_zero, List.setIfInBounds_toArray, List.set_cons_zero, List.set_cons_succ]
  refine wpR_some (i := 5) (oi := _) rfl (by kernel_rfl) (by kernel_rfl) (by kernel_rfl) (by kernel_rfl) (by kernel_rfl) (by kernel_rfl) hHeld0 (fun v => v = fv (fl c.u)) rfl ⟨_, rfl⟩ ⟨by rfl, ?_⟩ ?_
  · refine .inr ⟨36, #[iv c.u], fun w => ?_, fun w hSw => ?_⟩
    · (go_simp; first | done | (with_reducible rfl))
    refine (rfloat_c c.u w).mono ?_
    rintro e w' ⟨rfl, rfl⟩
    exact ⟨_, rfl, rfl, hSw⟩
  rintro v rfl
  simp only [Act.put, List.getElem_toArray, List.getElem_cons_succ, List.getElem_cons_zero, List.setIfInBounds_toArray, List.set_cons_zero, List.set_cons_succ]
  refine wpR_some (i := 7) (oi := _) rfl (by kernel_rfl) (by kernel_rfl) (by kernel_rfl) (by kernel_rfl) (by kernel_rfl) (by kernel_rfl) hHeld0 (fun v => FV v (omul (V (fl c.u)) T2)) rfl ((IsV.of (fl c.u)).mul (hT2 ▸ hT1 ▸ isV_t2 c t : IsV T2) w0).ex ⟨by rfl, ?_⟩ ?_
  · refine .inr ⟨35, #[fv (fl c.u), fv g2], fun w => ?_, fun w hSw => ?_⟩
    · (go_simp; first | done | (with_reducible rfl))
    refine (times_c _ _ w).mono ?_
    rintro e w' ⟨⟨v, rfl, hv⟩, g⟩
    exact ⟨v, rfl, by rw [Hg2.out] at hv; exact hv, World.grownBy.trans hSw g⟩
  rintro v ⟨m0, rfl, hm0⟩
  simp only [Act.put, List.getElem_toArray, List.getElem_cons_succ, List.getElem_cons_zero, List.setIfInBounds_toArray, List.set_cons_zero, List.set_cons_succ]
  refine wpR_some (i := 8) (oi := _) rfl (by kernel_rfl) (by kernel_rfl) (by kernel_rfl) (by kernel_rfl) (by kernel_rfl) (by kernel_rfl) hHeld0 (fun v => FV v (alongV (V (fl c.x)) (V (fl c.u)) T2)) rfl ((IsV.of (fl c.x)).along (IsV.of (fl c.u)) (hT2 ▸ hT1 ▸ isV_t2 c t : IsV T2) w0).ex ⟨by rfl, ?_⟩ ?_
  · refine .inr ⟨30, #[fv px, fv m0], fun w => ?_, fun w hSw => ?_⟩
    · (go_simp; first | done | (with_reducible rfl))
    refine (plus_c _ _ w).mono ?_
    rintro e w' ⟨⟨v, rfl, hv⟩, g⟩
    exact ⟨v, rfl, by rw [hm0, HP.out.1] at hv; exact hv, World.grownBy.trans hSw g⟩
  rintro v ⟨kx, rfl, hkx⟩
  simp only [Act.put, List.getElem_toArray, List.getElem_cons_succ, List.getElem_cons_zero, List.setIfInBounds_toArray, List.set_cons_zero, List.set_cons_succ]
  refine wpR_pure (i := 9) (oi := _) (v := ?_) rfl (by kernel_rfl) (by kernel_rfl) (by kernel_rfl) (by kernel_rfl) (by kernel_rfl) (by kernel_rfl) hHeld0 (Or.inl ⟨by rfl, ?_⟩) ?_
  rotate_left
  · (intro w hSw; go_simp; first | done | (with_reducible rfl))
  simp only [Act.put, List.getElem_toArray, List.getElem_cons_succ, List.getElem_cons_zero, List.setIfInBounds_toArray, List.set_cons_zero, List.set_cons_succ]
  refine wpR_end (by kernel_rfl) (fun w hSw => ?_)
  refine any_one (i := 10) (by kernel_rfl) rfl (fun K hK => ?_)
  have x0 := ((HS3.out.grown hSw).boxGet k0m).cellv 0 _ rfl
  have y0 := ((HS3.out.grown hSw).boxGet k0m).frozen 0
  go_simp
  clear x0 y0
  have HS4 := Keep.mk ((HS3.out.grown hSw).boxPut 0 (fv kx))
  refine hK.out _ _ ?_
  clear hK K
  generalize w.setCell ⟨ab, 0, none⟩ (fv kx) = W4 at HS4 ⊢
  refine any_done (by kernel_rfl) ?_ _
  clear hSw HS3 hHeld0
  go_wp2_with fail
  refine region_R (fun w => W4.grownBy w none) [10] [5, 7, 8] (fun i v => if i = 5 then (fun v => v = fv (fl c.v)) v else if i = 7 then (fun v => FV v (omul (V (fl c.v)) T2)) v else if i = 8 then (fun v => FV v (alongV (V (fl c.y)) (V (fl c.v)) T2)) v else False) 1 10 (by kernel_rfl) (by rfl) (gr_drew _ _) (fun hHeld1 => ?_)
  refine wpR_pure (i := 0) (oi := _) (v := ?_) rfl (by kernel_rfl) (by kernel_rfl) (by kernel_rfl) (by kernel_rfl) (by kernel_rfl) (by kernel_rfl) hHeld1 (Or.inl ⟨by rfl, ?_⟩) ?_
  rotate_left
  · (intro w hSw; go_simp; first | done | (with_reducible rfl))
  simp only [Act.put, List.getElem_toArray, List.getElem_cons_zero, List.setIfInBounds_toArray, List.set_cons_zero, List.set_cons_succ]
  refine wpR_pure (i := 1) (oi := _) (v := ?_) rfl (by kernel_rfl) (by kernel_rfl) (by kernel_rfl) (by kernel_rfl) (by kernel_rfl) (by kernel_rfl) hHeld1 (Or.inl ⟨by rfl, ?_⟩) ?_
  rotate_left
  · (intro w hSw; have q0 := ((HS4.out.grown hSw).boxGet k0m).cellv 1 _ rfl; go_simp; first | done | (with_reducible rfl))
  simp only [Act.put, List.getElem_toArray, List.getElem_cons_succ, List.getElem_cons_zero, List.setIfInBounds_toArray, List.set_cons_zero, List.set_cons_succ]
  refine wpR_pure (i := 2) (oi := _) (v := ?_) rfl (by kernel_rfl) (by kernel_rfl) (by kernel_rfl) (by kernel_rfl) (by kernel_rfl) (by kernel_rfl) hHeld1 (Or.inl ⟨by rfl, ?_⟩) ?_
  rotate_left
  · (intro w hSw; go_simp; first | done | (with_reducible rfl))
  simp only [Act.put, List.getElem_toArray, List.getElem_cons_succ, List.getElem_cons_zero, List.setIfInBounds_toArray, List.set_cons_zero, List.set_cons_succ]
  refine wpR_pure (i := 3) (oi := _) (v := ?_) rfl (by kernel_rfl) (by kernel_rfl) (by kernel_rfl) (by kernel_rfl) (by kernel_rfl) (by kernel_rfl) hHeld1 (Or.inl ⟨by rfl, ?_⟩) ?_
  rotate_left
  · (intro w hSw; go_simp; first | done | (with_reducible rfl))
  simp only [Act.put, List.getElem_toArray, List.getElem_cons_succ, List.getElem_cons_zero, List.setIfInBounds_toArray, List.set_cons_zero, List.set_cons_succ]
  refine wpR_pure (i := 4) (oi := _) (v := ?_) rfl (by kernel_rfl) (by kernel_rfl) (by kernel_rfl) (by kernel_rfl) (by kernel_rfl) (by kernel_rfl) hHeld1 (Or.inl ⟨by rfl, ?_⟩) ?_
  rotate_left
  · (intro w hSw; have q0 := ((HS4.out.grown hSw).boxGet k2m).cellv 5 _ rfl; go_simp; first | done | (with_reducible rfl))
  simp only [Act.put, List.getElem_toArray, List.getElem_cons_succ, List.getElem_cons_zero, List.setIfInBounds_toArray, List.set_cons_zero, List.set_cons_succ]
  refine wpR_pure (i := 6) (oi := _) (v := ?_) rfl (by kernel_rfl) (by kernel_rfl) (by kernel_rfl) (by kernel_rfl) (by kernel_rfl) (by kernel_rfl) hHeld1 (Or.inl ⟨by rfl, ?_⟩) ?_
  rotate_left
  · (intro w hSw; go_simp; first | done | (with_reducible rfl))
  simp only [Act.put, List.getElem_toArray, List.getElem_cons_succ, List.getElem_cons_zero, List.setIfInBounds_toArray, List.set_cons_zero, List.set_cons_succ]
  refine wpR_some (i := 5) (oi := _) rfl (by kernel_rfl) (by kernel_rfl) (by kernel_rfl) (by kernel_rfl) (by kernel_rfl) (by kernel_rfl) hHeld1 (fun v => v = fv (fl c.v)) rfl ⟨_, rfl⟩ ⟨by rfl, ?_⟩ ?_
  · refine .inr ⟨36, #[iv c.v], fun w => ?_, fun w hSw => ?_⟩
    · (go_simp; first | done | (with_reducible rfl))
    refine (rfloat_c c.v w).mono ?_
    rintro e w' ⟨rfl, rfl⟩
    exact ⟨_, rfl, rfl, hSw⟩
  rintro v rfl
  simp only [Act.put, List.getElem_toArray, List.getElem_cons_succ, List.getElem_cons_zero, List.setIfInBounds_toArray, List.set_cons_zero, List.set_cons_succ]
  refine wpR_some (i := 7) (oi := _) rfl (by kernel_rfl) (by kernel_rfl) (by kernel_rfl) (by kernel_rfl) (by kernel_rfl) (by kernel_rfl) hHeld1 (fun v => FV v (omul (V (fl c.v)) T2)) rfl ((IsV.of (fl c.v)).mul (hT2 ▸ hT1 ▸ isV_t2 c t : IsV T2) w0).ex ⟨by rfl, ?_⟩ ?_
  · refine .inr ⟨35, #[fv (fl c.v), fv g2], fun w => ?_, fun w hSw => ?_⟩
    · (go_simp; first | done | (with_reducible rfl))
    refine (times_c _ _ w).mono ?_
    rintro e w' ⟨⟨v, rfl, hv⟩, g⟩
    exact ⟨v, rfl, by rw [Hg2.out] at hv; exact hv, World.grownBy.trans hSw g⟩
  rintro v ⟨m1, rfl, hm1⟩
  simp only [Act.put, List.getElem_toArray, List.getElem_cons_succ, List.getElem_cons_zero, List.setIfInBounds_toArray, List.set_cons_zero, List.set_cons_succ]
  refine wpR_some (i := 8) (oi := _) rfl (by kernel_rfl) (by kernel_rfl) (by kernel_rfl) (by kernel_rfl) (by kernel_rfl) (by kernel_rfl) hHeld1 (fun v => FV v (alongV (V (fl c.y)) (V (fl c.v)) T2)) rfl ((IsV.of (fl c.y)).along (IsV.of (fl c.v)) (hT2 ▸ hT1 ▸ isV_t2 c t : IsV T2) w0).ex ⟨by rfl, ?_⟩ ?_
  · refine .inr ⟨30, #[fv py, fv m1], fun w => ?_, fun w hSw => ?_⟩
    · (go_simp; first | done | (with_reducible rfl))
    refine (plus_c _ _ w).mono ?_
    rintro e w' ⟨⟨v, rfl, hv⟩, g⟩
    exact ⟨v, rfl, by rw [hm1, HP.out.2.1] at hv; exact hv, World.grownBy.trans hSw g⟩
  rintro v ⟨ky, rfl, hky⟩
  simp only [Act.put, List.getElem_toArray, List.getElem_cons_succ, List.getElem_cons_zero, List.setIfInBounds_toArray, List.set_cons_zero, List.set_cons_succ]
  refine wpR_pure (i := 9) (oi := _) (v := ?_) rfl (by kernel_rfl) (by kernel_rfl) (by kernel_rfl) (by kernel_rfl) (by kernel_rfl) (by kernel_rfl) hHeld1 (Or.inl ⟨by rfl, ?_⟩) ?_
  rotate_left
  · (intro w hSw; go_simp; first | done | (with_reducible rfl))
  simp only [Act.put, List.getElem_toArray, List.getElem_cons_succ, List.getElem_cons_zero, List.setIfInBounds_toArray, List.set_cons_zero, List.set_cons_succ]
  refine wpR_end (by kernel_rfl) (fun w hSw => ?_)
  refine any_one (i := 10) (by kernel_rfl) rfl (fun K hK => ?_)
  have x0 := ((HS4.out.grown hSw).boxGet k0m).cellv 1 _ rfl
  have y0 := ((HS4.out.grown hSw).boxGet k0m).frozen 1
  go_simp
  clear x0 y0
  have HS5 := Keep.mk ((HS4.out.grown hSw).boxPut 1 (fv ky))
  refine hK.out _ _ ?_
  clear hK K
  generalize w.setCell ⟨ab, 1, none⟩ (fv ky) = W5 at HS5 ⊢
  refine any_done (by kernel_rfl) ?_ _
  clear hSw HS4 hHeld1
  have l0 := (HS5.out.boxGet k0m).cellv 0 _ rfl
  have l1 := (HS5.out.boxGet k0m).cellv 1 _ rfl
  have l2 := (HS5.out.boxGet k0m).cellv 2 _ rfl
  have x0 := (HS5.out.boxGet k1m).cellv 0 _ rfl
  have x1 := (HS5.out.boxGet k1m).cellv 1 _ rfl
  have x2 := (HS5.out.boxGet k1m).cellv 2 _ rfl
  have y0 := (HS5.out.boxGet k1m).frozen 0
  have y1 := (HS5.out.boxGet k1m).frozen 1
  have y2 := (HS5.out.boxGet k1m).frozen 2
  go_wp2_with fail
  have HSF := ((HS5.out.swap.boxPut 0 (fv kx)).boxPut 1 (fv ky)).boxPut 2 (fv pa)
  obtain ⟨du, hdu, hdr⟩ := row37
  exact ret_c rfl rfl (HSF.boxGet k0m) hdu hdr info37 rfl ⟨_, rfl, ⟨_, _, _, rfl, by rw [hkx, ← hT2, ← hT1]; rfl, by rw [hky, ← hT2, ← hT1]; rfl, HP.out.2.2⟩, HSF.1⟩
end Sm
end Go.Proofs.Ytfhhneibdmjfgaa
