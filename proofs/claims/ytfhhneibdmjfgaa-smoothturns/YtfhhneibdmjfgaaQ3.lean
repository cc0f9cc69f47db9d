/- Of, Mix, Ahead: places -/
import Derived.Test.YtfhhneibdmjfgaaQ2
namespace Go.Proofs.Ytfhhneibdmjfgaa
open Go Go.RowKit Ieee Fx
namespace Sm
set_option maxRecDepth 100000
theorem gr_alloc (w : World) (o : Obj) (row : Option Nat) : w.grownBy (w.alloc o) row := World.grownBy_alloc w o row
theorem run_store_fl (P : Program) (w : World) (a : Addr) (m : Mode) (k : FloatKind) (b : Nat) : (store a (.float k b) m).run P w = stored P w a (.float k b) m := run_store P w a _ m rfl
attribute [local go_sem] run_store_fl
theorem size_alloc (w : World) (o : Obj) : (w.alloc o).heap.size = w.heap.size + 1 := by show (w.heap.push o).size = _; rw [Array.size_push]
theorem boxes3 (w : World) (A B Z : Array Value) (t u v : TypeId) : Has (((w.alloc (.cells A t)).alloc (.cells B u)).alloc (.cells Z v)) w.heap.size A.toList t ∧ Has (((w.alloc (.cells A t)).alloc (.cells B u)).alloc (.cells Z v)) (w.heap.size + 1) B.toList u ∧ Has (((w.alloc (.cells A t)).alloc (.cells B u)).alloc (.cells Z v)) (w.heap.size + 1 + 1) Z.toList v ∧ w.grownBy (((w.alloc (.cells A t)).alloc (.cells B u)).alloc (.cells Z v)) none := by
  refine ⟨((Has.newA w A t).alloc _).alloc _, ?_, ?_, ((gr_alloc _ _ _).trans (gr_alloc _ _ _)).trans (gr_alloc _ _ _)⟩
  · have h := (Has.newA (w.alloc (.cells A t)) B u).alloc (.cells Z v)
    rwa [size_alloc] at h
  · have h := Has.newA ((w.alloc (.cells A t)).alloc (.cells B u)) Z v
    rwa [size_alloc, size_alloc] at h
theorem boxes2 (w : World) (A Z : Array Value) (t v : TypeId) : Has ((w.alloc (.cells A t)).alloc (.cells Z v)) w.heap.size A.toList t ∧ Has ((w.alloc (.cells A t)).alloc (.cells Z v)) (w.heap.size + 1) Z.toList v ∧ w.grownBy ((w.alloc (.cells A t)).alloc (.cells Z v)) none := by
  refine ⟨(Has.newA w A t).alloc _, ?_, (gr_alloc _ _ _).trans (gr_alloc _ _ _)⟩
  have h := Has.newA (w.alloc (.cells A t)) Z v
  rwa [size_alloc] at h
theorem row37 : ∃ d, Try.prog.underlying 37 = some d ∧ d.isRow = true := ⟨_, Try.underlying37, rfl⟩
theorem info37 : (Try.prog.info? 37).map (·.size) = some 3 := by kernel_rfl
abbrev fv (x : Nat) : Value := .float .f32 x
abbrev pv (x y a : Nat) : Value := .agg #[fv x, fv y, fv a]
/-- a place by its values -/
structure Pl where
  x : OF
  y : OF
  a : OF
def PV (v : Value) (p : Pl) : Prop := ∃ x y a, v = pv x y a ∧ V x = p.x ∧ V y = p.y ∧ V a = p.a
def angV (h : Int) : OF := omul (V (floatOfInt .f32 (h % 256))) kDeg
def ofV (x y h : Int) : Pl := ⟨V (fl x), V (fl y), angV h⟩
theorem and255 (n : Int) : bits .and .i64 n 255 = n % 256 := by
  have h255 : (BitVec.ofInt 64 255).toNat = 2 ^ 8 - 1 := by decide
  have key : (BitVec.ofInt 64 n &&& BitVec.ofInt 64 255).toNat = (n % ((2 ^ 64 : Nat) : Int)).toNat % 2 ^ 8 := by
    rw [BitVec.toNat_and, BitVec.toNat_ofInt, h255, Nat.and_two_pow_sub_one_eq_mod]
  show IntKind.i64.wrap ((BitVec.ofInt 64 n &&& BitVec.ofInt 64 255).toNat : Nat) = n % 256
  rw [key, IntKind.wrap_i64]
  omega
theorem angle_c (h : Int) (W : World) : Calls Try.prog 29 #[.int .i64 h] W fun e W' => ∃ v, e = .returned v ∧ FV v (angV h) ∧ W.grownBy W' none := by
  have ha := and255 h
  unfold angV
  generalize h % 256 = k at *
  obtain ⟨r, q, hr, H⟩ := mul_run (P := Try.prog) 30 (floatOfInt .f32 k) 1068761088 W
  rw [VDeg] at H
  go_enter Try.func29, Try.ntmps29
  go_wp2_with fail
  go_ret
  exact ⟨_, rfl, ⟨_, rfl, H⟩, gr_drewN _ _ _⟩
set_option maxHeartbeats 4000000 in
theorem of_c (x y h : Int) (w0 : World) :
    Calls Try.prog 11 #[.agg #[.int .i64 x, .int .i64 y], .int .i64 h] w0 fun e W' => ∃ v, e = .returned v ∧ PV v (ofV x y h) ∧ w0.grownBy W' none := by
  have hEx : ∃ v, FV v (angV h) := by
    obtain ⟨r, q, _, H⟩ := mul_run (P := Try.prog) 30 (floatOfInt .f32 (h % 256)) 1068761088 w0
    exact ⟨_, r, rfl, H.trans (by rw [VDeg]; rfl)⟩
  have HB := Keep.mk (boxes2 w0 #[.int .i64 x, .int .i64 y] #[fv 0, fv 0, fv 0] 24 37)
  go_enter Try.func11, Try.ntmps11
  go_wp2_with fail
  generalize hW : ((w0.alloc (.cells #[.int .i64 x, .int .i64 y] 24)).alloc (.cells #[fv 0, fv 0, fv 0] 37)) = W at HB ⊢
  obtain ⟨xb, hxb⟩ : ∃ xb, w0.heap.size = xb := ⟨_, rfl⟩
  obtain ⟨rb, hrb⟩ : ∃ rb, xb + 1 = rb := ⟨_, rfl⟩
  have HL : Keep (w0.heap.size ≤ rb) := ⟨by omega⟩
  rw [hxb, hrb] at HB ⊢
  clear hxb hrb hW
  obtain ⟨W0, hW0⟩ : ∃ W0, W = W0 := ⟨_, rfl⟩
  rw [hW0] at HB ⊢
  clear hW0
  refine region_R (fun w => W0.grownBy w none) [9] [2, 5, 7] (fun i v => if i = 2 then (fun v => v = fv (fl x)) v else if i = 5 then (fun v => v = fv (fl y)) v else if i = 7 then (fun v => FV v (angV h)) v else False) 1 9 (by kernel_rfl) (by rfl) (gr_drew _ _) (fun hHeld => ?_)
  refine wpR_pure (i := 0) (oi := _) (v := ?_) rfl (by kernel_rfl) (by kernel_rfl) (by kernel_rfl) (by kernel_rfl) (by kernel_rfl) (by kernel_rfl) hHeld (Or.inl ⟨by rfl, ?_⟩) ?_
  rotate_left
  · (intro w hSw; go_simp; first | done | (with_reducible rfl))
  simp only [Act.put, List.getElem_toArray, List.getElem_cons_zero, List.setIfInBounds_toArray, List.set_cons_zero, List.set_cons_succ]
  refine wpR_pure (i := 1) (oi := _) (v := ?_) rfl (by kernel_rfl) (by kernel_rfl) (by kernel_rfl) (by kernel_rfl) (by kernel_rfl) (by kernel_rfl) hHeld (Or.inl ⟨by rfl, ?_⟩) ?_
  rotate_left
  · (intro w hSw; have q0 := (HB.out.1.kept hSw (by simp)).cellv 0 _ rfl; have q1 := (HB.out.1.kept hSw (by simp)).cellv 1 _ rfl; go_simp; first | done | (with_reducible rfl))
  simp only [Act.put, List.getElem_toArray, List.getElem_cons_succ, List.getElem_cons_zero, List.setIfInBounds_toArray, List.set_cons_zero, List.set_cons_succ]
  refine wpR_pure (i := 3) (oi := _) (v := ?_) rfl (by kernel_rfl) (by kernel_rfl) (by kernel_rfl) (by kernel_rfl) (by kernel_rfl) (by kernel_rfl) hHeld (Or.inl ⟨by rfl, ?_⟩) ?_
  rotate_left
  · (intro w hSw; go_simp; first | done | (with_reducible rfl))
  simp only [Act.put, List.getElem_toArray, List.getElem_cons_succ, List.getElem_cons_zero, List.setIfInBounds_toArray, List.set_cons_zero, List.set_cons_succ]
  refine wpR_pure (i := 4) (oi := _) (v := ?_) rfl (by kernel_rfl) (by kernel_rfl) (by kernel_rfl) (by kernel_rfl) (by kernel_rfl) (by kernel_rfl) hHeld (Or.inl ⟨by rfl, ?_⟩) ?_
  rotate_left
  · (intro w hSw; have q0 := (HB.out.1.kept hSw (by simp)).cellv 0 _ rfl; have q1 := (HB.out.1.kept hSw (by simp)).cellv 1 _ rfl; go_simp; first | done | (with_reducible rfl))
  simp only [Act.put, List.getElem_toArray, List.getElem_cons_succ, List.getElem_cons_zero, List.setIfInBounds_toArray, List.set_cons_zero, List.set_cons_succ]
  refine wpR_pure (i := 6) (oi := _) (v := ?_) rfl (by kernel_rfl) (by kernel_rfl) (by kernel_rfl) (by kernel_rfl) (by kernel_rfl) (by kernel_rfl) hHeld (Or.inl ⟨by rfl, ?_⟩) ?_
  rotate_left
  · (intro w hSw; go_simp; first | done | (with_reducible rfl))
  simp only [Act.put, List.getElem_toArray, List.getElem_cons_succ, List.getElem_cons_zero, List.setIfInBounds_toArray, List.set_cons_zero, List.set_cons_succ]
  refine wpR_some (i := 2) (oi := _) rfl (by kernel_rfl) (by kernel_rfl) (by kernel_rfl) (by kernel_rfl) (by kernel_rfl) (by kernel_rfl) hHeld (fun v => v = fv (fl x)) rfl ⟨_, rfl⟩ ⟨by rfl, ?_⟩ ?_
  · refine .inr ⟨28, #[.int .i64 x], fun w => ?_, fun w hSw => ?_⟩
    · (go_simp; first | done | (with_reducible rfl))
    refine (float_c x w).mono ?_
    rintro e w' ⟨rfl, rfl⟩
    exact ⟨_, rfl, rfl, hSw⟩
  rintro v rfl
  simp only [Act.put, List.getElem_toArray, List.getElem_cons_succ, List.getElem_cons_zero, List.setIfInBounds_toArray, List.set_cons_zero, List.set_cons_succ]
  refine wpR_some (i := 5) (oi := _) rfl (by kernel_rfl) (by kernel_rfl) (by kernel_rfl) (by kernel_rfl) (by kernel_rfl) (by kernel_rfl) hHeld (fun v => v = fv (fl y)) rfl ⟨_, rfl⟩ ⟨by rfl, ?_⟩ ?_
  · refine .inr ⟨28, #[.int .i64 y], fun w => ?_, fun w hSw => ?_⟩
    · (go_simp; first | done | (with_reducible rfl))
    refine (float_c y w).mono ?_
    rintro e w' ⟨rfl, rfl⟩
    exact ⟨_, rfl, rfl, hSw⟩
  rintro v rfl
  simp only [Act.put, List.getElem_toArray, List.getElem_cons_succ, List.getElem_cons_zero, List.setIfInBounds_toArray, List.set_cons_zero, List.set_cons_succ]
  refine wpR_some (i := 7) (oi := _) rfl (by kernel_rfl) (by kernel_rfl) (by kernel_rfl) (by kernel_rfl) (by kernel_rfl) (by kernel_rfl) hHeld (fun v => FV v (angV h)) rfl hEx ⟨by rfl, ?_⟩ ?_
  · refine .inr ⟨29, #[.int .i64 h], fun w => ?_, fun w hSw => ?_⟩
    · (go_simp; first | done | (with_reducible rfl))
    refine (angle_c h w).mono ?_
    rintro e w' ⟨v, rfl, hv, g⟩
    exact ⟨v, rfl, hv, World.grownBy.trans hSw g⟩
  rintro v ⟨g, rfl, hg⟩
  simp only [Act.put, List.getElem_toArray, List.getElem_cons_succ, List.getElem_cons_zero, List.setIfInBounds_toArray, List.set_cons_zero, List.set_cons_succ]
  refine wpR_pure (i := 8) (oi := _) (v := ?_) rfl (by kernel_rfl) (by kernel_rfl) (by kernel_rfl) (by kernel_rfl) (by kernel_rfl) (by kernel_rfl) hHeld (Or.inl ⟨by rfl, ?_⟩) ?_
  rotate_left
  · (intro w hSw; go_simp; first | done | (with_reducible rfl))
  simp only [Act.put, List.getElem_toArray, List.getElem_cons_succ, List.getElem_cons_zero, List.setIfInBounds_toArray, List.set_cons_zero, List.set_cons_succ]
  refine wpR_end (by kernel_rfl) (fun w hSw => ?_)
  refine any_one (i := 9) (by kernel_rfl) rfl (fun K hK => ?_)
  have x0 := ((HB.out.2.1.kept hSw (by simp))).cellv 0 _ rfl
  have y0 := ((HB.out.2.1.kept hSw (by simp))).frozen 0
  have x1 := ((HB.out.2.1.kept hSw (by simp))).cellv 1 _ rfl
  have y1 := ((HB.out.2.1.kept hSw (by simp))).frozen 1
  have x2 := ((HB.out.2.1.kept hSw (by simp))).cellv 2 _ rfl
  have y2 := ((HB.out.2.1.kept hSw (by simp))).frozen 2
  go_simp
  clear x0 y0 x1 y1 x2 y2
  have H0 := ((((HB.out.2.1.kept hSw (by simp))).setCell 0 (fv (fl x))).setCell 1 (fv (fl y))).setCell 2 (fv g)
  have HR := Keep.mk (And.intro H0 (gr_new (HB.out.2.2.trans hSw) ((gr_set w rb 0 (fv (fl x))).trans ((gr_set _ rb 1 (fv (fl y))).trans (gr_set _ rb 2 (fv g)))) HL.out))
  clear H0
  refine hK.out _ _ ?_
  clear hK K
  generalize ((w.setCell ⟨rb, 0, none⟩ (fv (fl x))).setCell ⟨rb, 1, none⟩ (fv (fl y))).setCell ⟨rb, 2, none⟩ (fv g) = W9 at HR ⊢
  refine any_done (by kernel_rfl) ?_ _
  go_wp2_with fail
  obtain ⟨du, hdu, hdr⟩ := row37
  exact ret_c rfl rfl HR.out.1 hdu hdr info37 rfl ⟨_, rfl, ⟨_, _, _, rfl, rfl, rfl, hg⟩, HR.out.2⟩
set_option maxHeartbeats 4000000 in
theorem rof_c (x y h : Int) (w0 : World) :
    Calls Try.prog 22 #[.agg #[.int .i64 x, .int .i64 y], .int .i64 h] w0 fun e W' => ∃ v, e = .returned v ∧ PV v (ofV x y h) ∧ w0.grownBy W' none := by
  have hEx : ∃ v, FV v (angV h) := by
    obtain ⟨r, q, _, H⟩ := mul_run (P := Try.prog) 30 (floatOfInt .f32 (h % 256)) 1068761088 w0
    exact ⟨_, r, rfl, H.trans (by rw [VDeg]; rfl)⟩
  obtain ⟨t, ht⟩ : ∃ t, h.tmod 256 = t := ⟨_, rfl⟩
  have hb : -256 < t ∧ t < 256 := by
    have h1 := Int.tmod_eq_emod (a := h) (b := 256)
    split at h1 <;> omega
  by_cases hc : t < 0
  · obtain ⟨k, hkk⟩ : ∃ k, t + 256 = k := ⟨_, rfl⟩
    have hk : angV h = omul (V (floatOfInt .f32 k)) kDeg := by
      have h1 := Int.tmod_eq_emod (a := h) (b := 256)
      have : h % 256 = k := by split at h1 <;> omega
      unfold angV; rw [this]
    have HB := Keep.mk (boxes2 w0 #[.int .i64 x, .int .i64 y] #[fv 0, fv 0, fv 0] 24 37)
    go_enter Try.func22, Try.ntmps22
    go_wp2_with fail
    clear ht hb hc hkk
    generalize hW : ((w0.alloc (.cells #[.int .i64 x, .int .i64 y] 24)).alloc (.cells #[fv 0, fv 0, fv 0] 37)) = W at HB ⊢
    obtain ⟨xb, hxb⟩ : ∃ xb, w0.heap.size = xb := ⟨_, rfl⟩
    obtain ⟨rb, hrb⟩ : ∃ rb, xb + 1 = rb := ⟨_, rfl⟩
    have HL : Keep (w0.heap.size ≤ rb) := ⟨by omega⟩
    rw [hxb, hrb] at HB ⊢
    clear hxb hrb hW
    obtain ⟨W0, hW0⟩ : ∃ W0, W = W0 := ⟨_, rfl⟩
    rw [hW0] at HB ⊢
    clear hW0
    refine region_R (fun w => W0.grownBy w none) [10] [2, 5, 8] (fun i v => if i = 2 then (fun v => v = fv (fl x)) v else if i = 5 then (fun v => v = fv (fl y)) v else if i = 8 then (fun v => FV v (angV h)) v else False) 1 10 (by kernel_rfl) (by rfl) (gr_drew _ _) (fun hHeld => ?_)
    refine wpR_pure (i := 0) (oi := _) (v := ?_) rfl (by kernel_rfl) (by kernel_rfl) (by kernel_rfl) (by kernel_rfl) (by kernel_rfl) (by kernel_rfl) hHeld (Or.inl ⟨by rfl, ?_⟩) ?_
    rotate_left
    · (intro w hSw; go_simp; first | done | (with_reducible rfl))
    simp only [Act.put, List.getElem_toArray, List.getElem_cons_zero, List.setIfInBounds_toArray, List.set_cons_zero, List.set_cons_succ]
    refine wpR_pure (i := 1) (oi := _) (v := ?_) rfl (by kernel_rfl) (by kernel_rfl) (by kernel_rfl) (by kernel_rfl) (by kernel_rfl) (by kernel_rfl) hHeld (Or.inl ⟨by rfl, ?_⟩) ?_
    rotate_left
    · (intro w hSw; have q0 := (HB.out.1.kept hSw (by simp)).cellv 0 _ rfl; have q1 := (HB.out.1.kept hSw (by simp)).cellv 1 _ rfl; go_simp; first | done | (with_reducible rfl))
    simp only [Act.put, List.getElem_toArray, List.getElem_cons_succ, List.getElem_cons_zero, List.setIfInBounds_toArray, List.set_cons_zero, List.set_cons_succ]
    refine wpR_pure (i := 3) (oi := _) (v := ?_) rfl (by kernel_rfl) (by kernel_rfl) (by kernel_rfl) (by kernel_rfl) (by kernel_rfl) (by kernel_rfl) hHeld (Or.inl ⟨by rfl, ?_⟩) ?_
    rotate_left
    · (intro w hSw; go_simp; first | done | (with_reducible rfl))
    simp only [Act.put, List.getElem_toArray, List.getElem_cons_succ, List.getElem_cons_zero, List.setIfInBounds_toArray, List.set_cons_zero, List.set_cons_succ]
    refine wpR_pure (i := 4) (oi := _) (v := ?_) rfl (by kernel_rfl) (by kernel_rfl) (by kernel_rfl) (by kernel_rfl) (by kernel_rfl) (by kernel_rfl) hHeld (Or.inl ⟨by rfl, ?_⟩) ?_
    rotate_left
    · (intro w hSw; have q0 := (HB.out.1.kept hSw (by simp)).cellv 0 _ rfl; have q1 := (HB.out.1.kept hSw (by simp)).cellv 1 _ rfl; go_simp; first | done | (with_reducible rfl))
    simp only [Act.put, List.getElem_toArray, List.getElem_cons_succ, List.getElem_cons_zero, List.setIfInBounds_toArray, List.set_cons_zero, List.set_cons_succ]
    refine wpR_pure (i := 6) (oi := _) (v := ?_) rfl (by kernel_rfl) (by kernel_rfl) (by kernel_rfl) (by kernel_rfl) (by kernel_rfl) (by kernel_rfl) hHeld (Or.inl ⟨by rfl, ?_⟩) ?_
    rotate_left
    · (intro w hSw; go_simp; first | done | (with_reducible rfl))
    simp only [Act.put, List.getElem_toArray, List.getElem_cons_succ, List.getElem_cons_zero, List.setIfInBounds_toArray, List.set_cons_zero, List.set_cons_succ]
    refine wpR_pure (i := 7) (oi := _) (v := ?_) rfl (by kernel_rfl) (by kernel_rfl) (by kernel_rfl) (by kernel_rfl) (by kernel_rfl) (by kernel_rfl) hHeld (Or.inl ⟨by rfl, ?_⟩) ?_
    rotate_left
    · (intro w hSw; go_simp; first | done | (with_reducible rfl))
    simp only [Act.put, List.getElem_toArray, List.getElem_cons_succ, List.getElem_cons_zero, List.setIfInBounds_toArray, List.set_cons_zero, List.set_cons_succ]
    refine wpR_some (i := 2) (oi := _) rfl (by kernel_rfl) (by kernel_rfl) (by kernel_rfl) (by kernel_rfl) (by kernel_rfl) (by kernel_rfl) hHeld (fun v => v = fv (fl x)) rfl ⟨_, rfl⟩ ⟨by rfl, ?_⟩ ?_
    · refine .inr ⟨36, #[.int .i64 x], fun w => ?_, fun w hSw => ?_⟩
      · (go_simp; first | done | (with_reducible rfl))
      refine (rfloat_c x w).mono ?_
      rintro e w' ⟨rfl, rfl⟩
      exact ⟨_, rfl, rfl, hSw⟩
    rintro v rfl
    simp only [Act.put, List.getElem_toArray, List.getElem_cons_succ, List.getElem_cons_zero, List.setIfInBounds_toArray, List.set_cons_zero, List.set_cons_succ]
    refine wpR_some (i := 5) (oi := _) rfl (by kernel_rfl) (by kernel_rfl) (by kernel_rfl) (by kernel_rfl) (by kernel_rfl) (by kernel_rfl) hHeld (fun v => v = fv (fl y)) rfl ⟨_, rfl⟩ ⟨by rfl, ?_⟩ ?_
    · refine .inr ⟨36, #[.int .i64 y], fun w => ?_, fun w hSw => ?_⟩
      · (go_simp; first | done | (with_reducible rfl))
      refine (rfloat_c y w).mono ?_
      rintro e w' ⟨rfl, rfl⟩
      exact ⟨_, rfl, rfl, hSw⟩
    rintro v rfl
    simp only [Act.put, List.getElem_toArray, List.getElem_cons_succ, List.getElem_cons_zero, List.setIfInBounds_toArray, List.set_cons_zero, List.set_cons_succ]
    refine wpR_some (i := 8) (oi := _) rfl (by kernel_rfl) (by kernel_rfl) (by kernel_rfl) (by kernel_rfl) (by kernel_rfl) (by kernel_rfl) hHeld (fun v => FV v (angV h)) rfl hEx ⟨by rfl, ?_⟩ ?_
    · refine .inr ⟨35, #[fv (floatOfInt .f32 k), fv 1068761088], fun w => ?_, fun w hSw => ?_⟩
      · (go_simp; first | done | (with_reducible rfl))
      refine (times_c _ _ w).mono ?_
      rintro e w' ⟨⟨v, rfl, hv⟩, g⟩
      exact ⟨v, rfl, by rw [hk, ← VDeg]; exact hv, World.grownBy.trans hSw g⟩
    rintro v ⟨g, rfl, hg⟩
    simp only [Act.put, List.getElem_toArray, List.getElem_cons_succ, List.getElem_cons_zero, List.setIfInBounds_toArray, List.set_cons_zero, List.set_cons_succ]
    refine wpR_pure (i := 9) (oi := _) (v := ?_) rfl (by kernel_rfl) (by kernel_rfl) (by kernel_rfl) (by kernel_rfl) (by kernel_rfl) (by kernel_rfl) hHeld (Or.inl ⟨by rfl, ?_⟩) ?_
    rotate_left
    · (intro w hSw; go_simp; first | done | (with_reducible rfl))
    simp only [Act.put, List.getElem_toArray, List.getElem_cons_succ, List.getElem_cons_zero, List.setIfInBounds_toArray, List.set_cons_zero, List.set_cons_succ]
    refine wpR_end (by kernel_rfl) (fun w hSw => ?_)
    refine any_one (i := 10) (by kernel_rfl) rfl (fun K hK => ?_)
    have x0 := ((HB.out.2.1.kept hSw (by simp))).cellv 0 _ rfl
    have y0 := ((HB.out.2.1.kept hSw (by simp))).frozen 0
    have x1 := ((HB.out.2.1.kept hSw (by simp))).cellv 1 _ rfl
    have y1 := ((HB.out.2.1.kept hSw (by simp))).frozen 1
    have x2 := ((HB.out.2.1.kept hSw (by simp))).cellv 2 _ rfl
    have y2 := ((HB.out.2.1.kept hSw (by simp))).frozen 2
    go_simp
    clear x0 y0 x1 y1 x2 y2
    have H0 := ((((HB.out.2.1.kept hSw (by simp))).setCell 0 (fv (fl x))).setCell 1 (fv (fl y))).setCell 2 (fv g)
    have HR := Keep.mk (And.intro H0 (gr_new (HB.out.2.2.trans hSw) ((gr_set w rb 0 (fv (fl x))).trans ((gr_set _ rb 1 (fv (fl y))).trans (gr_set _ rb 2 (fv g)))) HL.out))
    clear H0
    refine hK.out _ _ ?_
    clear hK K
    generalize ((w.setCell ⟨rb, 0, none⟩ (fv (fl x))).setCell ⟨rb, 1, none⟩ (fv (fl y))).setCell ⟨rb, 2, none⟩ (fv g) = W9 at HR ⊢
    refine any_done (by kernel_rfl) ?_ _
    go_wp2_with fail
    obtain ⟨du, hdu, hdr⟩ := row37
    exact ret_c rfl rfl HR.out.1 hdu hdr info37 rfl ⟨_, rfl, ⟨_, _, _, rfl, rfl, rfl, hg⟩, HR.out.2⟩
  · obtain ⟨k, hkk⟩ : ∃ k, t = k := ⟨_, rfl⟩
    have hk : angV h = omul (V (floatOfInt .f32 k)) kDeg := by
      have h1 := Int.tmod_eq_emod (a := h) (b := 256)
      have : h % 256 = k := by split at h1 <;> omega
      unfold angV; rw [this]
    subst hkk
    have HB := Keep.mk (boxes2 w0 #[.int .i64 x, .int .i64 y] #[fv 0, fv 0, fv 0] 24 37)
    go_enter Try.func22, Try.ntmps22
    go_wp2_with fail
    clear ht hb hc
    generalize hW : ((w0.alloc (.cells #[.int .i64 x, .int .i64 y] 24)).alloc (.cells #[fv 0, fv 0, fv 0] 37)) = W at HB ⊢
    obtain ⟨xb, hxb⟩ : ∃ xb, w0.heap.size = xb := ⟨_, rfl⟩
    obtain ⟨rb, hrb⟩ : ∃ rb, xb + 1 = rb := ⟨_, rfl⟩
    have HL : Keep (w0.heap.size ≤ rb) := ⟨by omega⟩
    rw [hxb, hrb] at HB ⊢
    clear hxb hrb hW
    obtain ⟨W0, hW0⟩ : ∃ W0, W = W0 := ⟨_, rfl⟩
    rw [hW0] at HB ⊢
    clear hW0
    refine region_R (fun w => W0.grownBy w none) [10] [2, 5, 8] (fun i v => if i = 2 then (fun v => v = fv (fl x)) v else if i = 5 then (fun v => v = fv (fl y)) v else if i = 8 then (fun v => FV v (angV h)) v else False) 1 10 (by kernel_rfl) (by rfl) (gr_drew _ _) (fun hHeld => ?_)
    refine wpR_pure (i := 0) (oi := _) (v := ?_) rfl (by kernel_rfl) (by kernel_rfl) (by kernel_rfl) (by kernel_rfl) (by kernel_rfl) (by kernel_rfl) hHeld (Or.inl ⟨by rfl, ?_⟩) ?_
    rotate_left
    · (intro w hSw; go_simp; first | done | (with_reducible rfl))
    simp only [Act.put, List.getElem_toArray, List.getElem_cons_zero, List.setIfInBounds_toArray, List.set_cons_zero, List.set_cons_succ]
    refine wpR_pure (i := 1) (oi := _) (v := ?_) rfl (by kernel_rfl) (by kernel_rfl) (by kernel_rfl) (by kernel_rfl) (by kernel_rfl) (by kernel_rfl) hHeld (Or.inl ⟨by rfl, ?_⟩) ?_
    rotate_left
    · (intro w hSw; have q0 := (HB.out.1.kept hSw (by simp)).cellv 0 _ rfl; have q1 := (HB.out.1.kept hSw (by simp)).cellv 1 _ rfl; go_simp; first | done | (with_reducible rfl))
    simp only [Act.put, List.getElem_toArray, List.getElem_cons_succ, List.getElem_cons_zero, List.setIfInBounds_toArray, List.set_cons_zero, List.set_cons_succ]
    refine wpR_pure (i := 3) (oi := _) (v := ?_) rfl (by kernel_rfl) (by kernel_rfl) (by kernel_rfl) (by kernel_rfl) (by kernel_rfl) (by kernel_rfl) hHeld (Or.inl ⟨by rfl, ?_⟩) ?_
    rotate_left
    · (intro w hSw; go_simp; first | done | (with_reducible rfl))
    simp only [Act.put, List.getElem_toArray, List.getElem_cons_succ, List.getElem_cons_zero, List.setIfInBounds_toArray, List.set_cons_zero, List.set_cons_succ]
    refine wpR_pure (i := 4) (oi := _) (v := ?_) rfl (by kernel_rfl) (by kernel_rfl) (by kernel_rfl) (by kernel_rfl) (by kernel_rfl) (by kernel_rfl) hHeld (Or.inl ⟨by rfl, ?_⟩) ?_
    rotate_left
    · (intro w hSw; have q0 := (HB.out.1.kept hSw (by simp)).cellv 0 _ rfl; have q1 := (HB.out.1.kept hSw (by simp)).cellv 1 _ rfl; go_simp; first | done | (with_reducible rfl))
    simp only [Act.put, List.getElem_toArray, List.getElem_cons_succ, List.getElem_cons_zero, List.setIfInBounds_toArray, List.set_cons_zero, List.set_cons_succ]
    refine wpR_pure (i := 6) (oi := _) (v := ?_) rfl (by kernel_rfl) (by kernel_rfl) (by kernel_rfl) (by kernel_rfl) (by kernel_rfl) (by kernel_rfl) hHeld (Or.inl ⟨by rfl, ?_⟩) ?_
    rotate_left
    · (intro w hSw; go_simp; first | done | (with_reducible rfl))
    simp only [Act.put, List.getElem_toArray, List.getElem_cons_succ, List.getElem_cons_zero, List.setIfInBounds_toArray, List.set_cons_zero, List.set_cons_succ]
    refine wpR_pure (i := 7) (oi := _) (v := ?_) rfl (by kernel_rfl) (by kernel_rfl) (by kernel_rfl) (by kernel_rfl) (by kernel_rfl) (by kernel_rfl) hHeld (Or.inl ⟨by rfl, ?_⟩) ?_
    rotate_left
    · (intro w hSw; go_simp; first | done | (with_reducible rfl))
    simp only [Act.put, List.getElem_toArray, List.getElem_cons_succ, List.getElem_cons_zero, List.setIfInBounds_toArray, List.set_cons_zero, List.set_cons_succ]
    refine wpR_some (i := 2) (oi := _) rfl (by kernel_rfl) (by kernel_rfl) (by kernel_rfl) (by kernel_rfl) (by kernel_rfl) (by kernel_rfl) hHeld (fun v => v = fv (fl x)) rfl ⟨_, rfl⟩ ⟨by rfl, ?_⟩ ?_
    · refine .inr ⟨36, #[.int .i64 x], fun w => ?_, fun w hSw => ?_⟩
      · (go_simp; first | done | (with_reducible rfl))
      refine (rfloat_c x w).mono ?_
      rintro e w' ⟨rfl, rfl⟩
      exact ⟨_, rfl, rfl, hSw⟩
    rintro v rfl
    simp only [Act.put, List.getElem_toArray, List.getElem_cons_succ, List.getElem_cons_zero, List.setIfInBounds_toArray, List.set_cons_zero, List.set_cons_succ]
    refine wpR_some (i := 5) (oi := _) rfl (by kernel_rfl) (by kernel_rfl) (by kernel_rfl) (by kernel_rfl) (by kernel_rfl) (by kernel_rfl) hHeld (fun v => v = fv (fl y)) rfl ⟨_, rfl⟩ ⟨by rfl, ?_⟩ ?_
    · refine .inr ⟨36, #[.int .i64 y], fun w => ?_, fun w hSw => ?_⟩
      · (go_simp; first | done | (with_reducible rfl))
      refine (rfloat_c y w).mono ?_
      rintro e w' ⟨rfl, rfl⟩
      exact ⟨_, rfl, rfl, hSw⟩
    rintro v rfl
    simp only [Act.put, List.getElem_toArray, List.getElem_cons_succ, List.getElem_cons_zero, List.setIfInBounds_toArray, List.set_cons_zero, List.set_cons_succ]
    refine wpR_some (i := 8) (oi := _) rfl (by kernel_rfl) (by kernel_rfl) (by kernel_rfl) (by kernel_rfl) (by kernel_rfl) (by kernel_rfl) hHeld (fun v => FV v (angV h)) rfl hEx ⟨by rfl, ?_⟩ ?_
    · refine .inr ⟨35, #[fv (floatOfInt .f32 t), fv 1068761088], fun w => ?_, fun w hSw => ?_⟩
      · (go_simp; first | done | (with_reducible rfl))
      refine (times_c _ _ w).mono ?_
      rintro e w' ⟨⟨v, rfl, hv⟩, g⟩
      exact ⟨v, rfl, by rw [hk, ← VDeg]; exact hv, World.grownBy.trans hSw g⟩
    rintro v ⟨g, rfl, hg⟩
    simp only [Act.put, List.getElem_toArray, List.getElem_cons_succ, List.getElem_cons_zero, List.setIfInBounds_toArray, List.set_cons_zero, List.set_cons_succ]
    refine wpR_pure (i := 9) (oi := _) (v := ?_) rfl (by kernel_rfl) (by kernel_rfl) (by kernel_rfl) (by kernel_rfl) (by kernel_rfl) (by kernel_rfl) hHeld (Or.inl ⟨by rfl, ?_⟩) ?_
    rotate_left
    · (intro w hSw; go_simp; first | done | (with_reducible rfl))
    simp only [Act.put, List.getElem_toArray, List.getElem_cons_succ, List.getElem_cons_zero, List.setIfInBounds_toArray, List.set_cons_zero, List.set_cons_succ]
    refine wpR_end (by kernel_rfl) (fun w hSw => ?_)
    refine any_one (i := 10) (by kernel_rfl) rfl (fun K hK => ?_)
    have x0 := ((HB.out.2.1.kept hSw (by simp))).cellv 0 _ rfl
    have y0 := ((HB.out.2.1.kept hSw (by simp))).frozen 0
    have x1 := ((HB.out.2.1.kept hSw (by simp))).cellv 1 _ rfl
    have y1 := ((HB.out.2.1.kept hSw (by simp))).frozen 1
    have x2 := ((HB.out.2.1.kept hSw (by simp))).cellv 2 _ rfl
    have y2 := ((HB.out.2.1.kept hSw (by simp))).frozen 2
    go_simp
    clear x0 y0 x1 y1 x2 y2
    have H0 := ((((HB.out.2.1.kept hSw (by simp))).setCell 0 (fv (fl x))).setCell 1 (fv (fl y))).setCell 2 (fv g)
    have HR := Keep.mk (And.intro H0 (gr_new (HB.out.2.2.trans hSw) ((gr_set w rb 0 (fv (fl x))).trans ((gr_set _ rb 1 (fv (fl y))).trans (gr_set _ rb 2 (fv g)))) HL.out))
    clear H0
    refine hK.out _ _ ?_
    clear hK K
    generalize ((w.setCell ⟨rb, 0, none⟩ (fv (fl x))).setCell ⟨rb, 1, none⟩ (fv (fl y))).setCell ⟨rb, 2, none⟩ (fv g) = W9 at HR ⊢
    refine any_done (by kernel_rfl) ?_ _
    go_wp2_with fail
    obtain ⟨du, hdu, hdr⟩ := row37
    exact ret_c rfl rfl HR.out.1 hdu hdr info37 rfl ⟨_, rfl, ⟨_, _, _, rfl, rfl, rfl, hg⟩, HR.out.2⟩
end Sm
end Go.Proofs.Ytfhhneibdmjfgaa
