/- Mix -/
import Derived.Test.YtfhhneibdmjfgaaQ3
namespace Go.Proofs.Ytfhhneibdmjfgaa
open Go Go.RowKit Ieee Fx
namespace Sm
set_option maxRecDepth 100000
attribute [local go_sem] run_store_fl
/-- a value that some float has -/
def IsV (o : OF) : Prop := ∃ g, V g = o
theorem IsV.of (g : Nat) : IsV (V g) := ⟨g, rfl⟩
theorem IsV.add {x y : OF} (hx : IsV x) (hy : IsV y) (w : World) : IsV (oadd x y) := by
  obtain ⟨a, rfl⟩ := hx; obtain ⟨b, rfl⟩ := hy
  obtain ⟨r, q, _, H⟩ := add_run (P := Try.prog) 30 a b w
  exact ⟨r, H⟩
theorem IsV.sub {x y : OF} (hx : IsV x) (hy : IsV y) (w : World) : IsV (osub x y) := by
  obtain ⟨a, rfl⟩ := hx; obtain ⟨b, rfl⟩ := hy
  obtain ⟨r, q, _, H⟩ := sub_run (P := Try.prog) 30 a b w
  exact ⟨r, H⟩
theorem IsV.mul {x y : OF} (hx : IsV x) (hy : IsV y) (w : World) : IsV (omul x y) := by
  obtain ⟨a, rfl⟩ := hx; obtain ⟨b, rfl⟩ := hy
  obtain ⟨r, q, _, H⟩ := mul_run (P := Try.prog) 30 a b w
  exact ⟨r, H⟩
theorem IsV.along {x y z : OF} (hx : IsV x) (hy : IsV y) (hz : IsV z) (w : World) : IsV (alongV x y z) := hx.add (hy.mul hz w) w
theorem IsV.c360 : IsV k360 := ⟨_, V360⟩
theorem IsV.short {x : OF} (hx : IsV x) (w : World) : IsV (shortV x) := by
  unfold shortV
  split
  · exact hx.sub .c360 w
  · split
    · exact hx.add .c360 w
    · exact hx
theorem IsV.turnC {x : OF} (hx : IsV x) (w : World) : IsV (turnC x) := by
  unfold Sm.turnC
  split
  · split
    · exact ⟨_, V0⟩
    · exact hx.add .c360 w
  · exact hx
theorem IsV.turn {x : OF} (hx : IsV x) (w : World) : IsV (turnV x) := by
  unfold turnV
  split
  · exact (hx.sub .c360 w).turnC w
  · exact hx.turnC w
theorem IsV.ex {o : OF} (h : IsV o) : ∃ v, FV v o := by obtain ⟨g, h⟩ := h; exact ⟨_, g, rfl, h⟩
def mixV (a b : Pl) (t : OF) : Pl :=
  if gtB t k0 = false then a else if geB t k1 then b else
    ⟨alongV a.x (osub b.x a.x) t, alongV a.y (osub b.y a.y) t, turnV (alongV a.a (shortV (osub b.a a.a)) t)⟩
set_option maxHeartbeats 8000000 in
theorem mix_c (ax ay aa bx by' ba t : Nat) (w0 : World) :
    Calls Try.prog 17 #[pv ax ay aa, pv bx by' ba, fv t] w0 fun e W' => ∃ v, e = .returned v ∧ PV v (mixV ⟨V ax, V ay, V aa⟩ ⟨V bx, V by', V ba⟩ (V t)) ∧ w0.grownBy W' none := by
  have HB := Keep.mk (boxes3 w0 #[fv ax, fv ay, fv aa] #[fv bx, fv by', fv ba] #[fv 0, fv 0, fv 0] 37 37 37)
  cases h1 : gtB (V t) k0
  · have d1 := gtr_is t 0 rfl V0 h1
    have hR : mixV ⟨V ax, V ay, V aa⟩ ⟨V bx, V by', V ba⟩ (V t) = ⟨V ax, V ay, V aa⟩ := by unfold mixV; rw [h1]; rfl
    rw [hR]
    clear hR h1
    go_enter Try.func17, Try.ntmps17
    go_wp2_with fail
    obtain ⟨du, hdu, hdr⟩ := row37
    have H0 := boxes3 w0 #[fv ax, fv ay, fv aa] #[fv bx, fv by', fv ba] #[fv ax, fv ay, fv aa] 37 37 37
    exact ret_c rfl rfl H0.2.2.1 hdu hdr info37 rfl ⟨_, rfl, ⟨_, _, _, rfl, rfl, rfl, rfl⟩, H0.2.2.2⟩
  · have d1 := gtr_is t 0 rfl V0 h1
    cases h2 : geB (V t) k1
    · have d2 := geq_is t 1065353216 rfl V1 h2
      have hR : mixV ⟨V ax, V ay, V aa⟩ ⟨V bx, V by', V ba⟩ (V t) = ⟨(alongV (V ax) (osub (V bx) (V ax)) (V t)), (alongV (V ay) (osub (V by') (V ay)) (V t)), (turnV (alongV (V aa) (shortV (osub (V ba) (V aa))) (V t)))⟩ := by unfold mixV; rw [h1, h2]; rfl
      rw [hR]
      clear hR h1 h2
      go_enter Try.func17, Try.ntmps17
      go_wp2_with fail
      generalize hW : (((w0.alloc (.cells #[fv ax, fv ay, fv aa] 37)).alloc (.cells #[fv bx, fv by', fv ba] 37)).alloc (.cells #[fv 0, fv 0, fv 0] 37)) = W0 at HB ⊢
      obtain ⟨xb, hxb⟩ : ∃ xb, w0.heap.size = xb := ⟨_, rfl⟩
      obtain ⟨yb, hyb⟩ : ∃ yb, xb + 1 = yb := ⟨_, rfl⟩
      obtain ⟨rb, hrb⟩ : ∃ rb, yb + 1 = rb := ⟨_, rfl⟩
      have HL : Keep (w0.heap.size ≤ rb) := ⟨by omega⟩
      rw [hxb, hyb, hrb] at HB ⊢
      clear hxb hyb hrb hW
      refine region_R (fun w => W0.grownBy w none) [30] [6, 8, 15, 17, 24, 25, 27, 28] (fun i v => if i = 6 then (fun v => FV v (osub (V bx) (V ax))) v else if i = 8 then (fun v => FV v (alongV (V ax) (osub (V bx) (V ax)) (V t))) v else if i = 15 then (fun v => FV v (osub (V by') (V ay))) v else if i = 17 then (fun v => FV v (alongV (V ay) (osub (V by') (V ay)) (V t))) v else if i = 24 then (fun v => FV v (osub (V ba) (V aa))) v else if i = 25 then (fun v => FV v (shortV (osub (V ba) (V aa)))) v else if i = 27 then (fun v => FV v (alongV (V aa) (shortV (osub (V ba) (V aa))) (V t))) v else if i = 28 then (fun v => FV v (turnV (alongV (V aa) (shortV (osub (V ba) (V aa))) (V t)))) v else False) 1 30 (by kernel_rfl) (by rfl) (gr_drew _ _) (fun hHeld => ?_)
      refine wpR_pure (i := 0) (oi := _) (v := ?_) rfl (by kernel_rfl) (by kernel_rfl) (by kernel_rfl) (by kernel_rfl) (by kernel_rfl) (by kernel_rfl) hHeld (Or.inl ⟨by rfl, ?_⟩) ?_
      rotate_left
      · (intro w hSw; go_simp; first | done | (with_reducible rfl))
      simp only [Act.put, List.getElem_toArray, List.getElem_cons_zero, List.setIfInBounds_toArray, List.set_cons_zero, List.set_cons_succ]
      refine wpR_pure (i := 1) (oi := _) (v := ?_) rfl (by kernel_rfl) (by kernel_rfl) (by kernel_rfl) (by kernel_rfl) (by kernel_rfl) (by kernel_rfl) hHeld (Or.inl ⟨by rfl, ?_⟩) ?_
      rotate_left
      · (intro w hSw; have q0 := (HB.out.1.kept hSw (by simp)).cellv 0 _ rfl; go_simp; first | done | (with_reducible rfl))
      simp only [Act.put, List.getElem_toArray, List.getElem_cons_succ, List.getElem_cons_zero, List.setIfInBounds_toArray, List.set_cons_zero, List.set_cons_succ]
      refine wpR_pure (i := 2) (oi := _) (v := ?_) rfl (by kernel_rfl) (by kernel_rfl) (by kernel_rfl) (by kernel_rfl) (by kernel_rfl) (by kernel_rfl) hHeld (Or.inl ⟨by rfl, ?_⟩) ?_
      rotate_left
      · (intro w hSw; go_simp; first | done | (with_reducible rfl))
      simp only [Act.put, List.getElem_toArray, List.getElem_cons_succ, List.getElem_cons_zero, List.setIfInBounds_toArray, List.set_cons_zero, List.set_cons_succ]
      refine wpR_pure (i := 3) (oi := _) (v := ?_) rfl (by kernel_rfl) (by kernel_rfl) (by kernel_rfl) (by kernel_rfl) (by kernel_rfl) (by kernel_rfl) hHeld (Or.inl ⟨by rfl, ?_⟩) ?_
      rotate_left
      · (intro w hSw; have q0 := (HB.out.2.1.kept hSw (by simp)).cellv 0 _ rfl; go_simp; first | done | (with_reducible rfl))
      simp only [Act.put, List.getElem_toArray, List.getElem_cons_succ, List.getElem_cons_zero, List.setIfInBounds_toArray, List.set_cons_zero, List.set_cons_succ]
      refine wpR_pure (i := 4) (oi := _) (v := ?_) rfl (by kernel_rfl) (by kernel_rfl) (by kernel_rfl) (by kernel_rfl) (by kernel_rfl) (by kernel_rfl) hHeld (Or.inl ⟨by rfl, ?_⟩) ?_
      rotate_left
      · (intro w hSw; go_simp; first | done | (with_reducible rfl))
      simp only [Act.put, List.getElem_toArray, List.getElem_cons_succ, List.getElem_cons_zero, List.setIfInBounds_toArray, List.set_cons_zero, List.set_cons_succ]
      refine wpR_pure (i := 5) (oi := _) (v := ?_) rfl (by kernel_rfl) (by kernel_rfl) (by kernel_rfl) (by kernel_rfl) (by kernel_rfl) (by kernel_rfl) hHeld (Or.inl ⟨by rfl, ?_⟩) ?_
      rotate_left
      · (intro w hSw; have q0 := (HB.out.1.kept hSw (by simp)).cellv 0 _ rfl; go_simp; first | done | (with_reducible rfl))
      simp only [Act.put, List.getElem_toArray, List.getElem_cons_succ, List.getElem_cons_zero, List.setIfInBounds_toArray, List.set_cons_zero, List.set_cons_succ]
      refine wpR_pure (i := 7) (oi := _) (v := ?_) rfl (by kernel_rfl) (by kernel_rfl) (by kernel_rfl) (by kernel_rfl) (by kernel_rfl) (by kernel_rfl) hHeld (Or.inl ⟨by rfl, ?_⟩) ?_
      rotate_left
      · (intro w hSw; go_simp; first | done | (with_reducible rfl))
      simp only [Act.put, List.getElem_toArray, List.getElem_cons_succ, List.getElem_cons_zero, List.setIfInBounds_toArray, List.set_cons_zero, List.set_cons_succ]
      refine wpR_pure (i := 9) (oi := _) (v := ?_) rfl (by kernel_rfl) (by kernel_rfl) (by kernel_rfl) (by kernel_rfl) (by kernel_rfl) (by kernel_rfl) hHeld (Or.inl ⟨by rfl, ?_⟩) ?_
      rotate_left
      · (intro w hSw; go_simp; first | done | (with_reducible rfl))
      simp only [Act.put, List.getElem_toArray, List.getElem_cons_succ, List.getElem_cons_zero, List.setIfInBounds_toArray, List.set_cons_zero, List.set_cons_succ]
      refine wpR_pure (i := 10) (oi := _) (v := ?_) rfl (by kernel_rfl) (by kernel_rfl) (by kernel_rfl) (by kernel_rfl) (by kernel_rfl) (by kernel_rfl) hHeld (Or.inl ⟨by rfl, ?_⟩) ?_
      rotate_left
      · (intro w hSw; have q0 := (HB.out.1.kept hSw (by simp)).cellv 1 _ rfl; go_simp; first | done | (with_reducible rfl))
      simp only [Act.put, List.getElem_toArray, List.getElem_cons_succ, List.getElem_cons_zero, List.setIfInBounds_toArray, List.set_cons_zero, List.set_cons_succ]
      refine wpR_pure (i := 11) (oi := _) (v := ?_) rfl (by kernel_rfl) (by kernel_rfl) (by kernel_rfl) (by kernel_rfl) (by kernel_rfl) (by kernel_rfl) hHeld (Or.inl ⟨by rfl, ?_⟩) ?_
      rotate_left
      · (intro w hSw; go_simp; first | done | (with_reducible rfl))
      simp only [Act.put, List.getElem_toArray, List.getElem_cons_succ, List.getElem_cons_zero, List.setIfInBounds_toArray, List.set_cons_zero, List.set_cons_succ]
      refine wpR_pure (i := 12) (oi := _) (v := ?_) rfl (by kernel_rfl) (by kernel_rfl) (by kernel_rfl) (by kernel_rfl) (by kernel_rfl) (by kernel_rfl) hHeld (Or.inl ⟨by rfl, ?_⟩) ?_
      rotate_left
      · (intro w hSw; have q0 := (HB.out.2.1.kept hSw (by simp)).cellv 1 _ rfl; go_simp; first | done | (with_reducible rfl))
      simp only [Act.put, List.getElem_toArray, List.getElem_cons_succ, List.getElem_cons_zero, List.setIfInBounds_toArray, List.set_cons_zero, List.set_cons_succ]
      refine wpR_pure (i := 13) (oi := _) (v := ?_) rfl (by kernel_rfl) (by kernel_rfl) (by kernel_rfl) (by kernel_rfl) (by kernel_rfl) (by kernel_rfl) hHeld (Or.inl ⟨by rfl, ?_⟩) ?_
      rotate_left
      · (intro w hSw; go_simp; first | done | (with_reducible rfl))
      simp only [Act.put, List.getElem_toArray, List.getElem_cons_succ, List.getElem_cons_zero, List.setIfInBounds_toArray, List.set_cons_zero, List.set_cons_succ]
      refine wpR_pure (i := 14) (oi := _) (v := ?_) rfl (by kernel_rfl) (by kernel_rfl) (by kernel_rfl) (by kernel_rfl) (by kernel_rfl) (by kernel_rfl) hHeld (Or.inl ⟨by rfl, ?_⟩) ?_
      rotate_left
      · (intro w hSw; have q0 := (HB.out.1.kept hSw (by simp)).cellv 1 _ rfl; go_simp; first | done | (with_reducible rfl))
      simp only [Act.put, List.getElem_toArray, List.getElem_cons_succ, List.getElem_cons_zero, List.setIfInBounds_toArray, List.set_cons_zero, List.set_cons_succ]
      refine wpR_pure (i := 16) (oi := _) (v := ?_) rfl (by kernel_rfl) (by kernel_rfl) (by kernel_rfl) (by kernel_rfl) (by kernel_rfl) (by kernel_rfl) hHeld (Or.inl ⟨by rfl, ?_⟩) ?_
      rotate_left
      · (intro w hSw; go_simp; first | done | (with_reducible rfl))
      simp only [Act.put, List.getElem_toArray, List.getElem_cons_succ, List.getElem_cons_zero, List.setIfInBounds_toArray, List.set_cons_zero, List.set_cons_succ]
      refine wpR_pure (i := 18) (oi := _) (v := ?_) rfl (by kernel_rfl) (by kernel_rfl) (by kernel_rfl) (by kernel_rfl) (by kernel_rfl) (by kernel_rfl) hHeld (Or.inl ⟨by rfl, ?_⟩) ?_
      rotate_left
      · (intro w hSw; go_simp; first | done | (with_reducible rfl))
      simp only [Act.put, List.getElem_toArray, List.getElem_cons_succ, List.getElem_cons_zero, List.setIfInBounds_toArray, List.set_cons_zero, List.set_cons_succ]
      refine wpR_pure (i := 19) (oi := _) (v := ?_) rfl (by kernel_rfl) (by kernel_rfl) (by kernel_rfl) (by kernel_rfl) (by kernel_rfl) (by kernel_rfl) hHeld (Or.inl ⟨by rfl, ?_⟩) ?_
      rotate_left
      · (intro w hSw; have q0 := (HB.out.1.kept hSw (by simp)).cellv 2 _ rfl; go_simp; first | done | (with_reducible rfl))
      simp only [Act.put, List.getElem_toArray, List.getElem_cons_succ, List.getElem_cons_zero, List.setIfInBounds_toArray, List.set_cons_zero, List.set_cons_succ]
      refine wpR_pure (i := 20) (oi := _) (v := ?_) rfl (by kernel_rfl) (by kernel_rfl) (by kernel_rfl) (by kernel_rfl) (by kernel_rfl) (by kernel_rfl) hHeld (Or.inl ⟨by rfl, ?_⟩) ?_
      rotate_left
      · (intro w hSw; go_simp; first | done | (with_reducible rfl))
      simp only [Act.put, List.getElem_toArray, List.getElem_cons_succ, List.getElem_cons_zero, List.setIfInBounds_toArray, List.set_cons_zero, List.set_cons_succ]
      refine wpR_pure (i := 21) (oi := _) (v := ?_) rfl (by kernel_rfl) (by kernel_rfl) (by kernel_rfl) (by kernel_rfl) (by kernel_rfl) (by kernel_rfl) hHeld (Or.inl ⟨by rfl, ?_⟩) ?_
      rotate_left
      · (intro w hSw; have q0 := (HB.out.2.1.kept hSw (by simp)).cellv 2 _ rfl; go_simp; first | done | (with_reducible rfl))
      simp only [Act.put, List.getElem_toArray, List.getElem_cons_succ, List.getElem_cons_zero, List.setIfInBounds_toArray, List.set_cons_zero, List.set_cons_succ]
      refine wpR_pure (i := 22) (oi := _) (v := ?_) rfl (by kernel_rfl) (by kernel_rfl) (by kernel_rfl) (by kernel_rfl) (by kernel_rfl) (by kernel_rfl) hHeld (Or.inl ⟨by rfl, ?_⟩) ?_
      rotate_left
      · (intro w hSw; go_simp; first | done | (with_reducible rfl))
      simp only [Act.put, List.getElem_toArray, List.getElem_cons_succ, List.getElem_cons_zero, List.setIfInBounds_toArray, List.set_cons_zero, List.set_cons_succ]
      refine wpR_pure (i := 23) (oi := _) (v := ?_) rfl (by kernel_rfl) (by kernel_rfl) (by kernel_rfl) (by kernel_rfl) (by kernel_rfl) (by kernel_rfl) hHeld (Or.inl ⟨by rfl, ?_⟩) ?_
      rotate_left
      · (intro w hSw; have q0 := (HB.out.1.kept hSw (by simp)).cellv 2 _ rfl; go_simp; first | done | (with_reducible rfl))
      simp only [Act.put, List.getElem_toArray, List.getElem_cons_succ, List.getElem_cons_zero, List.setIfInBounds_toArray, List.set_cons_zero, List.set_cons_succ]
      refine wpR_pure (i := 26) (oi := _) (v := ?_) rfl (by kernel_rfl) (by kernel_rfl) (by kernel_rfl) (by kernel_rfl) (by kernel_rfl) (by kernel_rfl) hHeld (Or.inl ⟨by rfl, ?_⟩) ?_
      rotate_left
      · (intro w hSw; go_simp; first | done | (with_reducible rfl))
      simp only [Act.put, List.getElem_toArray, List.getElem_cons_succ, List.getElem_cons_zero, List.setIfInBounds_toArray, List.set_cons_zero, List.set_cons_succ]
      refine wpR_some (i := 6) (oi := _) rfl (by kernel_rfl) (by kernel_rfl) (by kernel_rfl) (by kernel_rfl) (by kernel_rfl) (by kernel_rfl) hHeld (fun v => FV v (osub (V bx) (V ax))) rfl (((IsV.of bx).sub (IsV.of ax) w0)).ex ⟨by rfl, ?_⟩ ?_
      · refine .inl fun w hSw => ?_
        obtain ⟨r, q, hr, H⟩ := sub_run (P := Try.prog) 30 bx ax w
        exact ⟨.float .f32 r, w.drewN q, by go_simp, ⟨r, rfl, H⟩, World.grownBy.trans hSw (gr_drewN _ _ _)⟩
      rintro v ⟨gx, rfl, hgx⟩
      simp only [Act.put, List.getElem_toArray, List.getElem_cons_succ, List.getElem_cons_zero, List.setIfInBounds_toArray, List.set_cons_zero, List.set_cons_succ]
      refine wpR_some (i := 8) (oi := _) rfl (by kernel_rfl) (by kernel_rfl) (by kernel_rfl) (by kernel_rfl) (by kernel_rfl) (by kernel_rfl) hHeld (fun v => FV v (alongV (V ax) (osub (V bx) (V ax)) (V t))) rfl ((IsV.of ax).along ((IsV.of bx).sub (IsV.of ax) w0) (IsV.of t) w0).ex ⟨by rfl, ?_⟩ ?_
      · refine .inr ⟨31, #[fv ax, fv gx, fv t], fun w => ?_, fun w hSw => ?_⟩
        · (go_simp; first | done | (with_reducible rfl))
        refine (along_c _ _ _ w).mono ?_
        rintro e w' ⟨⟨v, rfl, hv⟩, g⟩
        exact ⟨v, rfl, by rw [← hgx]; exact hv, World.grownBy.trans hSw g⟩
      rintro v ⟨kx, rfl, hkx⟩
      simp only [Act.put, List.getElem_toArray, List.getElem_cons_succ, List.getElem_cons_zero, List.setIfInBounds_toArray, List.set_cons_zero, List.set_cons_succ]
      refine wpR_some (i := 15) (oi := _) rfl (by kernel_rfl) (by kernel_rfl) (by kernel_rfl) (by kernel_rfl) (by kernel_rfl) (by kernel_rfl) hHeld (fun v => FV v (osub (V by') (V ay))) rfl (((IsV.of by').sub (IsV.of ay) w0)).ex ⟨by rfl, ?_⟩ ?_
      · refine .inl fun w hSw => ?_
        obtain ⟨r, q, hr, H⟩ := sub_run (P := Try.prog) 30 by' ay w
        exact ⟨.float .f32 r, w.drewN q, by go_simp, ⟨r, rfl, H⟩, World.grownBy.trans hSw (gr_drewN _ _ _)⟩
      rintro v ⟨gy, rfl, hgy⟩
      simp only [Act.put, List.getElem_toArray, List.getElem_cons_succ, List.getElem_cons_zero, List.setIfInBounds_toArray, List.set_cons_zero, List.set_cons_succ]
      refine wpR_some (i := 17) (oi := _) rfl (by kernel_rfl) (by kernel_rfl) (by kernel_rfl) (by kernel_rfl) (by kernel_rfl) (by kernel_rfl) hHeld (fun v => FV v (alongV (V ay) (osub (V by') (V ay)) (V t))) rfl ((IsV.of ay).along ((IsV.of by').sub (IsV.of ay) w0) (IsV.of t) w0).ex ⟨by rfl, ?_⟩ ?_
      · refine .inr ⟨31, #[fv ay, fv gy, fv t], fun w => ?_, fun w hSw => ?_⟩
        · (go_simp; first | done | (with_reducible rfl))
        refine (along_c _ _ _ w).mono ?_
        rintro e w' ⟨⟨v, rfl, hv⟩, g⟩
        exact ⟨v, rfl, by rw [← hgy]; exact hv, World.grownBy.trans hSw g⟩
      rintro v ⟨ky, rfl, hky⟩
      simp only [Act.put, List.getElem_toArray, List.getElem_cons_succ, List.getElem_cons_zero, List.setIfInBounds_toArray, List.set_cons_zero, List.set_cons_succ]
      refine wpR_some (i := 24) (oi := _) rfl (by kernel_rfl) (by kernel_rfl) (by kernel_rfl) (by kernel_rfl) (by kernel_rfl) (by kernel_rfl) hHeld (fun v => FV v (osub (V ba) (V aa))) rfl (((IsV.of ba).sub (IsV.of aa) w0)).ex ⟨by rfl, ?_⟩ ?_
      · refine .inl fun w hSw => ?_
        obtain ⟨r, q, hr, H⟩ := sub_run (P := Try.prog) 30 ba aa w
        exact ⟨.float .f32 r, w.drewN q, by go_simp, ⟨r, rfl, H⟩, World.grownBy.trans hSw (gr_drewN _ _ _)⟩
      rintro v ⟨ga, rfl, hga⟩
      simp only [Act.put, List.getElem_toArray, List.getElem_cons_succ, List.getElem_cons_zero, List.setIfInBounds_toArray, List.set_cons_zero, List.set_cons_succ]
      refine wpR_some (i := 25) (oi := _) rfl (by kernel_rfl) (by kernel_rfl) (by kernel_rfl) (by kernel_rfl) (by kernel_rfl) (by kernel_rfl) hHeld (fun v => FV v (shortV (osub (V ba) (V aa)))) rfl (((IsV.of ba).sub (IsV.of aa) w0).short w0).ex ⟨by rfl, ?_⟩ ?_
      · refine .inr ⟨33, #[fv ga], fun w => ?_, fun w hSw => ?_⟩
        · (go_simp; first | done | (with_reducible rfl))
        refine (short_c _ w).mono ?_
        rintro e w' ⟨⟨v, rfl, hv⟩, g⟩
        exact ⟨v, rfl, by rw [← hga]; exact hv, World.grownBy.trans hSw g⟩
      rintro v ⟨sa, rfl, hsa⟩
      simp only [Act.put, List.getElem_toArray, List.getElem_cons_succ, List.getElem_cons_zero, List.setIfInBounds_toArray, List.set_cons_zero, List.set_cons_succ]
      refine wpR_some (i := 27) (oi := _) rfl (by kernel_rfl) (by kernel_rfl) (by kernel_rfl) (by kernel_rfl) (by kernel_rfl) (by kernel_rfl) hHeld (fun v => FV v (alongV (V aa) (shortV (osub (V ba) (V aa))) (V t))) rfl ((IsV.of aa).along (((IsV.of ba).sub (IsV.of aa) w0).short w0) (IsV.of t) w0).ex ⟨by rfl, ?_⟩ ?_
      · refine .inr ⟨31, #[fv aa, fv sa, fv t], fun w => ?_, fun w hSw => ?_⟩
        · (go_simp; first | done | (with_reducible rfl))
        refine (along_c _ _ _ w).mono ?_
        rintro e w' ⟨⟨v, rfl, hv⟩, g⟩
        exact ⟨v, rfl, by rw [← hsa]; exact hv, World.grownBy.trans hSw g⟩
      rintro v ⟨ka, rfl, hka⟩
      simp only [Act.put, List.getElem_toArray, List.getElem_cons_succ, List.getElem_cons_zero, List.setIfInBounds_toArray, List.set_cons_zero, List.set_cons_succ]
      refine wpR_some (i := 28) (oi := _) rfl (by kernel_rfl) (by kernel_rfl) (by kernel_rfl) (by kernel_rfl) (by kernel_rfl) (by kernel_rfl) hHeld (fun v => FV v (turnV (alongV (V aa) (shortV (osub (V ba) (V aa))) (V t)))) rfl (((IsV.of aa).along (((IsV.of ba).sub (IsV.of aa) w0).short w0) (IsV.of t) w0).turn w0).ex ⟨by rfl, ?_⟩ ?_
      · refine .inr ⟨32, #[fv ka], fun w => ?_, fun w hSw => ?_⟩
        · (go_simp; first | done | (with_reducible rfl))
        refine (turn_c _ w).mono ?_
        rintro e w' ⟨⟨v, rfl, hv⟩, g⟩
        exact ⟨v, rfl, by rw [← hka]; exact hv, World.grownBy.trans hSw g⟩
      rintro v ⟨ra, rfl, hra⟩
      simp only [Act.put, List.getElem_toArray, List.getElem_cons_succ, List.getElem_cons_zero, List.setIfInBounds_toArray, List.set_cons_zero, List.set_cons_succ]
      refine wpR_pure (i := 29) (oi := _) (v := ?_) rfl (by kernel_rfl) (by kernel_rfl) (by kernel_rfl) (by kernel_rfl) (by kernel_rfl) (by kernel_rfl) hHeld (Or.inl ⟨by rfl, ?_⟩) ?_
      rotate_left
      · (intro w hSw; go_simp; first | done | (with_reducible rfl))
      simp only [Act.put, List.getElem_toArray, List.getElem_cons_succ, List.getElem_cons_zero, List.setIfInBounds_toArray, List.set_cons_zero, List.set_cons_succ]
      refine wpR_end (by kernel_rfl) (fun w hSw => ?_)
      refine any_one (i := 30) (by kernel_rfl) rfl (fun K hK => ?_)
      have x0 := ((HB.out.2.2.1.kept hSw (by simp))).cellv 0 _ rfl
      have y0 := ((HB.out.2.2.1.kept hSw (by simp))).frozen 0
      have x1 := ((HB.out.2.2.1.kept hSw (by simp))).cellv 1 _ rfl
      have y1 := ((HB.out.2.2.1.kept hSw (by simp))).frozen 1
      have x2 := ((HB.out.2.2.1.kept hSw (by simp))).cellv 2 _ rfl
      have y2 := ((HB.out.2.2.1.kept hSw (by simp))).frozen 2
      go_simp
      clear x0 y0 x1 y1 x2 y2
      have H0 := ((((HB.out.2.2.1.kept hSw (by simp))).setCell 0 (fv kx)).setCell 1 (fv ky)).setCell 2 (fv ra)
      have HR := Keep.mk (And.intro H0 (gr_new (HB.out.2.2.2.trans hSw) ((gr_set w rb 0 (fv kx)).trans ((gr_set _ rb 1 (fv ky)).trans (gr_set _ rb 2 (fv ra)))) HL.out))
      clear H0
      refine hK.out _ _ ?_
      clear hK K
      generalize ((w.setCell ⟨rb, 0, none⟩ (fv kx)).setCell ⟨rb, 1, none⟩ (fv ky)).setCell ⟨rb, 2, none⟩ (fv ra) = W9 at HR ⊢
      refine any_done (by kernel_rfl) ?_ _
      go_wp2_with fail
      obtain ⟨du, hdu, hdr⟩ := row37
      exact ret_c rfl rfl HR.out.1 hdu hdr info37 rfl ⟨_, rfl, ⟨_, _, _, rfl, hkx, hky, hra⟩, HR.out.2⟩
    · have d2 := geq_is t 1065353216 rfl V1 h2
      have hR : mixV ⟨V ax, V ay, V aa⟩ ⟨V bx, V by', V ba⟩ (V t) = ⟨V bx, V by', V ba⟩ := by unfold mixV; rw [h1, h2]; rfl
      rw [hR]
      clear hR h1 h2
      go_enter Try.func17, Try.ntmps17
      go_wp2_with fail
      obtain ⟨du, hdu, hdr⟩ := row37
      have H0 := boxes3 w0 #[fv ax, fv ay, fv aa] #[fv bx, fv by', fv ba] #[fv bx, fv by', fv ba] 37 37 37
      exact ret_c rfl rfl H0.2.2.1 hdu hdr info37 rfl ⟨_, rfl, ⟨_, _, _, rfl, rfl, rfl, rfl⟩, H0.2.2.2⟩
end Sm
end Go.Proofs.Ytfhhneibdmjfgaa
