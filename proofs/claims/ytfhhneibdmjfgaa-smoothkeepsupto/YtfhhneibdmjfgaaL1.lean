/- SmoothPlaces: its walk -/
import Derived.Test.YtfhhneibdmjfgaaQ9
namespace Go.Proofs.Ytfhhneibdmjfgaa
open Go Go.RowKit Ieee Fx
namespace Sm
set_option maxRecDepth 100000
attribute [local go_sem] run_store_fl
theorem isV_ang (h : Int) (w : World) : IsV (angV h) := by
  obtain ⟨r, q, _, H⟩ := mul_run (P := Try.prog) 30 (floatOfInt .f32 (h % 256)) 1068761088 w
  exact ⟨r, H.trans (by rw [VDeg]; rfl)⟩
theorem PV.ex {p : Pl} (hx : IsV p.x) (hy : IsV p.y) (ha : IsV p.a) : ∃ v, PV v p := by
  obtain ⟨x, hx⟩ := hx
  obtain ⟨y, hy⟩ := hy
  obtain ⟨a, ha⟩ := ha
  exact ⟨_, x, y, a, rfl, hx, hy, ha⟩
theorem of_ex (x y h : Int) (w : World) : ∃ v, PV v (ofV x y h) := PV.ex (.of _) (.of _) (isV_ang h w)
theorem ah_ex (c : Cr) (t : Nat) (w : World) : ∃ v, PV v (ahV c (V t)) := PV.ex ((IsV.of _).along (.of _) (isV_t2 c t) w) ((IsV.of _).along (.of _) (isV_t2 c t) w) (isV_ang _ w)
set_option maxHeartbeats 8000000 in
theorem places_c (c : Cr) (t : Nat) (w0 : World) : Calls Try.prog 8 #[.agg (crA c), fv t] w0 fun e w' => e = .returned (.bool true) ∧ w0.grownBy w' none := by
  have HB := Keep.mk (And.intro (Has.newA w0 (crA c) 26) (gr_alloc w0 (.cells (crA c) 26) none))
  go_enter Try.func8, Try.ntmps8
  go_wp2_with fail
  obtain ⟨xb, hxb⟩ : ∃ xb, w0.heap.size = xb := ⟨_, rfl⟩
  rw [hxb] at HB ⊢
  clear hxb
  generalize w0.alloc (.cells (crA c) 26) = W1 at HB ⊢
  refine (alive_c W1).mono ?_
  rintro e W0 ⟨rfl, g⟩
  replace HB := Keep.mk (And.intro (HB.out.1.kept g (by simp)) (HB.out.2.trans g))
  clear g
  go_wp2_with fail
  obtain ⟨du, hdu, hdr⟩ := row26
  refine region_R (fun w => W0.grownBy w none) [23] [4, 9, 10, 14, 17, 18, 21] (fun i v => if i = 4 then (fun v => PV v (ofV c.x c.y c.h)) v else if i = 9 then (fun v => PV v (ofV c.x c.y c.h)) v else if i = 10 then (fun v => v = .bool true) v else if i = 14 then (fun v => PV v (ahV c (V t))) v else if i = 17 then (fun v => PV v (ahV c (V t))) v else if i = 18 then (fun v => v = .bool true) v else if i = 21 then (fun v => v = .bool true) v else False) 1 23 (by kernel_rfl) (by rfl) (gr_drew _ _) (fun hHeld => ?_)
  refine wpR_pure (i := 0) (oi := _) (v := ?_) rfl (by kernel_rfl) (by kernel_rfl) (by kernel_rfl) (by kernel_rfl) (by kernel_rfl) (by kernel_rfl) hHeld (Or.inl ⟨by rfl, ?_⟩) ?_
  rotate_left
  · (intro w hSw; go_simp; first | done | (with_reducible rfl))
  simp only [Act.put, List.getElem_toArray, List.getElem_cons_zero, List.setIfInBounds_toArray, List.set_cons_zero, List.set_cons_succ]
  refine wpR_pure (i := 1) (oi := _) (v := ?_) rfl (by kernel_rfl) (by kernel_rfl) (by kernel_rfl) (by kernel_rfl) (by kernel_rfl) (by kernel_rfl) hHeld (Or.inl ⟨by rfl, ?_⟩) ?_
  rotate_left
  · (intro w hSw; have q2 := (HB.out.1.kept hSw (by simp)).cellv 2 _ rfl; have q3 := (HB.out.1.kept hSw (by simp)).cellv 3 _ rfl; go_simp; first | done | (with_reducible rfl))
  simp only [Act.put, List.getElem_toArray, List.getElem_cons_succ, List.getElem_cons_zero, List.setIfInBounds_toArray, List.set_cons_zero, List.set_cons_succ]
  refine wpR_pure (i := 2) (oi := _) (v := ?_) rfl (by kernel_rfl) (by kernel_rfl) (by kernel_rfl) (by kernel_rfl) (by kernel_rfl) (by kernel_rfl) hHeld (Or.inl ⟨by rfl, ?_⟩) ?_
  rotate_left
  · (intro w hSw; go_simp; first | done | (with_reducible rfl))
  simp only [Act.put, List.getElem_toArray, List.getElem_cons_succ, List.getElem_cons_zero, List.setIfInBounds_toArray, List.set_cons_zero, List.set_cons_succ]
  refine wpR_pure (i := 3) (oi := _) (v := ?_) rfl (by kernel_rfl) (by kernel_rfl) (by kernel_rfl) (by kernel_rfl) (by kernel_rfl) (by kernel_rfl) hHeld (Or.inl ⟨by rfl, ?_⟩) ?_
  rotate_left
  · (intro w hSw; have q6 := (HB.out.1.kept hSw (by simp)).cellv 6 _ rfl; go_simp; first | done | (with_reducible rfl))
  simp only [Act.put, List.getElem_toArray, List.getElem_cons_succ, List.getElem_cons_zero, List.setIfInBounds_toArray, List.set_cons_zero, List.set_cons_succ]
  refine wpR_pure (i := 5) (oi := _) (v := ?_) rfl (by kernel_rfl) (by kernel_rfl) (by kernel_rfl) (by kernel_rfl) (by kernel_rfl) (by kernel_rfl) hHeld (Or.inl ⟨by rfl, ?_⟩) ?_
  rotate_left
  · (intro w hSw; go_simp; first | done | (with_reducible rfl))
  simp only [Act.put, List.getElem_toArray, List.getElem_cons_succ, List.getElem_cons_zero, List.setIfInBounds_toArray, List.set_cons_zero, List.set_cons_succ]
  refine wpR_pure (i := 6) (oi := _) (v := ?_) rfl (by kernel_rfl) (by kernel_rfl) (by kernel_rfl) (by kernel_rfl) (by kernel_rfl) (by kernel_rfl) hHeld (Or.inl ⟨by rfl, ?_⟩) ?_
  rotate_left
  · (intro w hSw; have q2 := (HB.out.1.kept hSw (by simp)).cellv 2 _ rfl; have q3 := (HB.out.1.kept hSw (by simp)).cellv 3 _ rfl; go_simp; first | done | (with_reducible rfl))
  simp only [Act.put, List.getElem_toArray, List.getElem_cons_succ, List.getElem_cons_zero, List.setIfInBounds_toArray, List.set_cons_zero, List.set_cons_succ]
  refine wpR_pure (i := 7) (oi := _) (v := ?_) rfl (by kernel_rfl) (by kernel_rfl) (by kernel_rfl) (by kernel_rfl) (by kernel_rfl) (by kernel_rfl) hHeld (Or.inl ⟨by rfl, ?_⟩) ?_
  rotate_left
  · (intro w hSw; go_simp; first | done | (with_reducible rfl))
  simp only [Act.put, List.getElem_toArray, List.getElem_cons_succ, List.getElem_cons_zero, List.setIfInBounds_toArray, List.set_cons_zero, List.set_cons_succ]
  refine wpR_pure (i := 8) (oi := _) (v := ?_) rfl (by kernel_rfl) (by kernel_rfl) (by kernel_rfl) (by kernel_rfl) (by kernel_rfl) (by kernel_rfl) hHeld (Or.inl ⟨by rfl, ?_⟩) ?_
  rotate_left
  · (intro w hSw; have q6 := (HB.out.1.kept hSw (by simp)).cellv 6 _ rfl; go_simp; first | done | (with_reducible rfl))
  simp only [Act.put, List.getElem_toArray, List.getElem_cons_succ, List.getElem_cons_zero, List.setIfInBounds_toArray, List.set_cons_zero, List.set_cons_succ]
  refine wpR_some (i := 4) (oi := _) rfl (by kernel_rfl) (by kernel_rfl) (by kernel_rfl) (by kernel_rfl) (by kernel_rfl) (by kernel_rfl) hHeld (fun v => PV v (ofV c.x c.y c.h)) rfl (of_ex c.x c.y c.h w0) ⟨by rfl, ?_⟩ ?_
  · refine .inr ⟨11, #[.agg #[iv c.x, iv c.y], iv c.h], fun w => ?_, fun w hSw => ?_⟩
    · (go_simp; first | done | (with_reducible rfl))
    refine (of_c c.x c.y c.h w).mono ?_
    rintro e w' ⟨v, rfl, hv, g⟩
    exact ⟨v, rfl, hv, World.grownBy.trans hSw g⟩
  intro v1 hv1
  simp only [Act.put, List.getElem_toArray, List.getElem_cons_succ, List.getElem_cons_zero, List.setIfInBounds_toArray, List.set_cons_zero, List.set_cons_succ]
  refine wpR_some (i := 9) (oi := _) rfl (by kernel_rfl) (by kernel_rfl) (by kernel_rfl) (by kernel_rfl) (by kernel_rfl) (by kernel_rfl) hHeld (fun v => PV v (ofV c.x c.y c.h)) rfl (of_ex c.x c.y c.h w0) ⟨by rfl, ?_⟩ ?_
  · refine .inr ⟨22, #[.agg #[iv c.x, iv c.y], iv c.h], fun w => ?_, fun w hSw => ?_⟩
    · (go_simp; first | done | (with_reducible rfl))
    refine (rof_c c.x c.y c.h w).mono ?_
    rintro e w' ⟨v, rfl, hv, g⟩
    exact ⟨v, rfl, hv, World.grownBy.trans hSw g⟩
  intro v2 hv2
  simp only [Act.put, List.getElem_toArray, List.getElem_cons_succ, List.getElem_cons_zero, List.setIfInBounds_toArray, List.set_cons_zero, List.set_cons_succ]
  refine wpR_some (i := 10) (oi := _) rfl (by kernel_rfl) (by kernel_rfl) (by kernel_rfl) (by kernel_rfl) (by kernel_rfl) (by kernel_rfl) hHeld (fun v => v = .bool true) rfl ⟨_, rfl⟩ ⟨by rfl, ?_⟩ ?_
  · refine .inr ⟨20, #[v1, v2], fun w => ?_, fun w hSw => ?_⟩
    · (go_simp; first | done | (with_reducible rfl))
    refine (one_c _ _ _ hv1 hv2 w).mono ?_
    rintro e w' ⟨rfl, g⟩
    exact ⟨_, rfl, rfl, World.grownBy.trans hSw g⟩
  rintro v rfl
  simp only [Act.put, List.getElem_toArray, List.getElem_cons_succ, List.getElem_cons_zero, List.setIfInBounds_toArray, List.set_cons_zero, List.set_cons_succ]
  refine wpR_pure (i := 11) (oi := _) (v := ?_) rfl (by kernel_rfl) (by kernel_rfl) (by kernel_rfl) (by kernel_rfl) (by kernel_rfl) (by kernel_rfl) hHeld (Or.inl ⟨by rfl, ?_⟩) ?_
  rotate_left
  · (intro w hSw; go_simp; first | done | (with_reducible rfl))
  simp only [Act.put, List.getElem_toArray, List.getElem_cons_succ, List.getElem_cons_zero, List.setIfInBounds_toArray, List.set_cons_zero, List.set_cons_succ]
  refine wpR_pure (i := 12) (oi := _) (v := .agg (crA c)) rfl (by kernel_rfl) (by kernel_rfl) (by kernel_rfl) (by kernel_rfl) (by kernel_rfl) (by kernel_rfl) hHeld (yieldsIf_load_mid (by rfl) 26 _ rfl _ _ rfl (crv c) _ (fun w hSw => ((HB.out.1.kept hSw (by simp))).range) hdu hdr info26) ?_
  simp only [Act.put, List.getElem_toArray, List.getElem_cons_succ, List.getElem_cons_zero, List.setIfInBounds_toArray, List.set_cons_zero, List.set_cons_succ]
  refine wpR_pure (i := 13) (oi := _) (v := ?_) rfl (by kernel_rfl) (by kernel_rfl) (by kernel_rfl) (by kernel_rfl) (by kernel_rfl) (by kernel_rfl) hHeld (Or.inl ⟨by rfl, ?_⟩) ?_
  rotate_left
  · (intro w hSw; go_simp; first | done | (with_reducible rfl))
  simp only [Act.put, List.getElem_toArray, List.getElem_cons_succ, List.getElem_cons_zero, List.setIfInBounds_toArray, List.set_cons_zero, List.set_cons_succ]
  refine wpR_pure (i := 15) (oi := _) (v := .agg (crA c)) rfl (by kernel_rfl) (by kernel_rfl) (by kernel_rfl) (by kernel_rfl) (by kernel_rfl) (by kernel_rfl) hHeld (yieldsIf_load_mid (by rfl) 26 _ rfl _ _ rfl (crv c) _ (fun w hSw => ((HB.out.1.kept hSw (by simp))).range) hdu hdr info26) ?_
  simp only [Act.put, List.getElem_toArray, List.getElem_cons_succ, List.getElem_cons_zero, List.setIfInBounds_toArray, List.set_cons_zero, List.set_cons_succ]
  refine wpR_pure (i := 16) (oi := _) (v := ?_) rfl (by kernel_rfl) (by kernel_rfl) (by kernel_rfl) (by kernel_rfl) (by kernel_rfl) (by kernel_rfl) hHeld (Or.inl ⟨by rfl, ?_⟩) ?_
  rotate_left
  · (intro w hSw; go_simp; first | done | (with_reducible rfl))
  simp only [Act.put, List.getElem_toArray, List.getElem_cons_succ, List.getElem_cons_zero, List.setIfInBounds_toArray, List.set_cons_zero, List.set_cons_succ]
  refine wpR_some (i := 14) (oi := _) rfl (by kernel_rfl) (by kernel_rfl) (by kernel_rfl) (by kernel_rfl) (by kernel_rfl) (by kernel_rfl) hHeld (fun v => PV v (ahV c (V t))) rfl (ah_ex c t w0) ⟨by rfl, ?_⟩ ?_
  · refine .inr ⟨23, #[.agg (crA c), fv t], fun w => ?_, fun w hSw => ?_⟩
    · (go_simp; first | done | (with_reducible rfl))
    refine (ahead_c c t w).mono ?_
    rintro e w' ⟨v, rfl, hv, g⟩
    exact ⟨v, rfl, hv, World.grownBy.trans hSw g⟩
  intro v3 hv3
  simp only [Act.put, List.getElem_toArray, List.getElem_cons_succ, List.getElem_cons_zero, List.setIfInBounds_toArray, List.set_cons_zero, List.set_cons_succ]
  refine wpR_some (i := 17) (oi := _) rfl (by kernel_rfl) (by kernel_rfl) (by kernel_rfl) (by kernel_rfl) (by kernel_rfl) (by kernel_rfl) hHeld (fun v => PV v (ahV c (V t))) rfl (ah_ex c t w0) ⟨by rfl, ?_⟩ ?_
  · refine .inr ⟨24, #[.agg (crA c), fv t], fun w => ?_, fun w hSw => ?_⟩
    · (go_simp; first | done | (with_reducible rfl))
    refine (rahead_c c t w).mono ?_
    rintro e w' ⟨v, rfl, hv, g⟩
    exact ⟨v, rfl, hv, World.grownBy.trans hSw g⟩
  intro v4 hv4
  simp only [Act.put, List.getElem_toArray, List.getElem_cons_succ, List.getElem_cons_zero, List.setIfInBounds_toArray, List.set_cons_zero, List.set_cons_succ]
  refine wpR_some (i := 18) (oi := _) rfl (by kernel_rfl) (by kernel_rfl) (by kernel_rfl) (by kernel_rfl) (by kernel_rfl) (by kernel_rfl) hHeld (fun v => v = .bool true) rfl ⟨_, rfl⟩ ⟨by rfl, ?_⟩ ?_
  · refine .inr ⟨20, #[v3, v4], fun w => ?_, fun w hSw => ?_⟩
    · (go_simp; first | done | (with_reducible rfl))
    refine (one_c _ _ _ hv3 hv4 w).mono ?_
    rintro e w' ⟨rfl, g⟩
    exact ⟨_, rfl, rfl, World.grownBy.trans hSw g⟩
  rintro v rfl
  simp only [Act.put, List.getElem_toArray, List.getElem_cons_succ, List.getElem_cons_zero, List.setIfInBounds_toArray, List.set_cons_zero, List.set_cons_succ]
  refine wpR_pure (i := 19) (oi := _) (v := ?_) rfl (by kernel_rfl) (by kernel_rfl) (by kernel_rfl) (by kernel_rfl) (by kernel_rfl) (by kernel_rfl) hHeld (Or.inl ⟨by rfl, ?_⟩) ?_
  rotate_left
  · (intro w hSw; go_simp; first | done | (with_reducible rfl))
  simp only [Act.put, List.getElem_toArray, List.getElem_cons_succ, List.getElem_cons_zero, List.setIfInBounds_toArray, List.set_cons_zero, List.set_cons_succ]
  refine wpR_pure (i := 20) (oi := _) (v := ?_) rfl (by kernel_rfl) (by kernel_rfl) (by kernel_rfl) (by kernel_rfl) (by kernel_rfl) (by kernel_rfl) hHeld (Or.inl ⟨by rfl, ?_⟩) ?_
  rotate_left
  · (intro w hSw; go_simp; first | done | (with_reducible rfl))
  simp only [Act.put, List.getElem_toArray, List.getElem_cons_succ, List.getElem_cons_zero, List.setIfInBounds_toArray, List.set_cons_zero, List.set_cons_succ]
  refine wpR_some (i := 21) (oi := _) rfl (by kernel_rfl) (by kernel_rfl) (by kernel_rfl) (by kernel_rfl) (by kernel_rfl) (by kernel_rfl) hHeld (fun v => v = .bool true) rfl ⟨_, rfl⟩ ⟨by rfl, ?_⟩ ?_
  · refine .inr ⟨9, #[], fun w => ?_, fun w hSw => ?_⟩
    · (go_simp; first | done | (with_reducible rfl))
    refine (alive_c w).mono ?_
    rintro e w' ⟨rfl, g⟩
    exact ⟨_, rfl, rfl, World.grownBy.trans hSw g⟩
  rintro v rfl
  simp only [Act.put, List.getElem_toArray, List.getElem_cons_succ, List.getElem_cons_zero, List.setIfInBounds_toArray, List.set_cons_zero, List.set_cons_succ]
  refine wpR_pure (i := 22) (oi := _) (v := ?_) rfl (by kernel_rfl) (by kernel_rfl) (by kernel_rfl) (by kernel_rfl) (by kernel_rfl) (by kernel_rfl) hHeld (Or.inl ⟨by rfl, ?_⟩) ?_
  rotate_left
  · (intro w hSw; go_simp; first | done | (with_reducible rfl))
  simp only [Act.put, List.getElem_toArray, List.getElem_cons_succ, List.getElem_cons_zero, List.setIfInBounds_toArray, List.set_cons_zero, List.set_cons_succ]
  refine wpR_end (by kernel_rfl) (fun w hSw => ?_)
  refine any_one (i := 23) (by kernel_rfl) rfl (fun K hK => ?_)
  go_simp
  refine hK.out _ _ ?_
  clear hK K
  have HF := Keep.mk (HB.out.2.trans hSw)
  refine any_done (by kernel_rfl) ?_ _
  go_wp2_with fail
  go_ret
  exact ⟨rfl, HF.out⟩
end Sm
end Go.Proofs.Ytfhhneibdmjfgaa
