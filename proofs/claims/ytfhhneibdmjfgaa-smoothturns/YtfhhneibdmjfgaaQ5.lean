/- the reference's Mix -/
import Derived.Test.YtfhhneibdmjfgaaQ4
import Derived.Deep.DeepCutAuto
namespace Go.Proofs.Ytfhhneibdmjfgaa
open Go Go.RowKit Ieee Fx
namespace Sm
set_option maxRecDepth 100000
attribute [local go_sem] run_store_fl
set_option maxHeartbeats 8000000 in
theorem rmix_c (ax ay aa bx by' ba t : Nat) (w0 : World) :
    Calls Try.prog 21 #[pv ax ay aa, pv bx by' ba, fv t] w0 fun e W' => ∃ v, e = .returned v ∧ PV v (mixV ⟨V ax, V ay, V aa⟩ ⟨V bx, V by', V ba⟩ (V t)) ∧ w0.grownBy W' none := by
  have HB := Keep.mk (boxes3 w0 #[fv ax, fv ay, fv aa] #[fv bx, fv by', fv ba] #[fv 0, fv 0, fv 0] 37 37 37)
  cases h1 : gtB (V t) k0
  · have d1 := gtr_is t 0 rfl V0 h1
    have hR : mixV ⟨V ax, V ay, V aa⟩ ⟨V bx, V by', V ba⟩ (V t) = ⟨V ax, V ay, V aa⟩ := by unfold mixV; rw [h1]; rfl
    rw [hR]
    clear hR h1
    go_enter Try.func21, Try.ntmps21
    go_wp2_with fail
    obtain ⟨du, hdu, hdr⟩ := row37
    have H0 := boxes3 w0 #[fv ax, fv ay, fv aa] #[fv bx, fv by', fv ba] #[fv ax, fv ay, fv aa] 37 37 37
    exact ret_c rfl rfl H0.2.2.1 hdu hdr info37 rfl ⟨_, rfl, ⟨_, _, _, rfl, rfl, rfl, rfl⟩, H0.2.2.2⟩
  · have d1 := gtr_is t 0 rfl V0 h1
    cases h2 : geB (V t) k1
    · have d2 := geq_is t 1065353216 rfl V1 h2
      have hR : mixV ⟨V ax, V ay, V aa⟩ ⟨V bx, V by', V ba⟩ (V t) = ⟨(alongV (V ax) (osub (V bx) (V ax)) (V t)), (alongV (V ay) (osub (V by') (V ay)) (V t)), (turnV (alongV (V aa) (shortV (osub (V ba) (V aa))) (V t)))⟩ := by unfold mixV; rw [h1, h2]; rfl
      rw [hR]
      clear hR h1 h2
      obtain ⟨DV, hDV⟩ : ∃ d, (osub (V ba) (V aa)) = d := ⟨_, rfl⟩
      have HDV : Keep (IsV DV) := ⟨hDV ▸ ((IsV.of ba).sub (IsV.of aa) w0)⟩
      go_enter Try.func21, Try.ntmps21
      go_wp2_with fail
      generalize hW : (((w0.alloc (.cells #[fv ax, fv ay, fv aa] 37)).alloc (.cells #[fv bx, fv by', fv ba] 37)).alloc (.cells #[fv 0, fv 0, fv 0] 37)) = W0 at HB ⊢
      obtain ⟨xb, hxb⟩ : ∃ xb, w0.heap.size = xb := ⟨_, rfl⟩
      obtain ⟨yb, hyb⟩ : ∃ yb, xb + 1 = yb := ⟨_, rfl⟩
      obtain ⟨rb, hrb⟩ : ∃ rb, yb + 1 = rb := ⟨_, rfl⟩
      have HL : Keep (w0.heap.size ≤ rb) := ⟨by omega⟩
      rw [hxb, hyb, hrb] at HB ⊢
      clear hxb hyb hrb hW
      clear d1 d2
      have lA := HB.out.1.cellv 2 _ rfl
      have lB := HB.out.2.1.cellv 2 _ rfl
      refine (less_c ba aa W0).mono ?_
      rintro e W1 ⟨⟨v, rfl, gd, rfl, hgd⟩, gW1⟩
      rw [hDV] at hgd
      clear lA lB
      have HW1 := Keep.mk gW1
      have Hgd := Keep.mk hgd
      clear gW1 hgd
      go_upto_if 22 with fail
      go_cut [7] (fun sv wx => ∃ g u, u = wx ∧ sv = fv g ∧ Keep (V g = shortV DV) ∧ Keep (W0.grownBy u none))
      case first =>
        cases s1 : gtB DV k180
        · have e1 := gtr_is gd 1127481344 Hgd.out V180 s1
          rw [e1]
          cases s2 : ltB DV kn180
          · have e2 := lss_is gd 3274964992 Hgd.out Vn180 s2
            have hs : Keep (shortV DV = DV) := ⟨by unfold shortV; rw [s1, s2]; rfl⟩
            clear s1 s2
            go_wp2_with fail
            go_meet
            exact ⟨_, _, rfl, rfl, ⟨by rw [hs.out]; exact Hgd.out⟩, HW1⟩
          · have e2 := lss_is gd 3274964992 Hgd.out Vn180 s2
            have hs : Keep (shortV DV = oadd DV k360) := ⟨by unfold shortV; rw [s1, s2]; rfl⟩
            clear s1 s2
            go_wp2_with fail
            refine (plus_c gd 1135869952 W1).mono ?_
            rintro e W2 ⟨⟨v, rfl, g2, rfl, hg2⟩, gW2⟩
            rw [Hgd.out, V360] at hg2
            have Hg2 := Keep.mk hg2
            have HW2 := Keep.mk (HW1.out.trans gW2)
            clear hg2 gW2
            go_wp2_with fail
            go_meet
            exact ⟨_, _, rfl, rfl, ⟨by rw [hs.out]; exact Hg2.out⟩, HW2⟩
        · have e1 := gtr_is gd 1127481344 Hgd.out V180 s1
          rw [e1]
          have hs : Keep (shortV DV = osub DV k360) := ⟨by unfold shortV; rw [s1]; rfl⟩
          clear s1
          go_wp2_with fail
          refine (less_c gd 1135869952 W1).mono ?_
          rintro e W2 ⟨⟨v, rfl, g2, rfl, hg2⟩, gW2⟩
          rw [Hgd.out, V360] at hg2
          have Hg2 := Keep.mk hg2
          have HW2 := Keep.mk (HW1.out.trans gW2)
          clear hg2 gW2
          go_wp2_with fail
          go_meet
          exact ⟨_, _, rfl, rfl, ⟨by rw [hs.out]; exact Hg2.out⟩, HW2⟩
      case rest =>
      clear HW1 Hgd
      obtain ⟨sd, W1, rfl, rfl, Hsd, HW1⟩ := hcut
      go_wp2_with fail
      refine region_R (fun w => W1.grownBy w none) [6] [4, 5] (fun i v => if i = 4 then (fun v => FV v (omul (shortV DV) (V t))) v else if i = 5 then (fun v => FV v (alongV (V aa) (shortV DV) (V t))) v else False) 1 6 (by kernel_rfl) (by rfl) (gr_drew _ _) (fun hHeld => ?_)
      refine wpR_pure (i := 0) (oi := _) (v := ?_) rfl (by kernel_rfl) (by kernel_rfl) (by kernel_rfl) (by kernel_rfl) (by kernel_rfl) (by kernel_rfl) hHeld (Or.inl ⟨by rfl, ?_⟩) ?_
      rotate_left
      · (intro w hSw; go_simp; first | done | (with_reducible rfl))
      simp only [Act.put, List.getElem_toArray, List.getElem_cons_zero, List.setIfInBounds_toArray, List.set_cons_zero, List.set_cons_succ]
      refine wpR_pure (i := 1) (oi := _) (v := ?_) rfl (by kernel_rfl) (by kernel_rfl) (by kernel_rfl) (by kernel_rfl) (by kernel_rfl) (by kernel_rfl) hHeld (Or.inl ⟨by rfl, ?_⟩) ?_
      rotate_left
      · (intro w hSw; have q0 := (HB.out.1.kept (HW1.out.trans hSw) (by simp)).cellv 2 _ rfl; go_simp; first | done | (with_reducible rfl))
      simp only [Act.put, List.getElem_toArray, List.getElem_cons_succ, List.getElem_cons_zero, List.setIfInBounds_toArray, List.set_cons_zero, List.set_cons_succ]
      refine wpR_pure (i := 2) (oi := _) (v := ?_) rfl (by kernel_rfl) (by kernel_rfl) (by kernel_rfl) (by kernel_rfl) (by kernel_rfl) (by kernel_rfl) hHeld (Or.inl ⟨by rfl, ?_⟩) ?_
      rotate_left
      · (intro w hSw; go_simp; first | done | (with_reducible rfl))
      simp only [Act.put, List.getElem_toArray, List.getElem_cons_succ, List.getElem_cons_zero, List.setIfInBounds_toArray, List.set_cons_zero, List.set_cons_succ]
      refine wpR_pure (i := 3) (oi := _) (v := ?_) rfl (by kernel_rfl) (by kernel_rfl) (by kernel_rfl) (by kernel_rfl) (by kernel_rfl) (by kernel_rfl) hHeld (Or.inl ⟨by rfl, ?_⟩) ?_
      rotate_left
      · (intro w hSw; go_simp; first | done | (with_reducible rfl))
      simp only [Act.put, List.getElem_toArray, List.getElem_cons_succ, List.getElem_cons_zero, List.setIfInBounds_toArray, List.set_cons_zero, List.set_cons_succ]
      refine wpR_some (i := 4) (oi := _) rfl (by kernel_rfl) (by kernel_rfl) (by kernel_rfl) (by kernel_rfl) (by kernel_rfl) (by kernel_rfl) hHeld (fun v => FV v (omul (shortV DV) (V t))) rfl ((HDV.out.short w0).mul (IsV.of t) w0).ex ⟨by rfl, ?_⟩ ?_
      · refine .inr ⟨35, #[fv sd, fv t], fun w => ?_, fun w hSw => ?_⟩
        · (go_simp; first | done | (with_reducible rfl))
        refine (times_c _ _ w).mono ?_
        rintro e w' ⟨⟨v, rfl, hv⟩, g⟩
        exact ⟨v, rfl, by rw [Hsd.out] at hv; exact hv, World.grownBy.trans hSw g⟩
      rintro v ⟨gm, rfl, hgm⟩
      simp only [Act.put, List.getElem_toArray, List.getElem_cons_succ, List.getElem_cons_zero, List.setIfInBounds_toArray, List.set_cons_zero, List.set_cons_succ]
      refine wpR_some (i := 5) (oi := _) rfl (by kernel_rfl) (by kernel_rfl) (by kernel_rfl) (by kernel_rfl) (by kernel_rfl) (by kernel_rfl) hHeld (fun v => FV v (alongV (V aa) (shortV DV) (V t))) rfl ((IsV.of aa).along (HDV.out.short w0) (IsV.of t) w0).ex ⟨by rfl, ?_⟩ ?_
      · refine .inr ⟨30, #[fv aa, fv gm], fun w => ?_, fun w hSw => ?_⟩
        · (go_simp; first | done | (with_reducible rfl))
        refine (plus_c _ _ w).mono ?_
        rintro e w' ⟨⟨v, rfl, hv⟩, g⟩
        exact ⟨v, rfl, by rw [hgm] at hv; exact hv, World.grownBy.trans hSw g⟩
      rintro v ⟨gw, rfl, hgw⟩
      simp only [Act.put, List.getElem_toArray, List.getElem_cons_succ, List.getElem_cons_zero, List.setIfInBounds_toArray, List.set_cons_zero, List.set_cons_succ]
      refine wpR_end (by kernel_rfl) (fun w hSw => ?_)
      refine any_one (i := 6) (by kernel_rfl) rfl (fun K hK => ?_)
      go_simp
      refine hK.out _ _ ?_
      clear hK K
      refine any_done (by kernel_rfl) ?_ _
      have HW2 := Keep.mk (HW1.out.trans hSw)
      have Hgw := Keep.mk hgw
      clear hgw hgm hSw HW1 hHeld Hsd
      obtain ⟨AV, hAV⟩ : ∃ d, alongV (V aa) (shortV DV) (V t) = d := ⟨_, rfl⟩
      rw [hAV] at Hgw
      have HAV : Keep (IsV AV) := ⟨hAV ▸ ((IsV.of aa).along (HDV.out.short w0) (IsV.of t) w0)⟩
      rename_i wA
      go_upto_if 36 with fail
      go_cut [8] (fun sv wx => ∃ g u, u = wx ∧ sv = fv g ∧ Keep (V g = (if geB AV k360 then osub AV k360 else AV)) ∧ Keep (W0.grownBy u none))
      case first =>
        cases s1 : geB AV k360
        · have e1 := geq_is gw 1135869952 Hgw.out V360 s1
          rw [e1]
          replace s1 := Keep.mk s1
          go_wp2_with fail
          go_meet
          exact ⟨_, _, rfl, rfl, ⟨by rw [Hgw.out, s1.out]; rfl⟩, HW2⟩
        · have e1 := geq_is gw 1135869952 Hgw.out V360 s1
          rw [e1]
          replace s1 := Keep.mk s1
          go_wp2_with fail
          refine (less_c gw 1135869952 _).mono ?_
          rintro e W3 ⟨⟨v, rfl, g2, rfl, hg2⟩, gW2⟩
          rw [Hgw.out, V360] at hg2
          have Hg2 := Keep.mk hg2
          have HW3 := Keep.mk (HW2.out.trans gW2)
          clear hg2 gW2
          go_wp2_with fail
          go_meet
          exact ⟨_, _, rfl, rfl, ⟨by rw [Hg2.out, s1.out]; rfl⟩, HW3⟩
      case rest =>
      clear HW2 Hgw
      obtain ⟨gy, W2, rfl, rfl, Hgy, HW2⟩ := hcut
      obtain ⟨YV, hYV⟩ : ∃ d, (if geB AV k360 then osub AV k360 else AV) = d := ⟨_, rfl⟩
      rw [hYV] at Hgy
      go_upto_if 40 with fail
      go_cut [8] (fun sv wx => ∃ g u, u = wx ∧ sv = fv g ∧ Keep (V g = turnC YV) ∧ Keep (W0.grownBy u none))
      case first =>
        cases s1 : ltB YV k0
        · have e1 := lss_is gy 0 Hgy.out V0 s1
          rw [e1]
          have hs : Keep (turnC YV = YV) := ⟨by unfold turnC; rw [s1]; rfl⟩
          clear s1
          go_wp2_with fail
          go_meet
          exact ⟨_, _, rfl, rfl, ⟨by rw [hs.out]; exact Hgy.out⟩, HW2⟩
        · have e1 := lss_is gy 0 Hgy.out V0 s1
          rw [e1]
          have hs : Keep (turnC YV = if geB (oadd YV k360) k360 then k0 else oadd YV k360) := ⟨by unfold turnC; rw [s1]; rfl⟩
          clear s1
          go_wp2_with fail
          refine (plus_c gy 1135869952 _).mono ?_
          rintro e W3 ⟨⟨v, rfl, g2, rfl, hg2⟩, gW2⟩
          rw [Hgy.out, V360] at hg2
          have Hg2 := Keep.mk hg2
          have HW3 := Keep.mk (HW2.out.trans gW2)
          clear hg2 gW2
          cases s1 : geB (oadd YV k360) k360
          · have e2 := geq_is g2 1135869952 Hg2.out V360 s1
            replace s1 := Keep.mk s1
            go_wp2_with fail
            go_meet
            exact ⟨_, _, rfl, rfl, ⟨by rw [hs.out, Hg2.out, s1.out]; rfl⟩, HW3⟩
          · have e2 := geq_is g2 1135869952 Hg2.out V360 s1
            replace s1 := Keep.mk s1
            go_wp2_with fail
            go_meet
            exact ⟨_, _, rfl, rfl, ⟨by rw [hs.out, s1.out]; exact V0⟩, HW3⟩
      case rest =>
      clear HW2 Hgy
      obtain ⟨gz, W2, rfl, rfl, Hgz, HW2⟩ := hcut
      go_wp2_with fail
      refine region_R (fun w => W2.grownBy w none) [22] [6, 8, 9, 16, 18, 19] (fun i v => if i = 6 then (fun v => FV v (osub (V bx) (V ax))) v else if i = 8 then (fun v => FV v (omul (osub (V bx) (V ax)) (V t))) v else if i = 9 then (fun v => FV v (alongV (V ax) (osub (V bx) (V ax)) (V t))) v else if i = 16 then (fun v => FV v (osub (V by') (V ay))) v else if i = 18 then (fun v => FV v (omul (osub (V by') (V ay)) (V t))) v else if i = 19 then (fun v => FV v (alongV (V ay) (osub (V by') (V ay)) (V t))) v else False) 1 22 (by kernel_rfl) (by rfl) (gr_drew _ _) (fun hHeld => ?_)
      refine wpR_pure (i := 0) (oi := _) (v := ?_) rfl (by kernel_rfl) (by kernel_rfl) (by kernel_rfl) (by kernel_rfl) (by kernel_rfl) (by kernel_rfl) hHeld (Or.inl ⟨by rfl, ?_⟩) ?_
      rotate_left
      · (intro w hSw; go_simp; first | done | (with_reducible rfl))
      simp only [Act.put, List.getElem_toArray, List.getElem_cons_zero, List.setIfInBounds_toArray, List.set_cons_zero, List.set_cons_succ]
      refine wpR_pure (i := 1) (oi := _) (v := ?_) rfl (by kernel_rfl) (by kernel_rfl) (by kernel_rfl) (by kernel_rfl) (by kernel_rfl) (by kernel_rfl) hHeld (Or.inl ⟨by rfl, ?_⟩) ?_
      rotate_left
      · (intro w hSw; have q0 := (HB.out.1.kept (HW2.out.trans hSw) (by simp)).cellv 0 _ rfl; go_simp; first | done | (with_reducible rfl))
      simp only [Act.put, List.getElem_toArray, List.getElem_cons_succ, List.getElem_cons_zero, List.setIfInBounds_toArray, List.set_cons_zero, List.set_cons_succ]
      refine wpR_pure (i := 2) (oi := _) (v := ?_) rfl (by kernel_rfl) (by kernel_rfl) (by kernel_rfl) (by kernel_rfl) (by kernel_rfl) (by kernel_rfl) hHeld (Or.inl ⟨by rfl, ?_⟩) ?_
      rotate_left
      · (intro w hSw; go_simp; first | done | (with_reducible rfl))
      simp only [Act.put, List.getElem_toArray, List.getElem_cons_succ, List.getElem_cons_zero, List.setIfInBounds_toArray, List.set_cons_zero, List.set_cons_succ]
      refine wpR_pure (i := 3) (oi := _) (v := ?_) rfl (by kernel_rfl) (by kernel_rfl) (by kernel_rfl) (by kernel_rfl) (by kernel_rfl) (by kernel_rfl) hHeld (Or.inl ⟨by rfl, ?_⟩) ?_
      rotate_left
      · (intro w hSw; have q0 := (HB.out.2.1.kept (HW2.out.trans hSw) (by simp)).cellv 0 _ rfl; go_simp; first | done | (with_reducible rfl))
      simp only [Act.put, List.getElem_toArray, List.getElem_cons_succ, List.getElem_cons_zero, List.setIfInBounds_toArray, List.set_cons_zero, List.set_cons_succ]
      refine wpR_pure (i := 4) (oi := _) (v := ?_) rfl (by kernel_rfl) (by kernel_rfl) (by kernel_rfl) (by kernel_rfl) (by kernel_rfl) (by kernel_rfl) hHeld (Or.inl ⟨by rfl, ?_⟩) ?_
      rotate_left
      · (intro w hSw; go_simp; first | done | (with_reducible rfl))
      simp only [Act.put, List.getElem_toArray, List.getElem_cons_succ, List.getElem_cons_zero, List.setIfInBounds_toArray, List.set_cons_zero, List.set_cons_succ]
      refine wpR_pure (i := 5) (oi := _) (v := ?_) rfl (by kernel_rfl) (by kernel_rfl) (by kernel_rfl) (by kernel_rfl) (by kernel_rfl) (by kernel_rfl) hHeld (Or.inl ⟨by rfl, ?_⟩) ?_
      rotate_left
      · (intro w hSw; have q0 := (HB.out.1.kept (HW2.out.trans hSw) (by simp)).cellv 0 _ rfl; go_simp; first | done | (with_reducible rfl))
      simp only [Act.put, List.getElem_toArray, List.getElem_cons_succ, List.getElem_cons_zero, List.setIfInBounds_toArray, List.set_cons_zero, List.set_cons_succ]
      refine wpR_pure (i := 7) (oi := _) (v := ?_) rfl (by kernel_rfl) (by kernel_rfl) (by kernel_rfl) (by kernel_rfl) (by kernel_rfl) (by kernel_rfl) hHeld (Or.inl ⟨by rfl, ?_⟩) ?_
      rotate_left
      · (intro w hSw; go_simp; first | done | (with_reducible rfl))
      simp only [Act.put, List.getElem_toArray, List.getElem_cons_succ, List.getElem_cons_zero, List.setIfInBounds_toArray, List.set_cons_zero, List.set_cons_succ]
      refine wpR_pure (i := 10) (oi := _) (v := ?_) rfl (by kernel_rfl) (by kernel_rfl) (by kernel_rfl) (by kernel_rfl) (by kernel_rfl) (by kernel_rfl) hHeld (Or.inl ⟨by rfl, ?_⟩) ?_
      rotate_left
      · (intro w hSw; go_simp; first | done | (with_reducible rfl))
      simp only [Act.put, List.getElem_toArray, List.getElem_cons_succ, List.getElem_cons_zero, List.setIfInBounds_toArray, List.set_cons_zero, List.set_cons_succ]
      refine wpR_pure (i := 11) (oi := _) (v := ?_) rfl (by kernel_rfl) (by kernel_rfl) (by kernel_rfl) (by kernel_rfl) (by kernel_rfl) (by kernel_rfl) hHeld (Or.inl ⟨by rfl, ?_⟩) ?_
      rotate_left
      · (intro w hSw; have q0 := (HB.out.1.kept (HW2.out.trans hSw) (by simp)).cellv 1 _ rfl; go_simp; first | done | (with_reducible rfl))
      simp only [Act.put, List.getElem_toArray, List.getElem_cons_succ, List.getElem_cons_zero, List.setIfInBounds_toArray, List.set_cons_zero, List.set_cons_succ]
      refine wpR_pure (i := 12) (oi := _) (v := ?_) rfl (by kernel_rfl) (by kernel_rfl) (by kernel_rfl) (by kernel_rfl) (by kernel_rfl) (by kernel_rfl) hHeld (Or.inl ⟨by rfl, ?_⟩) ?_
      rotate_left
      · (intro w hSw; go_simp; first | done | (with_reducible rfl))
      simp only [Act.put, List.getElem_toArray, List.getElem_cons_succ, List.getElem_cons_zero, List.setIfInBounds_toArray, List.set_cons_zero, List.set_cons_succ]
      refine wpR_pure (i := 13) (oi := _) (v := ?_) rfl (by kernel_rfl) (by kernel_rfl) (by kernel_rfl) (by kernel_rfl) (by kernel_rfl) (by kernel_rfl) hHeld (Or.inl ⟨by rfl, ?_⟩) ?_
      rotate_left
      · (intro w hSw; have q0 := (HB.out.2.1.kept (HW2.out.trans hSw) (by simp)).cellv 1 _ rfl; go_simp; first | done | (with_reducible rfl))
      simp only [Act.put, List.getElem_toArray, List.getElem_cons_succ, List.getElem_cons_zero, List.setIfInBounds_toArray, List.set_cons_zero, List.set_cons_succ]
      refine wpR_pure (i := 14) (oi := _) (v := ?_) rfl (by kernel_rfl) (by kernel_rfl) (by kernel_rfl) (by kernel_rfl) (by kernel_rfl) (by kernel_rfl) hHeld (Or.inl ⟨by rfl, ?_⟩) ?_
      rotate_left
      · (intro w hSw; go_simp; first | done | (with_reducible rfl))
      simp only [Act.put, List.getElem_toArray, List.getElem_cons_succ, List.getElem_cons_zero, List.setIfInBounds_toArray, List.set_cons_zero, List.set_cons_succ]
      refine wpR_pure (i := 15) (oi := _) (v := ?_) rfl (by kernel_rfl) (by kernel_rfl) (by kernel_rfl) (by kernel_rfl) (by kernel_rfl) (by kernel_rfl) hHeld (Or.inl ⟨by rfl, ?_⟩) ?_
      rotate_left
      · (intro w hSw; have q0 := (HB.out.1.kept (HW2.out.trans hSw) (by simp)).cellv 1 _ rfl; go_simp; first | done | (with_reducible rfl))
      simp only [Act.put, List.getElem_toArray, List.getElem_cons_succ, List.getElem_cons_zero, List.setIfInBounds_toArray, List.set_cons_zero, List.set_cons_succ]
      refine wpR_pure (i := 17) (oi := _) (v := ?_) rfl (by kernel_rfl) (by kernel_rfl) (by kernel_rfl) (by kernel_rfl) (by kernel_rfl) (by kernel_rfl) hHeld (Or.inl ⟨by rfl, ?_⟩) ?_
      rotate_left
      · (intro w hSw; go_simp; first | done | (with_reducible rfl))
      simp only [Act.put, List.getElem_toArray, List.getElem_cons_succ, List.getElem_cons_zero, List.setIfInBounds_toArray, List.set_cons_zero, List.set_cons_succ]
      refine wpR_pure (i := 20) (oi := _) (v := ?_) rfl (by kernel_rfl) (by kernel_rfl) (by kernel_rfl) (by kernel_rfl) (by kernel_rfl) (by kernel_rfl) hHeld (Or.inl ⟨by rfl, ?_⟩) ?_
      rotate_left
      · (intro w hSw; go_simp; first | done | (with_reducible rfl))
      simp only [Act.put, List.getElem_toArray, List.getElem_cons_succ, List.getElem_cons_zero, List.setIfInBounds_toArray, List.set_cons_zero, List.set_cons_succ]
      refine wpR_some (i := 6) (oi := _) rfl (by kernel_rfl) (by kernel_rfl) (by kernel_rfl) (by kernel_rfl) (by kernel_rfl) (by kernel_rfl) hHeld (fun v => FV v (osub (V bx) (V ax))) rfl ((IsV.of bx).sub (IsV.of ax) w0).ex ⟨by rfl, ?_⟩ ?_
      · refine .inr ⟨34, #[fv bx, fv ax], fun w => ?_, fun w hSw => ?_⟩
        · (go_simp; first | done | (with_reducible rfl))
        refine (less_c _ _ w).mono ?_
        rintro e w' ⟨⟨v, rfl, hv⟩, g⟩
        exact ⟨v, rfl, hv, World.grownBy.trans hSw g⟩
      rintro v ⟨gx, rfl, hgx⟩
      simp only [Act.put, List.getElem_toArray, List.getElem_cons_succ, List.getElem_cons_zero, List.setIfInBounds_toArray, List.set_cons_zero, List.set_cons_succ]
      refine wpR_some (i := 8) (oi := _) rfl (by kernel_rfl) (by kernel_rfl) (by kernel_rfl) (by kernel_rfl) (by kernel_rfl) (by kernel_rfl) hHeld (fun v => FV v (omul (osub (V bx) (V ax)) (V t))) rfl (((IsV.of bx).sub (IsV.of ax) w0).mul (IsV.of t) w0).ex ⟨by rfl, ?_⟩ ?_
      · refine .inr ⟨35, #[fv gx, fv t], fun w => ?_, fun w hSw => ?_⟩
        · (go_simp; first | done | (with_reducible rfl))
        refine (times_c _ _ w).mono ?_
        rintro e w' ⟨⟨v, rfl, hv⟩, g⟩
        exact ⟨v, rfl, by rw [hgx] at hv; exact hv, World.grownBy.trans hSw g⟩
      rintro v ⟨mx, rfl, hmx⟩
      simp only [Act.put, List.getElem_toArray, List.getElem_cons_succ, List.getElem_cons_zero, List.setIfInBounds_toArray, List.set_cons_zero, List.set_cons_succ]
      refine wpR_some (i := 9) (oi := _) rfl (by kernel_rfl) (by kernel_rfl) (by kernel_rfl) (by kernel_rfl) (by kernel_rfl) (by kernel_rfl) hHeld (fun v => FV v (alongV (V ax) (osub (V bx) (V ax)) (V t))) rfl ((IsV.of ax).along ((IsV.of bx).sub (IsV.of ax) w0) (IsV.of t) w0).ex ⟨by rfl, ?_⟩ ?_
      · refine .inr ⟨30, #[fv ax, fv mx], fun w => ?_, fun w hSw => ?_⟩
        · (go_simp; first | done | (with_reducible rfl))
        refine (plus_c _ _ w).mono ?_
        rintro e w' ⟨⟨v, rfl, hv⟩, g⟩
        exact ⟨v, rfl, by rw [hmx] at hv; exact hv, World.grownBy.trans hSw g⟩
      rintro v ⟨kx, rfl, hkx⟩
      simp only [Act.put, List.getElem_toArray, List.getElem_cons_succ, List.getElem_cons_zero, List.setIfInBounds_toArray, List.set_cons_zero, List.set_cons_succ]
      refine wpR_some (i := 16) (oi := _) rfl (by kernel_rfl) (by kernel_rfl) (by kernel_rfl) (by kernel_rfl) (by kernel_rfl) (by kernel_rfl) hHeld (fun v => FV v (osub (V by') (V ay))) rfl ((IsV.of by').sub (IsV.of ay) w0).ex ⟨by rfl, ?_⟩ ?_
      · refine .inr ⟨34, #[fv by', fv ay], fun w => ?_, fun w hSw => ?_⟩
        · (go_simp; first | done | (with_reducible rfl))
        refine (less_c _ _ w).mono ?_
        rintro e w' ⟨⟨v, rfl, hv⟩, g⟩
        exact ⟨v, rfl, hv, World.grownBy.trans hSw g⟩
      rintro v ⟨gy2, rfl, hgy2⟩
      simp only [Act.put, List.getElem_toArray, List.getElem_cons_succ, List.getElem_cons_zero, List.setIfInBounds_toArray, List.set_cons_zero, List.set_cons_succ]
      refine wpR_some (i := 18) (oi := _) rfl (by kernel_rfl) (by kernel_rfl) (by kernel_rfl) (by kernel_rfl) (by kernel_rfl) (by kernel_rfl) hHeld (fun v => FV v (omul (osub (V by') (V ay)) (V t))) rfl (((IsV.of by').sub (IsV.of ay) w0).mul (IsV.of t) w0).ex ⟨by rfl, ?_⟩ ?_
      · refine .inr ⟨35, #[fv gy2, fv t], fun w => ?_, fun w hSw => ?_⟩
        · (go_simp; first | done | (with_reducible rfl))
        refine (times_c _ _ w).mono ?_
        rintro e w' ⟨⟨v, rfl, hv⟩, g⟩
        exact ⟨v, rfl, by rw [hgy2] at hv; exact hv, World.grownBy.trans hSw g⟩
      rintro v ⟨my, rfl, hmy⟩
      simp only [Act.put, List.getElem_toArray, List.getElem_cons_succ, List.getElem_cons_zero, List.setIfInBounds_toArray, List.set_cons_zero, List.set_cons_succ]
      refine wpR_some (i := 19) (oi := _) rfl (by kernel_rfl) (by kernel_rfl) (by kernel_rfl) (by kernel_rfl) (by kernel_rfl) (by kernel_rfl) hHeld (fun v => FV v (alongV (V ay) (osub (V by') (V ay)) (V t))) rfl ((IsV.of ay).along ((IsV.of by').sub (IsV.of ay) w0) (IsV.of t) w0).ex ⟨by rfl, ?_⟩ ?_
      · refine .inr ⟨30, #[fv ay, fv my], fun w => ?_, fun w hSw => ?_⟩
        · (go_simp; first | done | (with_reducible rfl))
        refine (plus_c _ _ w).mono ?_
        rintro e w' ⟨⟨v, rfl, hv⟩, g⟩
        exact ⟨v, rfl, by rw [hmy] at hv; exact hv, World.grownBy.trans hSw g⟩
      rintro v ⟨ky, rfl, hky⟩
      simp only [Act.put, List.getElem_toArray, List.getElem_cons_succ, List.getElem_cons_zero, List.setIfInBounds_toArray, List.set_cons_zero, List.set_cons_succ]
      refine wpR_pure (i := 21) (oi := _) (v := ?_) rfl (by kernel_rfl) (by kernel_rfl) (by kernel_rfl) (by kernel_rfl) (by kernel_rfl) (by kernel_rfl) hHeld (Or.inl ⟨by rfl, ?_⟩) ?_
      rotate_left
      · (intro w hSw; go_simp; first | done | (with_reducible rfl))
      simp only [Act.put, List.getElem_toArray, List.getElem_cons_succ, List.getElem_cons_zero, List.setIfInBounds_toArray, List.set_cons_zero, List.set_cons_succ]
      refine wpR_end (by kernel_rfl) (fun w hSw => ?_)
      refine any_one (i := 22) (by kernel_rfl) rfl (fun K hK => ?_)
      have x0 := ((HB.out.2.2.1.kept (HW2.out.trans hSw) (by simp))).cellv 0 _ rfl
      have y0 := ((HB.out.2.2.1.kept (HW2.out.trans hSw) (by simp))).frozen 0
      have x1 := ((HB.out.2.2.1.kept (HW2.out.trans hSw) (by simp))).cellv 1 _ rfl
      have y1 := ((HB.out.2.2.1.kept (HW2.out.trans hSw) (by simp))).frozen 1
      have x2 := ((HB.out.2.2.1.kept (HW2.out.trans hSw) (by simp))).cellv 2 _ rfl
      have y2 := ((HB.out.2.2.1.kept (HW2.out.trans hSw) (by simp))).frozen 2
      go_simp
      clear x0 y0 x1 y1 x2 y2
      have H0 := ((((HB.out.2.2.1.kept (HW2.out.trans hSw) (by simp))).setCell 0 (fv kx)).setCell 1 (fv ky)).setCell 2 (fv gz)
      have HR := Keep.mk (And.intro H0 (gr_new (HB.out.2.2.2.trans (HW2.out.trans hSw)) ((gr_set w rb 0 (fv kx)).trans ((gr_set _ rb 1 (fv ky)).trans (gr_set _ rb 2 (fv gz)))) HL.out))
      clear H0
      refine hK.out _ _ ?_
      clear hK K
      generalize ((w.setCell ⟨rb, 0, none⟩ (fv kx)).setCell ⟨rb, 1, none⟩ (fv ky)).setCell ⟨rb, 2, none⟩ (fv gz) = W9 at HR ⊢
      refine any_done (by kernel_rfl) ?_ _
      go_wp2_with fail
      obtain ⟨du, hdu, hdr⟩ := row37
      exact ret_c rfl rfl HR.out.1 hdu hdr info37 rfl ⟨_, rfl, ⟨_, _, _, rfl, hkx, hky, by rw [Hgz.out, ← hYV, ← hAV, ← hDV]; rfl⟩, HR.out.2⟩
    · have d2 := geq_is t 1065353216 rfl V1 h2
      have hR : mixV ⟨V ax, V ay, V aa⟩ ⟨V bx, V by', V ba⟩ (V t) = ⟨V bx, V by', V ba⟩ := by unfold mixV; rw [h1, h2]; rfl
      rw [hR]
      clear hR h1 h2
      go_enter Try.func21, Try.ntmps21
      go_wp2_with fail
      obtain ⟨du, hdu, hdr⟩ := row37
      have H0 := boxes3 w0 #[fv ax, fv ay, fv aa] #[fv bx, fv by', fv ba] #[fv bx, fv by', fv ba] 37 37 37
      exact ret_c rfl rfl H0.2.2.1 hdu hdr info37 rfl ⟨_, rfl, ⟨_, _, _, rfl, rfl, rfl, rfl⟩, H0.2.2.2⟩
end Sm
end Go.Proofs.Ytfhhneibdmjfgaa
