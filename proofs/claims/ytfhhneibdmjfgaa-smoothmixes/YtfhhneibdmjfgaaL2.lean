/- SmoothMixes: its walk -/
import Derived.Test.YtfhhneibdmjfgaaL1
namespace Go.Proofs.Ytfhhneibdmjfgaa
open Go Go.RowKit Ieee Fx
namespace Sm
set_option maxRecDepth 100000
attribute [local go_sem] run_store_fl
theorem mix_ex (ax ay aa bx by' ba t : Nat) (w : World) : ∃ v, PV v (mixV ⟨V ax, V ay, V aa⟩ ⟨V bx, V by', V ba⟩ (V t)) := by
  unfold mixV
  split
  · exact PV.ex (.of _) (.of _) (.of _)
  · split
    · exact PV.ex (.of _) (.of _) (.of _)
    · exact PV.ex ((IsV.of _).along ((IsV.of _).sub (.of _) w) (.of _) w) ((IsV.of _).along ((IsV.of _).sub (.of _) w) (.of _) w) (((IsV.of _).along (((IsV.of _).sub (.of _) w).short w) (.of _) w).turn w)
set_option maxHeartbeats 8000000 in
theorem mixes_c (ax ay aa bx by' ba t : Nat) (w0 : World) : Calls Try.prog 7 #[pv ax ay aa, pv bx by' ba, fv t] w0 fun e w' => e = .returned (.bool true) ∧ w0.grownBy w' none := by
  have HB := Keep.mk (boxes2 w0 #[fv ax, fv ay, fv aa] #[fv bx, fv by', fv ba] 37 37)
  go_enter Try.func7, Try.ntmps7
  go_wp2_with fail
  obtain ⟨xb, hxb⟩ : ∃ xb, w0.heap.size = xb := ⟨_, rfl⟩
  obtain ⟨yb, hyb⟩ : ∃ yb, xb + 1 = yb := ⟨_, rfl⟩
  rw [hxb, hyb] at HB ⊢
  clear hxb hyb
  generalize (w0.alloc (.cells #[fv ax, fv ay, fv aa] 37)).alloc (.cells #[fv bx, fv by', fv ba] 37) = W1 at HB ⊢
  refine (alive_c W1).mono ?_
  rintro e W2 ⟨rfl, g⟩
  replace HB := Keep.mk (And.intro (HB.out.1.kept g (by simp)) (And.intro (HB.out.2.1.kept g (by simp)) (HB.out.2.2.trans g)))
  clear g
  obtain ⟨r1, q1, hr1, _⟩ := sub_run (P := Try.prog) 30 1065353216 t W2
  obtain ⟨W2b, hW2b⟩ : ∃ W, W2.drewN q1 = W := ⟨_, rfl⟩
  have g1 : W2.grownBy W2b none := hW2b ▸ gr_drewN W2 q1 none
  rw [hW2b] at hr1
  clear hW2b
  obtain ⟨r2, q2, hr2, _⟩ := quo_run (P := Try.prog) 30 t 1073741824 W2b
  obtain ⟨W3, hW3⟩ : ∃ W, W2b.drewN q2 = W := ⟨_, rfl⟩
  have g2 : W2b.grownBy W3 none := hW3 ▸ gr_drewN W2b q2 none
  rw [hW3] at hr2
  clear hW3
  replace g1 := g1.trans g2
  clear g2
  replace HB := Keep.mk (And.intro (HB.out.1.kept g1 (by simp)) (And.intro (HB.out.2.1.kept g1 (by simp)) (HB.out.2.2.trans g1)))
  clear g1
  go_wp2_with fail
  clear hr1 hr2
  have HN := Has.newA W3 #[fv t, fv r1, fv r2] 52
  have g := gr_alloc W3 (.cells #[fv t, fv r1, fv r2] 52) none
  obtain ⟨lb, hlb⟩ : ∃ b, W3.heap.size = b := ⟨_, rfl⟩
  replace HB := Keep.mk (And.intro (HB.out.1.kept g (by simp)) (And.intro (HB.out.2.1.kept g (by simp)) (And.intro HN (HB.out.2.2.trans g))))
  rw [hlb] at HB
  try rw [hlb]
  clear hlb HN g
  generalize W3.alloc (.cells #[fv t, fv r1, fv r2] 52) = W4 at HB ⊢
  go_loopw [8] (fun u wr => ∃ i : Nat, i ≤ 3 ∧ u = iv i ∧ Keep (W4.grownBy wr none)) (fun u _ => (3 - intOf u).toNat)
  case atStart => exact ⟨0, by omega, rfl, ⟨World.grownBy.refl _ _⟩⟩
  case round =>
    obtain ⟨i, hi, rfl, HG⟩ := hrel
    by_cases hlt : i < 3
    · obtain ⟨x, hx⟩ : ∃ x, [fv t, fv r1, fv r2][i]? = some (fv x) := by
        match i, hlt with
        | 0, _ => exact ⟨t, rfl⟩
        | 1, _ => exact ⟨r1, rfl⟩
        | 2, _ => exact ⟨r2, rfl⟩
      have hi0 : (0 : Int) ≤ (i : Int) := by omega
      have hi1 : (i : Int) < 3 := by omega
      have hti : ((i : Nat) : Int).toNat = i := by omega
      have hwi : IntKind.i64.wrap ((i : Int) + 1) = ((i + 1 : Nat) : Int) := by rw [wi _ (by omega) (by omega)]; omega
      have HK := HB
      replace HB := Keep.mk (And.intro (HK.out.1.kept HG.out (by simp)) (And.intro (HK.out.2.1.kept HG.out (by simp)) (And.intro (HK.out.2.2.1.kept HG.out (by simp)) (HK.out.2.2.2.trans HG.out))))
      obtain ⟨W0, hW0⟩ : ∃ W0, wr = W0 := ⟨_, rfl⟩
      rw [hW0] at HB HG ⊢
      clear hW0
      go_wp2_with fail
      refine region_R (fun w => W0.grownBy w none) [] [5, 11, 12, 20, 26, 27] (fun i v => if i = 5 then (fun v => PV v (mixV ⟨V ax, V ay, V aa⟩ ⟨V bx, V by', V ba⟩ (V x))) v else if i = 11 then (fun v => PV v (mixV ⟨V ax, V ay, V aa⟩ ⟨V bx, V by', V ba⟩ (V x))) v else if i = 12 then (fun v => v = .bool true) v else if i = 20 then (fun v => PV v (mixV ⟨V bx, V by', V ba⟩ ⟨V ax, V ay, V aa⟩ (V x))) v else if i = 26 then (fun v => PV v (mixV ⟨V bx, V by', V ba⟩ ⟨V ax, V ay, V aa⟩ (V x))) v else if i = 27 then (fun v => v = .bool true) v else False) 0 30 (by kernel_rfl) (by rfl) (gr_drew _ _) (fun hHeld => ?_)
      refine wpR_pure (i := 0) (oi := _) (v := ?_) rfl (by kernel_rfl) (by kernel_rfl) (by kernel_rfl) (by kernel_rfl) (by kernel_rfl) (by kernel_rfl) hHeld (Or.inl ⟨by rfl, ?_⟩) ?_
      rotate_left
      · (intro w hSw; have q0 := (HB.out.1.kept hSw (by simp)).cellv 0 _ rfl; have q1 := (HB.out.1.kept hSw (by simp)).cellv 1 _ rfl; have q2 := (HB.out.1.kept hSw (by simp)).cellv 2 _ rfl; go_simp; first | done | (with_reducible rfl))
      simp only [Act.put, List.getElem_toArray, List.getElem_cons_zero, List.setIfInBounds_toArray, List.set_cons_zero, List.set_cons_succ]
      refine wpR_pure (i := 1) (oi := _) (v := ?_) rfl (by kernel_rfl) (by kernel_rfl) (by kernel_rfl) (by kernel_rfl) (by kernel_rfl) (by kernel_rfl) hHeld (Or.inl ⟨by rfl, ?_⟩) ?_
      rotate_left
      · (intro w hSw; have q0 := (HB.out.2.1.kept hSw (by simp)).cellv 0 _ rfl; have q1 := (HB.out.2.1.kept hSw (by simp)).cellv 1 _ rfl; have q2 := (HB.out.2.1.kept hSw (by simp)).cellv 2 _ rfl; go_simp; first | done | (with_reducible rfl))
      simp only [Act.put, List.getElem_toArray, List.getElem_cons_succ, List.getElem_cons_zero, List.setIfInBounds_toArray, List.set_cons_zero, List.set_cons_succ]
      refine wpR_pure (i := 2) (oi := _) (v := ?_) rfl (by kernel_rfl) (by kernel_rfl) (by kernel_rfl) (by kernel_rfl) (by kernel_rfl) (by kernel_rfl) hHeld (Or.inl ⟨by rfl, ?_⟩) ?_
      rotate_left
      · (intro w hSw; go_simp; first | done | (with_reducible rfl))
      simp only [Act.put, List.getElem_toArray, List.getElem_cons_succ, List.getElem_cons_zero, List.setIfInBounds_toArray, List.set_cons_zero, List.set_cons_succ]
      refine wpR_pure (i := 3) (oi := _) (v := ?_) rfl (by kernel_rfl) (by kernel_rfl) (by kernel_rfl) (by kernel_rfl) (by kernel_rfl) (by kernel_rfl) hHeld (Or.inl ⟨by rfl, ?_⟩) ?_
      rotate_left
      · (intro w hSw; go_simp; first | done | (with_reducible rfl))
      simp only [Act.put, List.getElem_toArray, List.getElem_cons_succ, List.getElem_cons_zero, List.setIfInBounds_toArray, List.set_cons_zero, List.set_cons_succ]
      refine wpR_pure (i := 4) (oi := _) (v := ?_) rfl (by kernel_rfl) (by kernel_rfl) (by kernel_rfl) (by kernel_rfl) (by kernel_rfl) (by kernel_rfl) hHeld (Or.inl ⟨by rfl, ?_⟩) ?_
      rotate_left
      · (intro w hSw; have q0 := (HB.out.2.2.1.kept hSw (by simp)).cellv i _ hx; go_simp; first | done | (with_reducible rfl))
      simp only [Act.put, List.getElem_toArray, List.getElem_cons_succ, List.getElem_cons_zero, List.setIfInBounds_toArray, List.set_cons_zero, List.set_cons_succ]
      refine wpR_pure (i := 6) (oi := _) (v := ?_) rfl (by kernel_rfl) (by kernel_rfl) (by kernel_rfl) (by kernel_rfl) (by kernel_rfl) (by kernel_rfl) hHeld (Or.inl ⟨by rfl, ?_⟩) ?_
      rotate_left
      · (intro w hSw; have q0 := (HB.out.1.kept hSw (by simp)).cellv 0 _ rfl; have q1 := (HB.out.1.kept hSw (by simp)).cellv 1 _ rfl; have q2 := (HB.out.1.kept hSw (by simp)).cellv 2 _ rfl; go_simp; first | done | (with_reducible rfl))
      simp only [Act.put, List.getElem_toArray, List.getElem_cons_succ, List.getElem_cons_zero, List.setIfInBounds_toArray, List.set_cons_zero, List.set_cons_succ]
      refine wpR_pure (i := 7) (oi := _) (v := ?_) rfl (by kernel_rfl) (by kernel_rfl) (by kernel_rfl) (by kernel_rfl) (by kernel_rfl) (by kernel_rfl) hHeld (Or.inl ⟨by rfl, ?_⟩) ?_
      rotate_left
      · (intro w hSw; have q0 := (HB.out.2.1.kept hSw (by simp)).cellv 0 _ rfl; have q1 := (HB.out.2.1.kept hSw (by simp)).cellv 1 _ rfl; have q2 := (HB.out.2.1.kept hSw (by simp)).cellv 2 _ rfl; go_simp; first | done | (with_reducible rfl))
      simp only [Act.put, List.getElem_toArray, List.getElem_cons_succ, List.getElem_cons_zero, List.setIfInBounds_toArray, List.set_cons_zero, List.set_cons_succ]
      refine wpR_pure (i := 8) (oi := _) (v := ?_) rfl (by kernel_rfl) (by kernel_rfl) (by kernel_rfl) (by kernel_rfl) (by kernel_rfl) (by kernel_rfl) hHeld (Or.inl ⟨by rfl, ?_⟩) ?_
      rotate_left
      · (intro w hSw; go_simp; first | done | (with_reducible rfl))
      simp only [Act.put, List.getElem_toArray, List.getElem_cons_succ, List.getElem_cons_zero, List.setIfInBounds_toArray, List.set_cons_zero, List.set_cons_succ]
      refine wpR_pure (i := 9) (oi := _) (v := ?_) rfl (by kernel_rfl) (by kernel_rfl) (by kernel_rfl) (by kernel_rfl) (by kernel_rfl) (by kernel_rfl) hHeld (Or.inl ⟨by rfl, ?_⟩) ?_
      rotate_left
      · (intro w hSw; go_simp; first | done | (with_reducible rfl))
      simp only [Act.put, List.getElem_toArray, List.getElem_cons_succ, List.getElem_cons_zero, List.setIfInBounds_toArray, List.set_cons_zero, List.set_cons_succ]
      refine wpR_pure (i := 10) (oi := _) (v := ?_) rfl (by kernel_rfl) (by kernel_rfl) (by kernel_rfl) (by kernel_rfl) (by kernel_rfl) (by kernel_rfl) hHeld (Or.inl ⟨by rfl, ?_⟩) ?_
      rotate_left
      · (intro w hSw; have q0 := (HB.out.2.2.1.kept hSw (by simp)).cellv i _ hx; go_simp; first | done | (with_reducible rfl))
      simp only [Act.put, List.getElem_toArray, List.getElem_cons_succ, List.getElem_cons_zero, List.setIfInBounds_toArray, List.set_cons_zero, List.set_cons_succ]
      refine wpR_some (i := 5) (oi := _) rfl (by kernel_rfl) (by kernel_rfl) (by kernel_rfl) (by kernel_rfl) (by kernel_rfl) (by kernel_rfl) hHeld (fun v => PV v (mixV ⟨V ax, V ay, V aa⟩ ⟨V bx, V by', V ba⟩ (V x))) rfl (mix_ex ax ay aa bx by' ba x w0) ⟨by rfl, ?_⟩ ?_
      · refine .inr ⟨17, #[pv ax ay aa, pv bx by' ba, fv x], fun w => ?_, fun w hSw => ?_⟩
        · (go_simp; first | done | (with_reducible rfl))
        refine (mix_c _ _ _ _ _ _ _ w).mono ?_
        rintro e w' ⟨v, rfl, hv, g⟩
        exact ⟨v, rfl, hv, World.grownBy.trans hSw g⟩
      intro v1 hv1
      simp only [Act.put, List.getElem_toArray, List.getElem_cons_succ, List.getElem_cons_zero, List.setIfInBounds_toArray, List.set_cons_zero, List.set_cons_succ]
      refine wpR_some (i := 11) (oi := _) rfl (by kernel_rfl) (by kernel_rfl) (by kernel_rfl) (by kernel_rfl) (by kernel_rfl) (by kernel_rfl) hHeld (fun v => PV v (mixV ⟨V ax, V ay, V aa⟩ ⟨V bx, V by', V ba⟩ (V x))) rfl (mix_ex ax ay aa bx by' ba x w0) ⟨by rfl, ?_⟩ ?_
      · refine .inr ⟨21, #[pv ax ay aa, pv bx by' ba, fv x], fun w => ?_, fun w hSw => ?_⟩
        · (go_simp; first | done | (with_reducible rfl))
        refine (rmix_c _ _ _ _ _ _ _ w).mono ?_
        rintro e w' ⟨v, rfl, hv, g⟩
        exact ⟨v, rfl, hv, World.grownBy.trans hSw g⟩
      intro v2 hv2
      simp only [Act.put, List.getElem_toArray, List.getElem_cons_succ, List.getElem_cons_zero, List.setIfInBounds_toArray, List.set_cons_zero, List.set_cons_succ]
      refine wpR_some (i := 12) (oi := _) rfl (by kernel_rfl) (by kernel_rfl) (by kernel_rfl) (by kernel_rfl) (by kernel_rfl) (by kernel_rfl) hHeld (fun v => v = .bool true) rfl ⟨_, rfl⟩ ⟨by rfl, ?_⟩ ?_
      · refine .inr ⟨20, #[v1, v2], fun w => ?_, fun w hSw => ?_⟩
        · (go_simp; first | done | (with_reducible rfl))
        refine (one_c _ _ _ hv1 hv2 w).mono ?_
        rintro e w' ⟨rfl, g⟩
        exact ⟨_, rfl, rfl, World.grownBy.trans hSw g⟩
      rintro v rfl
      simp only [Act.put, List.getElem_toArray, List.getElem_cons_succ, List.getElem_cons_zero, List.setIfInBounds_toArray, List.set_cons_zero, List.set_cons_succ]
      refine wpR_pure (i := 13) (oi := _) (v := ?_) rfl (by kernel_rfl) (by kernel_rfl) (by kernel_rfl) (by kernel_rfl) (by kernel_rfl) (by kernel_rfl) hHeld (Or.inl ⟨by rfl, ?_⟩) ?_
      rotate_left
      · (intro w hSw; go_simp; first | done | (with_reducible rfl))
      simp only [Act.put, List.getElem_toArray, List.getElem_cons_succ, List.getElem_cons_zero, List.setIfInBounds_toArray, List.set_cons_zero, List.set_cons_succ]
      refine wpR_pure (i := 14) (oi := _) (v := ?_) rfl (by kernel_rfl) (by kernel_rfl) (by kernel_rfl) (by kernel_rfl) (by kernel_rfl) (by kernel_rfl) hHeld (Or.inl ⟨by rfl, ?_⟩) ?_
      rotate_left
      · (intro w hSw; go_simp; first | done | (with_reducible rfl))
      simp only [Act.put, List.getElem_toArray, List.getElem_cons_succ, List.getElem_cons_zero, List.setIfInBounds_toArray, List.set_cons_zero, List.set_cons_succ]
      refine wpR_pure (i := 15) (oi := _) (v := ?_) rfl (by kernel_rfl) (by kernel_rfl) (by kernel_rfl) (by kernel_rfl) (by kernel_rfl) (by kernel_rfl) hHeld (Or.inl ⟨by rfl, ?_⟩) ?_
      rotate_left
      · (intro w hSw; have q0 := (HB.out.2.1.kept hSw (by simp)).cellv 0 _ rfl; have q1 := (HB.out.2.1.kept hSw (by simp)).cellv 1 _ rfl; have q2 := (HB.out.2.1.kept hSw (by simp)).cellv 2 _ rfl; go_simp; first | done | (with_reducible rfl))
      simp only [Act.put, List.getElem_toArray, List.getElem_cons_succ, List.getElem_cons_zero, List.setIfInBounds_toArray, List.set_cons_zero, List.set_cons_succ]
      refine wpR_pure (i := 16) (oi := _) (v := ?_) rfl (by kernel_rfl) (by kernel_rfl) (by kernel_rfl) (by kernel_rfl) (by kernel_rfl) (by kernel_rfl) hHeld (Or.inl ⟨by rfl, ?_⟩) ?_
      rotate_left
      · (intro w hSw; have q0 := (HB.out.1.kept hSw (by simp)).cellv 0 _ rfl; have q1 := (HB.out.1.kept hSw (by simp)).cellv 1 _ rfl; have q2 := (HB.out.1.kept hSw (by simp)).cellv 2 _ rfl; go_simp; first | done | (with_reducible rfl))
      simp only [Act.put, List.getElem_toArray, List.getElem_cons_succ, List.getElem_cons_zero, List.setIfInBounds_toArray, List.set_cons_zero, List.set_cons_succ]
      refine wpR_pure (i := 17) (oi := _) (v := ?_) rfl (by kernel_rfl) (by kernel_rfl) (by kernel_rfl) (by kernel_rfl) (by kernel_rfl) (by kernel_rfl) hHeld (Or.inl ⟨by rfl, ?_⟩) ?_
      rotate_left
      · (intro w hSw; go_simp; first | done | (with_reducible rfl))
      simp only [Act.put, List.getElem_toArray, List.getElem_cons_succ, List.getElem_cons_zero, List.setIfInBounds_toArray, List.set_cons_zero, List.set_cons_succ]
      refine wpR_pure (i := 18) (oi := _) (v := ?_) rfl (by kernel_rfl) (by kernel_rfl) (by kernel_rfl) (by kernel_rfl) (by kernel_rfl) (by kernel_rfl) hHeld (Or.inl ⟨by rfl, ?_⟩) ?_
      rotate_left
      · (intro w hSw; go_simp; first | done | (with_reducible rfl))
      simp only [Act.put, List.getElem_toArray, List.getElem_cons_succ, List.getElem_cons_zero, List.setIfInBounds_toArray, List.set_cons_zero, List.set_cons_succ]
      refine wpR_pure (i := 19) (oi := _) (v := ?_) rfl (by kernel_rfl) (by kernel_rfl) (by kernel_rfl) (by kernel_rfl) (by kernel_rfl) (by kernel_rfl) hHeld (Or.inl ⟨by rfl, ?_⟩) ?_
      rotate_left
      · (intro w hSw; have q0 := (HB.out.2.2.1.kept hSw (by simp)).cellv i _ hx; go_simp; first | done | (with_reducible rfl))
      simp only [Act.put, List.getElem_toArray, List.getElem_cons_succ, List.getElem_cons_zero, List.setIfInBounds_toArray, List.set_cons_zero, List.set_cons_succ]
      refine wpR_pure (i := 21) (oi := _) (v := ?_) rfl (by kernel_rfl) (by kernel_rfl) (by kernel_rfl) (by kernel_rfl) (by kernel_rfl) (by kernel_rfl) hHeld (Or.inl ⟨by rfl, ?_⟩) ?_
      rotate_left
      · (intro w hSw; have q0 := (HB.out.2.1.kept hSw (by simp)).cellv 0 _ rfl; have q1 := (HB.out.2.1.kept hSw (by simp)).cellv 1 _ rfl; have q2 := (HB.out.2.1.kept hSw (by simp)).cellv 2 _ rfl; go_simp; first | done | (with_reducible rfl))
      simp only [Act.put, List.getElem_toArray, List.getElem_cons_succ, List.getElem_cons_zero, List.setIfInBounds_toArray, List.set_cons_zero, List.set_cons_succ]
      refine wpR_pure (i := 22) (oi := _) (v := ?_) rfl (by kernel_rfl) (by kernel_rfl) (by kernel_rfl) (by kernel_rfl) (by kernel_rfl) (by kernel_rfl) hHeld (Or.inl ⟨by rfl, ?_⟩) ?_
      rotate_left
      · (intro w hSw; have q0 := (HB.out.1.kept hSw (by simp)).cellv 0 _ rfl; have q1 := (HB.out.1.kept hSw (by simp)).cellv 1 _ rfl; have q2 := (HB.out.1.kept hSw (by simp)).cellv 2 _ rfl; go_simp; first | done | (with_reducible rfl))
      simp only [Act.put, List.getElem_toArray, List.getElem_cons_succ, List.getElem_cons_zero, List.setIfInBounds_toArray, List.set_cons_zero, List.set_cons_succ]
      refine wpR_pure (i := 23) (oi := _) (v := ?_) rfl (by kernel_rfl) (by kernel_rfl) (by kernel_rfl) (by kernel_rfl) (by kernel_rfl) (by kernel_rfl) hHeld (Or.inl ⟨by rfl, ?_⟩) ?_
      rotate_left
      · (intro w hSw; go_simp; first | done | (with_reducible rfl))
      simp only [Act.put, List.getElem_toArray, List.getElem_cons_succ, List.getElem_cons_zero, List.setIfInBounds_toArray, List.set_cons_zero, List.set_cons_succ]
      refine wpR_pure (i := 24) (oi := _) (v := ?_) rfl (by kernel_rfl) (by kernel_rfl) (by kernel_rfl) (by kernel_rfl) (by kernel_rfl) (by kernel_rfl) hHeld (Or.inl ⟨by rfl, ?_⟩) ?_
      rotate_left
      · (intro w hSw; go_simp; first | done | (with_reducible rfl))
      simp only [Act.put, List.getElem_toArray, List.getElem_cons_succ, List.getElem_cons_zero, List.setIfInBounds_toArray, List.set_cons_zero, List.set_cons_succ]
      refine wpR_pure (i := 25) (oi := _) (v := ?_) rfl (by kernel_rfl) (by kernel_rfl) (by kernel_rfl) (by kernel_rfl) (by kernel_rfl) (by kernel_rfl) hHeld (Or.inl ⟨by rfl, ?_⟩) ?_
      rotate_left
      · (intro w hSw; have q0 := (HB.out.2.2.1.kept hSw (by simp)).cellv i _ hx; go_simp; first | done | (with_reducible rfl))
      simp only [Act.put, List.getElem_toArray, List.getElem_cons_succ, List.getElem_cons_zero, List.setIfInBounds_toArray, List.set_cons_zero, List.set_cons_succ]
      refine wpR_some (i := 20) (oi := _) rfl (by kernel_rfl) (by kernel_rfl) (by kernel_rfl) (by kernel_rfl) (by kernel_rfl) (by kernel_rfl) hHeld (fun v => PV v (mixV ⟨V bx, V by', V ba⟩ ⟨V ax, V ay, V aa⟩ (V x))) rfl (mix_ex bx by' ba ax ay aa x w0) ⟨by rfl, ?_⟩ ?_
      · refine .inr ⟨17, #[pv bx by' ba, pv ax ay aa, fv x], fun w => ?_, fun w hSw => ?_⟩
        · (go_simp; first | done | (with_reducible rfl))
        refine (mix_c _ _ _ _ _ _ _ w).mono ?_
        rintro e w' ⟨v, rfl, hv, g⟩
        exact ⟨v, rfl, hv, World.grownBy.trans hSw g⟩
      intro v3 hv3
      simp only [Act.put, List.getElem_toArray, List.getElem_cons_succ, List.getElem_cons_zero, List.setIfInBounds_toArray, List.set_cons_zero, List.set_cons_succ]
      refine wpR_some (i := 26) (oi := _) rfl (by kernel_rfl) (by kernel_rfl) (by kernel_rfl) (by kernel_rfl) (by kernel_rfl) (by kernel_rfl) hHeld (fun v => PV v (mixV ⟨V bx, V by', V ba⟩ ⟨V ax, V ay, V aa⟩ (V x))) rfl (mix_ex bx by' ba ax ay aa x w0) ⟨by rfl, ?_⟩ ?_
      · refine .inr ⟨21, #[pv bx by' ba, pv ax ay aa, fv x], fun w => ?_, fun w hSw => ?_⟩
        · (go_simp; first | done | (with_reducible rfl))
        refine (rmix_c _ _ _ _ _ _ _ w).mono ?_
        rintro e w' ⟨v, rfl, hv, g⟩
        exact ⟨v, rfl, hv, World.grownBy.trans hSw g⟩
      intro v4 hv4
      simp only [Act.put, List.getElem_toArray, List.getElem_cons_succ, List.getElem_cons_zero, List.setIfInBounds_toArray, List.set_cons_zero, List.set_cons_succ]
      refine wpR_some (i := 27) (oi := _) rfl (by kernel_rfl) (by kernel_rfl) (by kernel_rfl) (by kernel_rfl) (by kernel_rfl) (by kernel_rfl) hHeld (fun v => v = .bool true) rfl ⟨_, rfl⟩ ⟨by rfl, ?_⟩ ?_
      · refine .inr ⟨20, #[v3, v4], fun w => ?_, fun w hSw => ?_⟩
        · (go_simp; first | done | (with_reducible rfl))
        refine (one_c _ _ _ hv3 hv4 w).mono ?_
        rintro e w' ⟨rfl, g⟩
        exact ⟨_, rfl, rfl, World.grownBy.trans hSw g⟩
      rintro v rfl
      simp only [Act.put, List.getElem_toArray, List.getElem_cons_succ, List.getElem_cons_zero, List.setIfInBounds_toArray, List.set_cons_zero, List.set_cons_succ]
      refine wpR_pure (i := 28) (oi := _) (v := ?_) rfl (by kernel_rfl) (by kernel_rfl) (by kernel_rfl) (by kernel_rfl) (by kernel_rfl) (by kernel_rfl) hHeld (Or.inl ⟨by rfl, ?_⟩) ?_
      rotate_left
      · (intro w hSw; go_simp; first | done | (with_reducible rfl))
      simp only [Act.put, List.getElem_toArray, List.getElem_cons_succ, List.getElem_cons_zero, List.setIfInBounds_toArray, List.set_cons_zero, List.set_cons_succ]
      refine wpR_pure (i := 29) (oi := _) (v := ?_) rfl (by kernel_rfl) (by kernel_rfl) (by kernel_rfl) (by kernel_rfl) (by kernel_rfl) (by kernel_rfl) hHeld (Or.inl ⟨by rfl, ?_⟩) ?_
      rotate_left
      · (intro w hSw; go_simp; first | done | (with_reducible rfl))
      simp only [Act.put, List.getElem_toArray, List.getElem_cons_succ, List.getElem_cons_zero, List.setIfInBounds_toArray, List.set_cons_zero, List.set_cons_succ]
      refine wpR_end (by kernel_rfl) (fun w hSw => ?_)
      refine any_done (by kernel_rfl) ?_ _
      have HG2 := Keep.mk (HG.out.trans hSw)
      clear hSw HG hHeld
      go_wp2_with fail
      go_roundw
      case rel => exact ⟨i + 1, by omega, rfl, HG2⟩
      case measure => simp [intOf]; omega
    · have hi1 : ¬ (i : Int) < 3 := by omega
      go_wp2_with fail
      refine (alive_c wr).mono ?_
      rintro e w9 ⟨rfl, g⟩
      go_wp2_with fail
      go_ret
      exact ⟨rfl, HB.out.2.2.2.trans (HG.out.trans g)⟩
end Sm
end Go.Proofs.Ytfhhneibdmjfgaa
