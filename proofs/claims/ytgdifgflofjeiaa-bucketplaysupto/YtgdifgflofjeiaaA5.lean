/- the laws' full -/
import Derived.Test.YtgdifgflofjeiaaA4
namespace Go.Proofs.Ytgdifgflofjeiaa
open Go Go.RowKit
set_option maxHeartbeats 8000000 in
theorem lfull_c (x y : Int) (w : World) :
    Calls Try.prog 7 #[.int .i64 x, .int .i64 y] w fun e w' => ∃ r u, okay r u ∧ e = .returned (.tuple #[bv r u (16 * u), .int .i64 r, .int .i64 u, .bool true]) ∧ w.grownBy w' none := by
  obtain ⟨d, hdu, hdr⟩ := under24
  go_enter Try.func7, Try.ntmps7
  go_wp2_with fail
  have HZ : Keep (Has (w.alloc (.cells #[.int .i64 0, .int .i64 0, .int .i64 0] 24)) w.heap.size (bks 0 0 0) 24 ∧ w.grownBy (w.alloc (.cells #[.int .i64 0, .int .i64 0, .int .i64 0] 24)) none) := ⟨Has.new w (bks 0 0 0) 24, World.grownBy_alloc _ _ _⟩
  generalize w.alloc _ = w1 at *
  refine (brought_c x 0 1000 _ (by omega) (by omega) (by omega)).mono ?_
  rintro e w2 ⟨⟨r, rfl, r0, r1⟩, rfl⟩
  go_wp2_with fail
  refine (brought_c y 1 1000 _ (by omega) (by omega) (by omega)).mono ?_
  rintro e w2 ⟨⟨u, rfl, u0, u1⟩, rfl⟩
  have hk : okay r u := ⟨r0, r1, u0, u1⟩
  clear r0 r1 u0 u1
  go_wp2_with fail
  refine (new_yes r u _ hk).mono ?_
  rintro e w3 ⟨rfl, g3⟩
  have HY : Keep (Has w3 w.heap.size (bks 0 0 0) 24 ∧ w.grownBy w3 none) := ⟨HZ.out.1.kept g3 (by simp), HZ.out.2.trans g3⟩
  clear g3 HZ
  go_wp2_with fail
  have HM : Keep (MB w (w3.alloc (.cells #[.int .i64 r, .int .i64 u, .int .i64 (16 * u)] 24)) w3.heap.size r u (16 * u)) := ⟨MB.full HY.out.2 hk⟩
  have HX : Keep (Has (w3.alloc (.cells #[.int .i64 r, .int .i64 u, .int .i64 (16 * u)] 24)) w.heap.size (bks 0 0 0) 24) := ⟨HY.out.1.alloc _⟩
  have HN : Keep (w.heap.size ≠ w3.heap.size) := ⟨by have := HY.out.1.lt; omega⟩
  clear HY
  generalize w3.alloc _ = w4 at *
  generalize w3.heap.size = kc at *
  have HH : Keep (MB w w4.drew kc r u (16 * u) ∧ (∃ a b c, Has w4.drew w.heap.size [a, b, c] 24)) := ⟨HM.out.kept (gr_drew _ _), _, _, _, HX.out⟩
  obtain ⟨U, hU⟩ : ∃ U, 16 * u = U := ⟨_, rfl⟩
  have HU : Keep (U / 16 = u) := ⟨by omega⟩
  rw [hU] at HM HH
  rw [hU]
  refine wp_region_held_drew (S := fun w' => MB w w' kc r u U ∧ (∃ a b c, Has w' w.heap.size [a, b, c] 24)) (by kernel_rfl) HH.out (fun hHeld => ?_)
  refine wpAnyH_take (i := 0) (oi := _) (v := ?_) rfl (by kernel_rfl) (by kernel_rfl) (by kernel_rfl) (fun _ _ _ h => h) (Or.inl ⟨by rfl, ?_⟩) (by assumption) ?_
  rotate_left
  · (intro w hSw; have x0 := hSw.1.b.has.cellv 0 _ rfl; have x1 := hSw.1.b.has.cellv 1 _ rfl; have x2 := hSw.1.b.has.cellv 2 _ rfl; clear hSw; go_simp; first | done | (with_reducible rfl))
  simp only [Act.put, List.getElem_toArray, List.getElem_cons_zero, List.setIfInBounds_toArray, List.set_cons_zero, List.set_cons_succ]
  refine wpAnyH_take (i := 1) (oi := _) (v := ?_) rfl (by kernel_rfl) (by kernel_rfl) (by kernel_rfl) (fun _ _ _ h => h) (Or.inl ⟨by rfl, ?_⟩) (by assumption) ?_
  rotate_left
  · (intro w hSw; go_simp; first | done | (with_reducible rfl))
  simp only [Act.put, List.getElem_toArray, List.getElem_cons_succ, List.getElem_cons_zero, List.setIfInBounds_toArray, List.set_cons_zero, List.set_cons_succ]
  refine wpAnyH_take (i := 2) (oi := _) (v := ?_) rfl (by kernel_rfl) (by kernel_rfl) (by kernel_rfl) (fun _ _ _ h => h) (Or.inl ⟨by rfl, ?_⟩) (by assumption) ?_
  rotate_left
  · (intro w hSw; go_simp; first | done | (with_reducible rfl))
  simp only [Act.put, List.getElem_toArray, List.getElem_cons_succ, List.getElem_cons_zero, List.setIfInBounds_toArray, List.set_cons_zero, List.set_cons_succ]
  refine wpAnyH_take (i := 3) (oi := _) (v := ?_) rfl (by kernel_rfl) (by kernel_rfl) (by kernel_rfl) (fun _ _ _ h => h) (Or.inl ⟨by rfl, ?_⟩) (by assumption) ?_
  rotate_left
  · (intro w hSw; go_simp; first | done | (with_reducible rfl))
  simp only [Act.put, List.getElem_toArray, List.getElem_cons_succ, List.getElem_cons_zero, List.setIfInBounds_toArray, List.set_cons_zero, List.set_cons_succ]
  refine wpAnyH_take (i := 4) (oi := _) (v := ?_) rfl (by kernel_rfl) (by kernel_rfl) (by kernel_rfl) (fun _ _ _ h => h) (Or.inl ⟨by rfl, ?_⟩) (by assumption) ?_
  rotate_left
  · (intro w hSw; go_simp; first | done | (with_reducible rfl))
  simp only [Act.put, List.getElem_toArray, List.getElem_cons_succ, List.getElem_cons_zero, List.setIfInBounds_toArray, List.set_cons_zero, List.set_cons_succ]
  refine wpAnyH_take (i := 5) (oi := _) (v := ?_) rfl (by kernel_rfl) (by kernel_rfl) (by kernel_rfl) (fun _ _ _ h => h) (Or.inl ⟨by rfl, ?_⟩) (by assumption) ?_
  rotate_left
  · (intro w hSw; go_simp; first | done | (with_reducible rfl))
  simp only [Act.put, List.getElem_toArray, List.getElem_cons_succ, List.getElem_cons_zero, List.setIfInBounds_toArray, List.set_cons_zero, List.set_cons_succ]
  refine wpAnyH_take (i := 7) (oi := _) (v := ?_) rfl (by kernel_rfl) (by kernel_rfl) (by kernel_rfl) (fun _ _ _ h => h) (Or.inl ⟨by rfl, ?_⟩) (by assumption) ?_
  rotate_left
  · (intro w hSw; go_simp; first | done | (with_reducible rfl))
  simp only [Act.put, List.getElem_toArray, List.getElem_cons_succ, List.getElem_cons_zero, List.setIfInBounds_toArray, List.set_cons_zero, List.set_cons_succ]
  refine wpAnyH_ready (rs := [6]) (by kernel_rfl) (by simp) ?_
  refine AllReadyH.cons rfl (fun K hK => ?_) AllReadyH.nil
  go_simp
  have c := my_left HH.out.1
  rw [HU.out] at c
  refine c.mono ?_
  rintro e w5 ⟨rfl, rfl⟩
  clear c
  refine hK.out _ _ HH.out (fun hHeld => ?_)
  clear hK K
  refine wpAnyH_take (i := 8) (oi := _) (v := ?_) rfl (by kernel_rfl) (by kernel_rfl) (by kernel_rfl) (fun _ _ _ h => h) (Or.inl ⟨by rfl, ?_⟩) (by assumption) ?_
  rotate_left
  · (intro w hSw; go_simp; first | done | (with_reducible rfl))
  simp only [Act.put, List.getElem_toArray, List.getElem_cons_succ, List.getElem_cons_zero, List.setIfInBounds_toArray, List.set_cons_zero, List.set_cons_succ]
  refine wpAnyH_take (i := 9) (oi := _) (v := ?_) rfl (by kernel_rfl) (by kernel_rfl) (by kernel_rfl) (fun _ _ _ h => h) (Or.inl ⟨by rfl, ?_⟩) (by assumption) ?_
  rotate_left
  · (intro w hSw; go_simp; first | done | (with_reducible rfl))
  simp only [Act.put, List.getElem_toArray, List.getElem_cons_succ, List.getElem_cons_zero, List.setIfInBounds_toArray, List.set_cons_zero, List.set_cons_succ]
  refine wpAnyH_take (i := 10) (oi := _) (v := ?_) rfl (by kernel_rfl) (by kernel_rfl) (by kernel_rfl) (fun _ _ _ h => h) (Or.inl ⟨by rfl, ?_⟩) (by assumption) ?_
  rotate_left
  · (intro w hSw; go_simp; first | done | (with_reducible rfl))
  simp only [Act.put, List.getElem_toArray, List.getElem_cons_succ, List.getElem_cons_zero, List.setIfInBounds_toArray, List.set_cons_zero, List.set_cons_succ]
  refine wpAnyH_ready (rs := [11]) (by kernel_rfl) (by simp) ?_
  refine AllReadyH.cons rfl (fun K hK => ?_) AllReadyH.nil
  go_simp
  refine (fixed_c _).mono ?_
  rintro e w5 ⟨rfl, g5⟩
  have HS : Keep (MB w w5 kc r u U ∧ Has w5 w.heap.size (bks 0 0 0) 24) := ⟨(HM.out.kept (gr_drew _ _)).kept g5, (HX.out.kept (gr_drew _ none) (by simp)).kept g5 (by simp)⟩
  clear g5
  refine hK.out _ _ ⟨HS.out.1, _, _, _, HS.out.2⟩ (fun hHeld => ?_)
  clear hK K
  refine wpAnyH_take (i := 12) (oi := _) (v := ?_) rfl (by kernel_rfl) (by kernel_rfl) (by kernel_rfl) (fun _ _ _ h => h) (Or.inl ⟨by rfl, ?_⟩) (by assumption) ?_
  rotate_left
  · (intro w hSw; go_simp; first | done | (with_reducible rfl))
  simp only [Act.put, List.getElem_toArray, List.getElem_cons_succ, List.getElem_cons_zero, List.setIfInBounds_toArray, List.set_cons_zero, List.set_cons_succ]
  have z0 := HS.out.2.frozen 0
  have z1 := HS.out.2.frozen 1
  have z2 := HS.out.2.frozen 2
  have q0 := HS.out.2.cellv 0 _ rfl
  have q1 := HS.out.2.cellv 1 _ rfl
  have q2 := HS.out.2.cellv 2 _ rfl
  refine wpAnyH_ready (rs := [13]) (by kernel_rfl) (by simp) ?_
  refine AllReadyH.cons rfl (fun K hK => ?_) AllReadyH.nil
  go_simp
  go_wp2_with fail
  have HF : Keep (Has (((w5.setCell ⟨w.heap.size, 0, none⟩ (.int .i64 r)).setCell ⟨w.heap.size, 1, none⟩ (.int .i64 u)).setCell ⟨w.heap.size, 2, none⟩ (.int .i64 U)) w.heap.size (bks r u U) 24) := ⟨((HS.out.2.setCell 0 _).setCell 1 _).setCell 2 _⟩
  have HF2 : Keep (MB w (((w5.setCell ⟨w.heap.size, 0, none⟩ (.int .i64 r)).setCell ⟨w.heap.size, 1, none⟩ (.int .i64 u)).setCell ⟨w.heap.size, 2, none⟩ (.int .i64 U)) kc r u U) := ⟨((HS.out.1.other (gr_set _ _ _ _) (Nat.le_refl _) (Ne.symm HN.out)).other (gr_set _ _ _ _) (Nat.le_refl _) (Ne.symm HN.out)).other (gr_set _ _ _ _) (Nat.le_refl _) (Ne.symm HN.out)⟩
  refine hK.out _ _ ⟨HF2.out, _, _, _, HF.out⟩ (fun hHeld => ?_)
  clear hK K
  refine wpAnyH_take (i := 14) (oi := _) (v := ?_) rfl (by kernel_rfl) (by kernel_rfl) (by kernel_rfl) (fun _ _ _ h => h) (Or.inl ⟨by rfl, ?_⟩) (by assumption) ?_
  rotate_left
  · (intro w hSw; go_simp; first | done | (with_reducible rfl))
  simp only [Act.put, List.getElem_toArray, List.getElem_cons_succ, List.getElem_cons_zero, List.setIfInBounds_toArray, List.set_cons_zero, List.set_cons_succ]
  refine wpAnyH_take (i := 15) (oi := _) (v := ?_) rfl (by kernel_rfl) (by kernel_rfl) (by kernel_rfl) (fun _ _ _ h => h) (Or.inl ⟨by rfl, ?_⟩) (by assumption) ?_
  rotate_left
  · (intro w hSw; go_simp; first | done | (with_reducible rfl))
  simp only [Act.put, List.getElem_toArray, List.getElem_cons_succ, List.getElem_cons_zero, List.setIfInBounds_toArray, List.set_cons_zero, List.set_cons_succ]
  refine wpAnyH_take (i := 16) (oi := _) (v := ?_) rfl (by kernel_rfl) (by kernel_rfl) (by kernel_rfl) (fun _ _ _ h => h) (Or.inl ⟨by rfl, ?_⟩) (by assumption) ?_
  rotate_left
  · (intro w hSw; go_simp; first | done | (with_reducible rfl))
  simp only [Act.put, List.getElem_toArray, List.getElem_cons_succ, List.getElem_cons_zero, List.setIfInBounds_toArray, List.set_cons_zero, List.set_cons_succ]
  refine wpAnyH_done (by kernel_rfl) ?_ _
  go_wp2_with fail
  exact ret_cttt rfl rfl HF.out hdu hdr info24 rfl ⟨r, u, hk, by rw [hU]; rfl, HF2.out.g⟩
end Go.Proofs.Ytgdifgflofjeiaa
