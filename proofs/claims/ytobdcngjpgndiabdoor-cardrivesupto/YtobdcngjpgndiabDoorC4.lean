/- car: push, Drive -/
import Derived.Test.YtobdcngjpgndiabDoorC3
namespace Go.Proofs.YtobdcngjpgndiabDoor.Bo
open Go Go.RowKit

theorem sin_in (h : Int) : In (sinZ h) := by have := sin_range h; exact ⟨by omega, by omega⟩
theorem bd_in (a : Int) : -1099511627776 ≤ bd a ∧ bd a ≤ 1099511627776 := by
  rw [bd_eq]; split
  · omega
  · split <;> omega
theorem mulZ_bd (a b : Int) : ∃ n, mulZ a b = bd n := ⟨_, rfl⟩
theorem mulZ_in (a b : Int) : In (mulZ a b) := by
  obtain ⟨n, h⟩ := mulZ_bd a b
  have := bd_in n
  rw [h]
  exact ⟨by omega, by omega⟩
theorem p_in {p : Int} (h : -8192 ≤ p ∧ p ≤ 8192) : In p := ⟨by omega, by omega⟩
set_option maxRecDepth 100000 in
set_option maxHeartbeats 8000000 in
theorem push_c (w0 W : World) (l : List As) (db : Nat) (v : Value) (c : Cr) (i : It) (p : Int) (h : Sep w0 W (boxA db (dcs v c i p) 54 :: l)) (hk : Kc w0) (hp : -8192 ≤ p ∧ p ≤ 8192) (hx : In c.sx) (hy : In c.sy) :
    Calls Tryd.prog 25 #[pt db] W fun e W' => e = .returned (.tuple #[]) ∧ Sep w0 W' (boxA db (dcs v (stP c p) i p) 54 :: l) := by
  have HU := Keep.mk (fun w (g : w0.grownBy w none) => unit_c c.hd w (hk.kept g))
  have HM := Keep.mk (fun w => vscale_c (sinZ (c.hd + 64)) (sinZ c.hd) p (sin_in _) (sin_in _) (p_in hp) w)
  have HA := Keep.mk (fun w => vadd_c c.sx c.sy (mulZ (sinZ (c.hd + 64)) p) (mulZ (sinZ c.hd) p) hx hy (mulZ_in _ _) (mulZ_in _ _) w)
  have HE : Keep (dcs v (stP c p) i p = ((dcs v c i p).set 5 (iv (addZ c.sx (mulZ (sinZ (c.hd + 64)) p)))).set 6 (iv (addZ c.sy (mulZ (sinZ c.hd) p)))) := ⟨rfl⟩
  have HB := Keep.mk h
  clear h hk hx hy
  generalize sinZ (c.hd + 64) = u at *
  generalize sinZ c.hd = z at *
  go_enter Tryd.func25, Tryd.ntmps25
  go_wp2_with fail
  refine region_X (S := fun w' => Sep w0 w' (boxA db (dcs v c i p) 54 :: l)) [21] (by kernel_rfl) (HB.out.grown (gr_drew _ _)) (fun hHeld => ?_)
  replace HB := Keep.mk hHeld
  refine wpAnyX_take (i := 0) (oi := _) (v := ?_) rfl (by kernel_rfl) (by kernel_rfl) (by kernel_rfl) (by kernel_rfl) (by kernel_rfl) (fun _ _ _ h => h) (Or.inl ⟨by rfl, ?_⟩) (by assumption) ?_
  rotate_left
  · (intro w hSw; go_simp; first | done | (with_reducible rfl))
  simp only [Act.put, List.getElem_toArray, List.getElem_cons_zero, List.setIfInBounds_toArray, List.set_cons_zero, List.set_cons_succ]
  refine wpAnyX_take (i := 1) (oi := _) (v := ?_) rfl (by kernel_rfl) (by kernel_rfl) (by kernel_rfl) (by kernel_rfl) (by kernel_rfl) (fun _ _ _ h => h) (Or.inl ⟨by rfl, ?_⟩) (by assumption) ?_
  rotate_left
  · (intro w hSw; go_simp; first | done | (with_reducible rfl))
  simp only [Act.put, List.getElem_toArray, List.getElem_cons_succ, List.getElem_cons_zero, List.setIfInBounds_toArray, List.set_cons_zero, List.set_cons_succ]
  refine wpAnyX_take (i := 2) (oi := _) (v := ?_) rfl (by kernel_rfl) (by kernel_rfl) (by kernel_rfl) (by kernel_rfl) (by kernel_rfl) (fun _ _ _ h => h) (Or.inl ⟨by rfl, ?_⟩) (by assumption) ?_
  rotate_left
  · (intro w hSw; go_simp; first | done | (with_reducible rfl))
  simp only [Act.put, List.getElem_toArray, List.getElem_cons_succ, List.getElem_cons_zero, List.setIfInBounds_toArray, List.set_cons_zero, List.set_cons_succ]
  refine wpAnyX_take (i := 3) (oi := _) (v := ?_) rfl (by kernel_rfl) (by kernel_rfl) (by kernel_rfl) (by kernel_rfl) (by kernel_rfl) (fun _ _ _ h => h) (Or.inl ⟨by rfl, ?_⟩) (by assumption) ?_
  rotate_left
  · (intro w hSw; go_simp; first | done | (with_reducible rfl))
  simp only [Act.put, List.getElem_toArray, List.getElem_cons_succ, List.getElem_cons_zero, List.setIfInBounds_toArray, List.set_cons_zero, List.set_cons_succ]
  refine wpAnyX_take (i := 4) (oi := _) (v := ?_) rfl (by kernel_rfl) (by kernel_rfl) (by kernel_rfl) (by kernel_rfl) (by kernel_rfl) (fun _ _ _ h => h) (Or.inl ⟨by rfl, ?_⟩) (by assumption) ?_
  rotate_left
  · (intro w hSw; go_simp; first | done | (with_reducible rfl))
  simp only [Act.put, List.getElem_toArray, List.getElem_cons_succ, List.getElem_cons_zero, List.setIfInBounds_toArray, List.set_cons_zero, List.set_cons_succ]
  refine wpAnyX_take (i := 5) (oi := _) (v := ?_) rfl (by kernel_rfl) (by kernel_rfl) (by kernel_rfl) (by kernel_rfl) (by kernel_rfl) (fun _ _ _ h => h) (Or.inl ⟨by rfl, ?_⟩) (by assumption) ?_
  rotate_left
  · (intro w hSw; have q5 := (hSw.boxGet k0m).cellv 5 _ rfl; have q6 := (hSw.boxGet k0m).cellv 6 _ rfl; go_simp; first | done | (with_reducible rfl))
  simp only [Act.put, List.getElem_toArray, List.getElem_cons_succ, List.getElem_cons_zero, List.setIfInBounds_toArray, List.set_cons_zero, List.set_cons_succ]
  refine wpAnyX_take (i := 6) (oi := _) (v := ?_) rfl (by kernel_rfl) (by kernel_rfl) (by kernel_rfl) (by kernel_rfl) (by kernel_rfl) (fun _ _ _ h => h) (Or.inl ⟨by rfl, ?_⟩) (by assumption) ?_
  rotate_left
  · (intro w hSw; go_simp; first | done | (with_reducible rfl))
  simp only [Act.put, List.getElem_toArray, List.getElem_cons_succ, List.getElem_cons_zero, List.setIfInBounds_toArray, List.set_cons_zero, List.set_cons_succ]
  refine wpAnyX_take (i := 7) (oi := _) (v := ?_) rfl (by kernel_rfl) (by kernel_rfl) (by kernel_rfl) (by kernel_rfl) (by kernel_rfl) (fun _ _ _ h => h) (Or.inl ⟨by rfl, ?_⟩) (by assumption) ?_
  rotate_left
  · (intro w hSw; go_simp; first | done | (with_reducible rfl))
  simp only [Act.put, List.getElem_toArray, List.getElem_cons_succ, List.getElem_cons_zero, List.setIfInBounds_toArray, List.set_cons_zero, List.set_cons_succ]
  refine wpAnyX_take (i := 8) (oi := _) (v := ?_) rfl (by kernel_rfl) (by kernel_rfl) (by kernel_rfl) (by kernel_rfl) (by kernel_rfl) (fun _ _ _ h => h) (Or.inl ⟨by rfl, ?_⟩) (by assumption) ?_
  rotate_left
  · (intro w hSw; go_simp; first | done | (with_reducible rfl))
  simp only [Act.put, List.getElem_toArray, List.getElem_cons_succ, List.getElem_cons_zero, List.setIfInBounds_toArray, List.set_cons_zero, List.set_cons_succ]
  refine wpAnyX_take (i := 9) (oi := _) (v := ?_) rfl (by kernel_rfl) (by kernel_rfl) (by kernel_rfl) (by kernel_rfl) (by kernel_rfl) (fun _ _ _ h => h) (Or.inl ⟨by rfl, ?_⟩) (by assumption) ?_
  rotate_left
  · (intro w hSw; go_simp; first | done | (with_reducible rfl))
  simp only [Act.put, List.getElem_toArray, List.getElem_cons_succ, List.getElem_cons_zero, List.setIfInBounds_toArray, List.set_cons_zero, List.set_cons_succ]
  refine wpAnyX_take (i := 10) (oi := _) (v := ?_) rfl (by kernel_rfl) (by kernel_rfl) (by kernel_rfl) (by kernel_rfl) (by kernel_rfl) (fun _ _ _ h => h) (Or.inl ⟨by rfl, ?_⟩) (by assumption) ?_
  rotate_left
  · (intro w hSw; have q7 := (hSw.boxGet k0m).cellv 7 _ rfl; go_simp; first | done | (with_reducible rfl))
  simp only [Act.put, List.getElem_toArray, List.getElem_cons_succ, List.getElem_cons_zero, List.setIfInBounds_toArray, List.set_cons_zero, List.set_cons_succ]
  refine wpAnyX_take (i := 12) (oi := _) (v := ?_) rfl (by kernel_rfl) (by kernel_rfl) (by kernel_rfl) (by kernel_rfl) (by kernel_rfl) (fun _ _ _ h => h) (Or.inl ⟨by rfl, ?_⟩) (by assumption) ?_
  rotate_left
  · (intro w hSw; go_simp; first | done | (with_reducible rfl))
  simp only [Act.put, List.getElem_toArray, List.getElem_cons_succ, List.getElem_cons_zero, List.setIfInBounds_toArray, List.set_cons_zero, List.set_cons_succ]
  refine wpAnyX_take (i := 13) (oi := _) (v := ?_) rfl (by kernel_rfl) (by kernel_rfl) (by kernel_rfl) (by kernel_rfl) (by kernel_rfl) (fun _ _ _ h => h) (Or.inl ⟨by rfl, ?_⟩) (by assumption) ?_
  rotate_left
  · (intro w hSw; go_simp; first | done | (with_reducible rfl))
  simp only [Act.put, List.getElem_toArray, List.getElem_cons_succ, List.getElem_cons_zero, List.setIfInBounds_toArray, List.set_cons_zero, List.set_cons_succ]
  refine wpAnyX_take (i := 14) (oi := _) (v := ?_) rfl (by kernel_rfl) (by kernel_rfl) (by kernel_rfl) (by kernel_rfl) (by kernel_rfl) (fun _ _ _ h => h) (Or.inl ⟨by rfl, ?_⟩) (by assumption) ?_
  rotate_left
  · (intro w hSw; go_simp; first | done | (with_reducible rfl))
  simp only [Act.put, List.getElem_toArray, List.getElem_cons_succ, List.getElem_cons_zero, List.setIfInBounds_toArray, List.set_cons_zero, List.set_cons_succ]
  refine wpAnyX_take (i := 15) (oi := _) (v := ?_) rfl (by kernel_rfl) (by kernel_rfl) (by kernel_rfl) (by kernel_rfl) (by kernel_rfl) (fun _ _ _ h => h) (Or.inl ⟨by rfl, ?_⟩) (by assumption) ?_
  rotate_left
  · (intro w hSw; have q20 := (hSw.boxGet k0m).cellv 20 _ rfl; go_simp; first | done | (with_reducible rfl))
  simp only [Act.put, List.getElem_toArray, List.getElem_cons_succ, List.getElem_cons_zero, List.setIfInBounds_toArray, List.set_cons_zero, List.set_cons_succ]
  refine wpAnyX_one (i := 11) (by kernel_rfl) rfl (fun K hK => ?_)
  go_simp
  refine (HU.out _ HB.out.g).mono ?_
  rintro e wg ⟨rfl, hg⟩
  replace HB := Keep.mk (HB.out.grown hg)
  refine hK.out _ _ HB.out (fun hHeld => ?_)
  clear hK K hg
  refine wpAnyX_one (i := 16) (by kernel_rfl) rfl (fun K hK => ?_)
  go_simp
  refine (HM.out _).mono ?_
  rintro e wg ⟨rfl, hg⟩
  replace HB := Keep.mk (HB.out.grown hg)
  refine hK.out _ _ HB.out (fun hHeld => ?_)
  clear hK K hg
  refine wpAnyX_one (i := 17) (by kernel_rfl) rfl (fun K hK => ?_)
  go_simp
  refine (HA.out _).mono ?_
  rintro e wg ⟨rfl, hg⟩
  replace HB := Keep.mk (HB.out.grown hg)
  refine hK.out _ _ HB.out (fun hHeld => ?_)
  clear hK K hg
  refine wpAnyX_one (i := 18) (by kernel_rfl) rfl (fun K hK => ?_)
  go_simp
  refine hK.out _ _ HB.out (fun hHeld => ?_)
  clear hK K
  refine wpAnyX_one (i := 19) (by kernel_rfl) rfl (fun K hK => ?_)
  go_simp
  refine hK.out _ _ HB.out (fun hHeld => ?_)
  clear hK K
  refine wpAnyX_take (i := 20) (oi := _) (v := ?_) rfl (by kernel_rfl) (by kernel_rfl) (by kernel_rfl) (by kernel_rfl) (by kernel_rfl) (fun _ _ _ h => h) (Or.inl ⟨by rfl, ?_⟩) (by assumption) ?_
  rotate_left
  · (intro w hSw; go_simp; first | done | (with_reducible rfl))
  simp only [Act.put, List.getElem_toArray, List.getElem_cons_succ, List.getElem_cons_zero, List.setIfInBounds_toArray, List.set_cons_zero, List.set_cons_succ]
  refine wpAnyX_late (i := 21) (by kernel_rfl) rfl (by kernel_rfl) (fun K hK => ?_)
  have y5 := (HB.out.boxGet k0m).cellv 5 _ rfl
  have f5 := (HB.out.boxGet k0m).frozen 5
  have y6 := (HB.out.boxGet k0m).cellv 6 _ rfl
  have f6 := (HB.out.boxGet k0m).frozen 6
  have S2 := HB.out.boxPut 5 (iv (addZ c.sx (mulZ u p)))
  obtain ⟨w2, hw2⟩ : ∃ w2, wg.setCell ⟨db, 5, none⟩ (iv (addZ c.sx (mulZ u p))) = w2 := ⟨_, rfl⟩
  rw [hw2] at S2
  have z6 : w2.cell? ⟨db, 6, none⟩ = some (iv c.sy) := (S2.boxGet k0m).cellv 6 _ rfl
  have g6 : w2.frozen? ⟨db, 6, none⟩ = false := (S2.boxGet k0m).frozen 6
  have HS := Keep.mk (S2.boxPut 6 (iv (addZ c.sy (mulZ z p))))
  clear S2 HB
  go_simp
  refine hK.out _ _ ?_
  clear hK K
  refine wpAnyX_done (by kernel_rfl) ?_ _
  go_wp2_with fail
  refine end_0 rfl rfl ⟨rfl, ?_⟩
  rw [HE.out]
  exact HS.out
end Go.Proofs.YtobdcngjpgndiabDoor.Bo
