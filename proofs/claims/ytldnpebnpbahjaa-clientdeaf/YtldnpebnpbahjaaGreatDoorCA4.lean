import Derived.Test.YtldnpebnpbahjaaGreatDoorCA1
/- what a session seals -/
namespace Go.Proofs.YtldnpebnpbahjaaGreatDoor.Pk.Sn
open Go Go.RowKit

theorem cell_ne {w : World} {b c i j : Nat} {v x : Value} (h : w.cell? ⟨b, i, none⟩ = some v) (hn : c ≠ b) : (w.setCell ⟨c, j, none⟩ x).cell? ⟨b, i, none⟩ = some v := by
  rw [World.cell?_setCell_other _ _ _ _ (by first | (simp; done) | (simp; omega))]; exact h
theorem slX_0 {C : Cl} {d : Dg} (h : C.num = 0) : slX C d = (nob, 240) := by unfold slX; rw [if_pos h]
theorem slX_1 {C : Cl} {d : Dg} (h : ¬ C.num = 0) (h2 : (sealD (sesD C d) C.key).2 = 0) : slX C d = ((sealD (sesD C d) C.key).1, 0) := by unfold slX; rw [if_neg h, if_pos h2]
theorem slX_2 {C : Cl} {d : Dg} (h : ¬ C.num = 0) (h2 : ¬ (sealD (sesD C d) C.key).2 = 0) : slX C d = (nob, (sealD (sesD C d) C.key).2) := by unfold slX; rw [if_neg h, if_neg h2]
theorem wrap1 {n : Nat} (h : n < 18446744073709551615) : IntKind.u64.wrap ((n : Int) + 1) = ((n + 1 : Nat) : Int) := by
  have : IntKind.u64.wrap ((n : Int) + 1) = ((n : Int) + 1) % 18446744073709551616 := rfl
  rw [this]; omega
set_option maxHeartbeats 8000000 in
set_option maxRecDepth 100000 in
theorem slc_c (cb : Nat) (C : Cl) (d : Dg) (w : World) (hk : Kc w) (hh : Has w cb C.cs 83) (hf : d.fine) (hs : d.small) (hn : C.num < 18446744073709551616) (hsd : C.sd < 18446744073709551615) (hkey : C.key.size ≤ 32) :
    Calls Tryz.prog 34 #[pa cb 4, dv d] w fun e w' => e = .returned (.tuple #[.string (slX C d).1, iv (slX C d).2]) ∧ Has w' cb (slS C d).cs 83 ∧ w.grownBy w' (some cb) := by
  obtain ⟨du, hdu, hdr⟩ := under26
  have hcb := hh.lt
  obtain ⟨Y, hY⟩ : ∃ q, slX C d = q := ⟨_, rfl⟩
  obtain ⟨Z, hZ⟩ : ∃ q, slS C d = q := ⟨_, rfl⟩
  have HY := Keep.mk (And.intro hY hZ)
  rw [hY, hZ]
  clear hY hZ
  obtain ⟨w0, hw0⟩ : ∃ q, w.alloc (.cells d.cells.toArray 34) = q := ⟨_, rfl⟩
  obtain ⟨h0, g0, s0⟩ := hasN hw0
  have HNE : Keep (w.heap.size ≠ cb) := ⟨by omega⟩
  have H0 : Keep (Has w0.drew w.heap.size d.cells 34 ∧ Has w0.drew cb C.cs 83 ∧ w.grownBy w0.drew none) := ⟨h0.kept (gr_drew _ none) (by simp), (hh.kept g0 (by simp)).kept (gr_drew _ none) (by simp), g0.trans (gr_drew _ none)⟩
  have HK := Keep.mk (And.intro hk (And.intro hkey hsd))
  have HSL0 : Keep (∀ w2 : World, Kc w2 → Calls Tryz.prog 18 #[.agg (sesD C d).cells.toArray, .string C.key] w2 fun e w' => e = .returned (.tuple #[.string (sealD (sesD C d) C.key).1, .int .i64 (sealD (sesD C d) C.key).2]) ∧ w2.grownBy w' none) := ⟨fun w2 hk2 => seal_c (sesD C d) C.key ⟨hf.k, hf.e, hn, hf.p, by show C.sd + 1 < 18446744073709551616; omega, hf.h, hf.t⟩ ⟨hs.1, hs.2, hs.3, hs.4, hs.5, hs.6⟩ w2 hk2 (by omega)⟩
  have c4 : w0.cell? ⟨cb, 4, none⟩ = some (uv C.num) := (hh.kept g0 (by simp)).cellv 4 _ rfl
  have HLV := Keep.mk (lives_c cb C.num w0 c4)
  have HW : Keep (Has w0 cb C.cs 83 ∧ w.grownBy w0 none) := ⟨hh.kept g0 (by simp), g0⟩
  obtain ⟨s1, hs1⟩ : ∃ s1 : Nat, C.sd + 1 = s1 := ⟨_, rfl⟩
  have hwr : IntKind.u64.wrap ((C.sd : Int) + 1) = (s1 : Int) := by rw [← hs1]; exact wrap1 hsd
  have HS1 := Keep.mk hs1
  obtain ⟨X, hX⟩ : ∃ q, sealD (sesD C d) C.key = q := ⟨_, rfl⟩
  have HX := Keep.mk hX
  rw [hX] at HSL0
  have e0 : dv d = .agg d.cells.toArray := rfl
  rw [e0]
  have HCS := Keep.mk e0
  unfold Dg.cells at hw0 ⊢
  clear h0 g0 s0 hk hh hf hs hn hsd hkey hcb c4 hX e0 hs1
  go_enter Tryz.func34, Tryz.ntmps34
  go_wp2_with fail
  refine HLV.out.mono ?_
  rintro e w0' ⟨rfl, hww⟩
  have hww := hww.symm
  subst hww
  by_cases hz : C.num = 0
  · have q1 : decide (C.num ≠ 0) = false := decide_eq_false (by simp [hz])
    rw [q1]
    have HZ := Keep.mk hz
    clear hz
    go_wp2_with fail
    go_ret2
    exact ⟨by rw [← HY.out.1, slX_0 HZ.out]; rfl, by rw [← HY.out.2]; unfold slS; rw [slX_0 HZ.out]; exact HW.out.1, gr_weak HW.out.2 _⟩
  have q1 : decide (C.num ≠ 0) = true := decide_eq_true hz
  have HZ := Keep.mk hz
  rw [q1]
  clear hz HW
  go_wp2_with fail
  have b5 := H0.out.1.cellv 5 _ (rfl : d.cells[5]? = some (uv d.session))
  have z5 := H0.out.1.frozen 5
  refine region_Y (S := fun w' => w'.cell? ⟨cb, 4, none⟩ = some (uv C.num) ∧ w'.cell? ⟨cb, 7, none⟩ = some (uv C.sd)) [] (by kernel_rfl) ?_
  obtain ⟨W0, hW0⟩ : ∃ q, w0.drew = q := ⟨_, rfl⟩
  rw [hW0] at H0 b5 z5 ⊢
  clear hW0
  have hHeld := And.intro (H0.out.2.1.cellv 4 _ rfl : W0.cell? ⟨cb, 4, none⟩ = some (uv C.num)) (H0.out.2.1.cellv 7 _ rfl : W0.cell? ⟨cb, 7, none⟩ = some (uv C.sd))
  refine wpAnyY_pure (i := 0) (oi := _) (v := ?_) rfl (by kernel_rfl) (by kernel_rfl) (by kernel_rfl) (by kernel_rfl) (fun _ _ _ h => h) (Or.inl ⟨by rfl, ?_⟩) ?_
  rotate_left
  · (intro w hSw; go_simp; first | done | (with_reducible rfl))
  simp only [Act.put, List.getElem_toArray, List.getElem_cons_zero, List.setIfInBounds_toArray, List.set_cons_zero, List.set_cons_succ]
  refine wpAnyY_pure (i := 1) (oi := _) (v := ?_) rfl (by kernel_rfl) (by kernel_rfl) (by kernel_rfl) (by kernel_rfl) (fun _ _ _ h => h) (Or.inl ⟨by rfl, ?_⟩) ?_
  rotate_left
  · (intro w hSw; go_simp; first | done | (with_reducible rfl))
  simp only [Act.put, List.getElem_toArray, List.getElem_cons_succ, List.getElem_cons_zero, List.setIfInBounds_toArray, List.set_cons_zero, List.set_cons_succ]
  refine wpAnyY_pure (i := 2) (oi := _) (v := ?_) rfl (by kernel_rfl) (by kernel_rfl) (by kernel_rfl) (by kernel_rfl) (fun _ _ _ h => h) (Or.inl ⟨by rfl, ?_⟩) ?_
  rotate_left
  · (intro w hSw; go_simp; first | done | (with_reducible rfl))
  simp only [Act.put, List.getElem_toArray, List.getElem_cons_succ, List.getElem_cons_zero, List.setIfInBounds_toArray, List.set_cons_zero, List.set_cons_succ]
  refine wpAnyY_take (i := 3) (oi := _) (v := ?_) rfl (by kernel_rfl) (by kernel_rfl) (by kernel_rfl) (by kernel_rfl) (by kernel_rfl) (fun _ _ _ h => h) (Or.inl ⟨by rfl, ?_⟩) (by assumption) ?_
  rotate_left
  · (intro w hSw; have k := hSw.1; go_simp; first | done | (with_reducible rfl))
  simp only [Act.put, List.getElem_toArray, List.getElem_cons_succ, List.getElem_cons_zero, List.setIfInBounds_toArray, List.set_cons_zero, List.set_cons_succ]
  refine wpAnyY_pure (i := 4) (oi := _) (v := ?_) rfl (by kernel_rfl) (by kernel_rfl) (by kernel_rfl) (by kernel_rfl) (fun _ _ _ h => h) (Or.inl ⟨by rfl, ?_⟩) ?_
  rotate_left
  · (intro w hSw; go_simp; first | done | (with_reducible rfl))
  simp only [Act.put, List.getElem_toArray, List.getElem_cons_succ, List.getElem_cons_zero, List.setIfInBounds_toArray, List.set_cons_zero, List.set_cons_succ]
  refine wpAnyY_pure (i := 5) (oi := _) (v := ?_) rfl (by kernel_rfl) (by kernel_rfl) (by kernel_rfl) (by kernel_rfl) (fun _ _ _ h => h) (Or.inl ⟨by rfl, ?_⟩) ?_
  rotate_left
  · (intro w hSw; go_simp; first | done | (with_reducible rfl))
  simp only [Act.put, List.getElem_toArray, List.getElem_cons_succ, List.getElem_cons_zero, List.setIfInBounds_toArray, List.set_cons_zero, List.set_cons_succ]
  refine wpAnyY_pure (i := 6) (oi := _) (v := ?_) rfl (by kernel_rfl) (by kernel_rfl) (by kernel_rfl) (by kernel_rfl) (fun _ _ _ h => h) (Or.inl ⟨by rfl, ?_⟩) ?_
  rotate_left
  · (intro w hSw; go_simp; first | done | (with_reducible rfl))
  simp only [Act.put, List.getElem_toArray, List.getElem_cons_succ, List.getElem_cons_zero, List.setIfInBounds_toArray, List.set_cons_zero, List.set_cons_succ]
  refine wpAnyY_take (i := 7) (oi := _) (v := ?_) rfl (by kernel_rfl) (by kernel_rfl) (by kernel_rfl) (by kernel_rfl) (by kernel_rfl) (fun _ _ _ h => h) (Or.inl ⟨by rfl, ?_⟩) (by assumption) ?_
  rotate_left
  · (intro w hSw; have k := hSw.2; go_simp; first | done | (with_reducible rfl))
  simp only [Act.put, List.getElem_toArray, List.getElem_cons_succ, List.getElem_cons_zero, List.setIfInBounds_toArray, List.set_cons_zero, List.set_cons_succ]
  refine wpAnyY_pure (i := 8) (oi := _) (v := ?_) rfl (by kernel_rfl) (by kernel_rfl) (by kernel_rfl) (by kernel_rfl) (fun _ _ _ h => h) (Or.inl ⟨by rfl, ?_⟩) ?_
  rotate_left
  · (intro w hSw; go_simp; first | done | (with_reducible rfl))
  simp only [Act.put, List.getElem_toArray, List.getElem_cons_succ, List.getElem_cons_zero, List.setIfInBounds_toArray, List.set_cons_zero, List.set_cons_succ]
  refine wpAnyY_pure (i := 9) (oi := _) (v := ?_) rfl (by kernel_rfl) (by kernel_rfl) (by kernel_rfl) (by kernel_rfl) (fun _ _ _ h => h) (Or.inl ⟨by rfl, ?_⟩) ?_
  rotate_left
  · (intro w hSw; go_simp; first | done | (with_reducible rfl))
  simp only [Act.put, List.getElem_toArray, List.getElem_cons_succ, List.getElem_cons_zero, List.setIfInBounds_toArray, List.set_cons_zero, List.set_cons_succ]
  refine wpAnyY_one (i := 10) (o := _) (by kernel_rfl) rfl (fun K hK => ?_)
  go_simp
  refine hK.out _ _ (fun q => ⟨cell_ne q.1 HNE.out, cell_ne q.2 HNE.out⟩) ?_
  clear hK K
  obtain ⟨w1, hw1⟩ : ∃ q, W0.setCell ⟨w.heap.size, 5, none⟩ (uv C.num) = q := ⟨_, rfl⟩
  have H1 : Keep (Has w1 w.heap.size (d.cells.set 5 (uv C.num)) 34 ∧ Has w1 cb C.cs 83 ∧ w.grownBy w1 none) := ⟨by rw [← hw1]; have h := H0.out.1.setCell 5 (uv C.num); exact h, by rw [← hw1]; exact H0.out.2.1.kept (gr_set _ _ _ _) (by simp; exact fun e => HNE.out e.symm), by rw [← hw1]; exact gr_new H0.out.2.2 (gr_set _ _ _ _) (Nat.le_refl _)⟩
  rw [hw1]
  clear hw1
  have b8 := H1.out.1.cellv 8 _ (rfl : (d.cells.set 5 (uv C.num))[8]? = some (uv d.seq))
  have z8 := H1.out.1.frozen 8
  refine wpAnyY_pure (i := 11) (oi := _) (v := ?_) rfl (by kernel_rfl) (by kernel_rfl) (by kernel_rfl) (by kernel_rfl) (fun _ _ _ h => h) (Or.inl ⟨by rfl, ?_⟩) ?_
  rotate_left
  · (intro w hSw; go_simp; first | done | (with_reducible rfl))
  simp only [Act.put, List.getElem_toArray, List.getElem_cons_succ, List.getElem_cons_zero, List.setIfInBounds_toArray, List.set_cons_zero, List.set_cons_succ]
  refine wpAnyY_one (i := 12) (o := _) (by kernel_rfl) rfl (fun K hK => ?_)
  go_simp
  refine hK.out _ _ (fun q => ⟨cell_ne q.1 HNE.out, cell_ne q.2 HNE.out⟩) ?_
  clear hK K
  obtain ⟨w2, hw2⟩ : ∃ q, w1.setCell ⟨w.heap.size, 8, none⟩ (uv (s1 : Int)) = q := ⟨_, rfl⟩
  have H2 : Keep (Has w2 w.heap.size (sesD C d).cells 34 ∧ Has w2 cb C.cs 83 ∧ w.grownBy w2 none) := ⟨by rw [← hw2]; have h := H1.out.1.setCell 8 (uv (s1 : Int)); rw [← HS1.out] at h ⊢; exact h, by rw [← hw2]; exact H1.out.2.1.kept (gr_set _ _ _ _) (by simp; exact fun e => HNE.out e.symm), by rw [← hw2]; exact gr_new H1.out.2.2 (gr_set _ _ _ _) (Nat.le_refl _)⟩
  rw [hw2]
  clear hw2
  refine wpAnyY_done (by kernel_rfl) ?_ _

  have k6 : w2.cell? ⟨cb, 6, none⟩ = some (.string C.key) := H2.out.2.1.cellv 6 _ rfl
  have HSL : Keep (∀ w3 : World, w2.grownBy w3 none → Calls Tryz.prog 18 #[.agg (sesD C d).cells.toArray, .string C.key] w3 fun e w' => e = .returned (.tuple #[.string X.1, .int .i64 X.2]) ∧ w3.grownBy w' none) := ⟨fun w3 g => HSL0.out w3 (HK.out.1.kept (H2.out.2.2.trans g) (by simp))⟩
  go_wp2_with fail
  refine region_Y (S := fun w' => w2.grownBy w' none) [] (by kernel_rfl) ?_
  have hHeld := gr_drew w2 none
  refine wpAnyY_take (i := 0) (oi := _) (v := .agg (sesD C d).cells.toArray) rfl (by kernel_rfl) (by kernel_rfl) (by kernel_rfl) (by kernel_rfl) (by kernel_rfl) (fun _ _ _ h => h) (yieldsIf_load_mid (by rfl) 34 _ rfl _ _ rfl _ _ (fun w hSw => (H2.out.1.kept hSw (by simp)).range) hdu hdr info26) (by assumption) ?_
  simp only [Act.put, List.getElem_toArray, List.getElem_cons_zero, List.setIfInBounds_toArray, List.set_cons_zero, List.set_cons_succ]
  refine wpAnyY_pure (i := 1) (oi := _) (v := ?_) rfl (by kernel_rfl) (by kernel_rfl) (by kernel_rfl) (by kernel_rfl) (fun _ _ _ h => h) (Or.inl ⟨by rfl, ?_⟩) ?_
  rotate_left
  · (intro w hSw; go_simp; first | done | (with_reducible rfl))
  simp only [Act.put, List.getElem_toArray, List.getElem_cons_succ, List.getElem_cons_zero, List.setIfInBounds_toArray, List.set_cons_zero, List.set_cons_succ]
  refine wpAnyY_pure (i := 2) (oi := _) (v := ?_) rfl (by kernel_rfl) (by kernel_rfl) (by kernel_rfl) (by kernel_rfl) (fun _ _ _ h => h) (Or.inl ⟨by rfl, ?_⟩) ?_
  rotate_left
  · (intro w hSw; go_simp; first | done | (with_reducible rfl))
  simp only [Act.put, List.getElem_toArray, List.getElem_cons_succ, List.getElem_cons_zero, List.setIfInBounds_toArray, List.set_cons_zero, List.set_cons_succ]
  refine wpAnyY_pure (i := 3) (oi := _) (v := ?_) rfl (by kernel_rfl) (by kernel_rfl) (by kernel_rfl) (by kernel_rfl) (fun _ _ _ h => h) (Or.inl ⟨by rfl, ?_⟩) ?_
  rotate_left
  · (intro w hSw; go_simp; first | done | (with_reducible rfl))
  simp only [Act.put, List.getElem_toArray, List.getElem_cons_succ, List.getElem_cons_zero, List.setIfInBounds_toArray, List.set_cons_zero, List.set_cons_succ]
  refine wpAnyY_take (i := 4) (oi := _) (v := ?_) rfl (by kernel_rfl) (by kernel_rfl) (by kernel_rfl) (by kernel_rfl) (by kernel_rfl) (fun _ _ _ h => h) (Or.inl ⟨by rfl, ?_⟩) (by assumption) ?_
  rotate_left
  · (intro w hSw; have k0 := hSw.cell k6 (by simp); go_simp; first | done | (with_reducible rfl))
  simp only [Act.put, List.getElem_toArray, List.getElem_cons_succ, List.getElem_cons_zero, List.setIfInBounds_toArray, List.set_cons_zero, List.set_cons_succ]
  refine wpAnyY_one (i := 5) (o := _) (by kernel_rfl) rfl (fun K hK => ?_)
  go_simp
  refine (HSL.out _ hHeld).mono ?_
  rintro e w3 ⟨rfl, g30⟩
  have g3 := Keep.mk (hHeld.trans g30)
  refine hK.out _ _ (fun q => q.trans g30) ?_
  clear hK K g30
  refine wpAnyY_pure (i := 6) (oi := _) (v := ?_) rfl (by kernel_rfl) (by kernel_rfl) (by kernel_rfl) (by kernel_rfl) (fun _ _ _ h => h) (Or.inl ⟨by rfl, ?_⟩) ?_
  rotate_left
  · (intro w hSw; go_simp; first | done | (with_reducible rfl))
  simp only [Act.put, List.getElem_toArray, List.getElem_cons_succ, List.getElem_cons_zero, List.setIfInBounds_toArray, List.set_cons_zero, List.set_cons_succ]
  refine wpAnyY_pure (i := 7) (oi := _) (v := ?_) rfl (by kernel_rfl) (by kernel_rfl) (by kernel_rfl) (by kernel_rfl) (fun _ _ _ h => h) (Or.inl ⟨by rfl, ?_⟩) ?_
  rotate_left
  · (intro w hSw; go_simp; first | done | (with_reducible rfl))
  simp only [Act.put, List.getElem_toArray, List.getElem_cons_succ, List.getElem_cons_zero, List.setIfInBounds_toArray, List.set_cons_zero, List.set_cons_succ]
  refine wpAnyY_pure (i := 8) (oi := _) (v := ?_) rfl (by kernel_rfl) (by kernel_rfl) (by kernel_rfl) (by kernel_rfl) (fun _ _ _ h => h) (Or.inl ⟨by rfl, ?_⟩) ?_
  rotate_left
  · (intro w hSw; go_simp; first | done | (with_reducible rfl))
  simp only [Act.put, List.getElem_toArray, List.getElem_cons_succ, List.getElem_cons_zero, List.setIfInBounds_toArray, List.set_cons_zero, List.set_cons_succ]
  refine wpAnyY_one (i := 9) (o := _) (by kernel_rfl) rfl (fun K hK => ?_)
  go_simp
  refine hK.out _ _ (fun h => h) ?_
  clear hK K
  refine wpAnyY_one (i := 10) (o := _) (by kernel_rfl) rfl (fun K hK => ?_)
  go_simp
  refine hK.out _ _ (fun h => h) ?_
  clear hK K
  refine wpAnyY_done (by kernel_rfl) ?_ _

  have H3 : Keep (Has w3 cb C.cs 83 ∧ w.grownBy w3 none) := ⟨H2.out.2.1.kept g3.out (by simp), H2.out.2.2.trans g3.out⟩
  obtain ⟨tx, cd⟩ := X
  by_cases hcd : cd = 0
  · subst hcd
    have c7 := H3.out.1.cellv 7 _ (rfl : C.cs[7]? = some (uv C.sd))
    have z7 := H3.out.1.frozen 7
    have HE : Keep (Has (w3.setCell ⟨cb, 7, none⟩ (uv (s1 : Int))) cb { C with sd := C.sd + 1 : Cl }.cs 83 ∧ w.grownBy (w3.setCell ⟨cb, 7, none⟩ (uv (s1 : Int))) (some cb)) := ⟨by have h := H3.out.1.setCell 7 (uv (s1 : Int)); rw [← HS1.out] at h ⊢; exact h, (gr_weak H3.out.2 _).trans (gr_set _ _ _ _)⟩
    clear H2 g3 HSL HSL0 hHeld k6 H3
    go_wp2_with fail
    go_ret2
    exact ⟨by rw [← HY.out.1, slX_1 HZ.out (by rw [HX.out]), HX.out]; first | done | rfl, by rw [← HY.out.2]; unfold slS; rw [slX_1 HZ.out (by rw [HX.out])]; exact HE.out.1, HE.out.2⟩
  · have q2 : (cd != 0) = true := by simp [hcd]
    have HCD := Keep.mk hcd
    clear hcd H2 g3 HSL HSL0 hHeld k6
    go_wp2_with fail
    go_ret2
    exact ⟨by rw [← HY.out.1, slX_2 HZ.out (by rw [HX.out]; exact HCD.out), HX.out]; first | done | rfl, by rw [← HY.out.2]; unfold slS; rw [slX_2 HZ.out (by rw [HX.out]; exact HCD.out), HX.out, if_neg HCD.out]; exact H3.out.1, gr_weak H3.out.2 _⟩
end Go.Proofs.YtldnpebnpbahjaaGreatDoor.Pk.Sn
