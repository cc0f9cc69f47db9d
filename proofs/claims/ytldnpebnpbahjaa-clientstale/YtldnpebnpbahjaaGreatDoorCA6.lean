import Derived.Test.YtldnpebnpbahjaaGreatDoorCA5
/- snapshots and byes -/
namespace Go.Proofs.YtldnpebnpbahjaaGreatDoor.Pk.Sn
open Go Go.RowKit

theorem hl_range {w : World} {b : Nat} {data : ByteArray} {D : Dg} {t : TypeId} (h : Has w b (hcs data D) t) : w.rangeAt b 0 (hcs data D) := h.range
set_option maxHeartbeats 8000000 in
set_option maxRecDepth 100000 in
theorem look_c (cb : Nat) (C : Cl) (data : ByteArray) (D : Dg) (w : World) (hk : Kc w) (hh : Has w cb C.cs 83) (hc : C.ok) (hd : Came D) (hds : data.size ≤ 281474976710656) :
    Calls Tryz.prog 204 #[pa cb 0, .agg (hcs data D).toArray] w fun e w' => e = .returned (iv (lokS C data D).2) ∧ Has w' cb (lokS C data D).1.cs 83 ∧ w.grownBy w' (some cb) := by
  obtain ⟨dh, hdh, hdr⟩ := underH
  obtain ⟨w0, hw0⟩ : ∃ q, w.alloc (.cells (hcs data D).toArray 93) = q := ⟨_, rfl⟩
  obtain ⟨h0, g0, s0⟩ := hasN hw0
  have hcb := hh.lt
  have HC : Keep (Has w0 cb C.cs 83) := ⟨hh.kept g0 (by simp)⟩
  have H0 : Keep (Has w0 w.heap.size (hcs data D) 93) := ⟨h0⟩
  have HJ : Keep (∀ w3 : World, w0.grownBy w3 none → Calls Tryz.prog 227 #[pa cb 4, .agg (hcs data D).toArray] w3 fun e w' => e = .returned (iv (judS C data D)) ∧ w3.grownBy w' none) := ⟨fun w3 g => judge_c cb C data D w3 (hk.kept (g0.trans g) (by simp)) (HC.out.kept g (by simp)) hds (by have := hc.key; omega)⟩
  have e14 : w0.cell? ⟨w.heap.size, 14, none⟩ = some (.string D.data) := h0.cellv 14 _ rfl
  have e9 : w0.cell? ⟨w.heap.size, 9, none⟩ = some (uv D.seq) := h0.cellv 9 _ rfl
  have HG := Keep.mk (And.intro g0 (And.intro (show w.heap.size ≠ cb by omega) hd))
  obtain ⟨J, hJ⟩ : ∃ q, judS C data D = q := ⟨_, rfl⟩
  rw [hJ] at HJ
  obtain ⟨L, hL⟩ : ∃ q, lokS C data D = q := ⟨_, rfl⟩
  rw [hL]
  unfold lokS at hL
  rw [hJ] at hL
  have HL := Keep.mk hL
  clear h0 g0 s0 hk hh hc hd hds hcb hJ hL
  have HHC : Keep ((hcs data D).toArray = (hcs data D).toArray) := ⟨rfl⟩
  unfold hcs Dg.cells at hw0 ⊢
  go_enter Tryz.func204, Tryz.ntmps204
  go_wp2_with fail
  refine region_Y (S := fun w' => w0.grownBy w' none) [] (by kernel_rfl) ?_
  have hHeld := gr_drew w0 none
  refine wpAnyY_pure (i := 0) (oi := _) (v := ?_) rfl (by kernel_rfl) (by kernel_rfl) (by kernel_rfl) (by kernel_rfl) (fun _ _ _ h => h) (Or.inl ⟨by rfl, ?_⟩) ?_
  rotate_left
  · (intro w hSw; go_simp; first | done | (with_reducible rfl))
  simp only [Act.put, List.getElem_toArray, List.getElem_cons_zero, List.setIfInBounds_toArray, List.set_cons_zero, List.set_cons_succ]
  refine wpAnyY_pure (i := 1) (oi := _) (v := ?_) rfl (by kernel_rfl) (by kernel_rfl) (by kernel_rfl) (by kernel_rfl) (fun _ _ _ h => h) (Or.inl ⟨by rfl, ?_⟩) ?_
  rotate_left
  · (intro w hSw; go_simp; first | done | (with_reducible rfl))
  simp only [Act.put, List.getElem_toArray, List.getElem_cons_succ, List.getElem_cons_zero, List.setIfInBounds_toArray, List.set_cons_zero, List.set_cons_succ]
  refine wpAnyY_pure (i := 2) (oi := _) (v := ?_) rfl (by kernel_rfl) (by kernel_rfl) (by kernel_rfl) (by kernel_rfl) (fun _ _ _ h => h) (Or.inl ⟨by rfl, ?_⟩) ?_
  rotate_left
  · (intro w hSw; go_simp; first | done | (with_reducible rfl))
  simp only [Act.put, List.getElem_toArray, List.getElem_cons_succ, List.getElem_cons_zero, List.setIfInBounds_toArray, List.set_cons_zero, List.set_cons_succ]
  refine wpAnyY_take (i := 3) (oi := _) (v := .agg (hcs data D).toArray) rfl (by kernel_rfl) (by kernel_rfl) (by kernel_rfl) (by kernel_rfl) (by kernel_rfl) (fun _ _ _ h => h) (yieldsIf_load_mid (by rfl) 93 _ rfl _ _ rfl _ _ (fun w hSw => (H0.out.kept hSw (by simp)).range) hdh hdr infoH) (by assumption) ?_
  simp only [Act.put, List.getElem_toArray, List.getElem_cons_succ, List.getElem_cons_zero, List.setIfInBounds_toArray, List.set_cons_zero, List.set_cons_succ]
  refine wpAnyY_one (i := 4) (o := _) (by kernel_rfl) rfl (fun K hK => ?_)
  go_simp
  refine (HJ.out _ hHeld).mono ?_
  rintro e w1 ⟨rfl, g10⟩
  have g1 := Keep.mk (hHeld.trans g10)
  refine hK.out _ _ (fun q => q.trans g10) ?_
  clear hK K g10
  refine wpAnyY_one (i := 5) (o := _) (by kernel_rfl) rfl (fun K hK => ?_)
  go_simp
  refine hK.out _ _ (fun h => h) ?_
  clear hK K
  refine wpAnyY_done (by kernel_rfl) ?_ _

  have M := Keep.mk (And.intro (g1.out.cell e14 (by simp)) (g1.out.cell e9 (by simp)))
  have m14 := M.out.1
  have HC1 : Keep (Has w1 cb C.cs 83 ∧ w.grownBy w1 none ∧ w0.grownBy w1 none) := ⟨HC.out.kept g1.out (by simp), HG.out.1.trans g1.out, g1.out⟩
  clear g1 HJ H0 HC e14 e9 hHeld
  by_cases hj : J = 0
  rotate_left
  · have q1 : (J != 0) = true := by simp [hj]
    have hL := HL.out
    rw [if_pos hj] at hL
    subst hL
    clear hj HL
    go_wp2_with fail
    go_ret
    exact ⟨rfl, HC1.out.1, gr_weak HC1.out.2.1 _⟩
  have hL := HL.out
  rw [if_neg (by simp [hj])] at hL
  clear HL
  subst hj
  obtain ⟨R, hR⟩ : ∃ q, rdV (sl D.data) = q := ⟨_, rfl⟩
  have HR : Keep (∀ w3, Calls Tryz.prog 46 #[.string D.data] w3 fun e w' => ∃ a c, e = .returned (.tuple #[.agg (R.1.cs a c).toArray, iv R.2]) ∧ w3.grownBy w' none) := ⟨fun w3 => by
    rw [← hR]
    refine (read_c D.data w3).mono ?_
    rintro e w' ⟨a, c, e1, e2⟩
    exact ⟨a, c, e1, e2.g⟩⟩
  rw [hR] at hL
  have HL := Keep.mk hL
  clear hR hL
  go_wp2_with fail
  refine (HR.out w1).mono ?_
  rintro e w2 ⟨a, c, rfl, g2⟩
  have HC2 : Keep (Has w2 cb C.cs 83 ∧ w.grownBy w2 none ∧ w1.grownBy w2 none) := ⟨HC1.out.1.kept g2 (by simp), HC1.out.2.1.trans g2, g2⟩
  clear g2 HR m14
  obtain ⟨V, cd⟩ := R
  by_cases hz : cd = 0
  rotate_left
  · have q1 : (cd != 0) = true := by simp [hz]
    have hL := HL.out
    rw [if_pos hz] at hL
    subst hL
    clear hz HL
    go_wp2_with (first
      | (with_reducible show wpList _ _ _ ({ dst := none, op := Op.store 49 _ _, type := _, pos := _, after := _, guard := _ } :: _) _ _
         refine st_new w2 (V.cs a c) 49 rfl rfl rfl rfl rfl infoV (vw_one _ _ _) ?_
         intro w6 h6 g6
         have H6 : Keep (Has w6 cb C.cs 83 ∧ w.grownBy w6 none) := ⟨HC2.out.1.kept g6 (by simp), HC2.out.2.1.trans g6⟩
         clear h6 g6))
    go_ret
    exact ⟨rfl, H6.out.1, gr_weak H6.out.2 _⟩
  subst hz
  have hL := HL.out
  rw [if_neg (by simp)] at hL
  subst hL
  clear HL
  go_wp2_with (first
    | (with_reducible show wpList _ _ _ ({ dst := none, op := Op.store 49 _ _, type := _, pos := _, after := _, guard := _ } :: _) _ _
       refine st_new w2 (V.cs a c) 49 rfl rfl rfl rfl rfl infoV (vw_one _ _ _) ?_
       intro w6 h6 g6
       have H6 : Keep (Has w6 cb C.cs 83 ∧ w.grownBy w6 none) := ⟨HC2.out.1.kept g6 (by simp), HC2.out.2.1.trans g6⟩
       have m14 := (HC2.out.2.2.trans g6).cell M.out.1 (by simp)
       have m9 := (HC2.out.2.2.trans g6).cell M.out.2 (by simp)
       have n10 := H6.out.1.cellv 10 _ rfl
       have z10 := H6.out.1.frozen 10
       have n8 := H6.out.1.cellv 8 _ rfl
       have z8 := H6.out.1.frozen 8
       have HNE := HG.out.2.1
       clear h6 g6))
  go_ret
  exact ⟨rfl, (H6.out.1.setCell 10 _).setCell 8 _, (gr_weak H6.out.2 _).trans ((gr_set _ _ _ _).trans (gr_set _ _ _ _))⟩
set_option maxHeartbeats 8000000 in
set_option maxRecDepth 100000 in
theorem dismiss_c (cb : Nat) (C : Cl) (data : ByteArray) (D : Dg) (w : World) (hk : Kc w) (hh : Has w cb C.cs 83) (hc : C.ok) (hd : Came D) (hds : data.size ≤ 281474976710656) :
    Calls Tryz.prog 205 #[pa cb 0, .agg (hcs data D).toArray] w fun e w' => e = .returned (iv (disS C data D).2) ∧ Has w' cb (disS C data D).1.cs 83 ∧ w.grownBy w' (some cb) := by
  obtain ⟨dh, hdh, hdr⟩ := underH
  obtain ⟨w0, hw0⟩ : ∃ q, w.alloc (.cells (hcs data D).toArray 93) = q := ⟨_, rfl⟩
  obtain ⟨h0, g0, s0⟩ := hasN hw0
  have hcb := hh.lt
  have HC : Keep (Has w0 cb C.cs 83) := ⟨hh.kept g0 (by simp)⟩
  have H0 : Keep (Has w0 w.heap.size (hcs data D) 93) := ⟨h0⟩
  have HJ : Keep (∀ w3 : World, w0.grownBy w3 none → Calls Tryz.prog 227 #[pa cb 4, .agg (hcs data D).toArray] w3 fun e w' => e = .returned (iv (judS C data D)) ∧ w3.grownBy w' none) := ⟨fun w3 g => judge_c cb C data D w3 (hk.kept (g0.trans g) (by simp)) (HC.out.kept g (by simp)) hds (by have := hc.key; omega)⟩
  have e14 : w0.cell? ⟨w.heap.size, 14, none⟩ = some (.string D.data) := h0.cellv 14 _ rfl
  have e9 : w0.cell? ⟨w.heap.size, 9, none⟩ = some (uv D.seq) := h0.cellv 9 _ rfl
  have HG := Keep.mk (And.intro g0 (And.intro (show w.heap.size ≠ cb by omega) hd))
  obtain ⟨J, hJ⟩ : ∃ q, judS C data D = q := ⟨_, rfl⟩
  rw [hJ] at HJ
  obtain ⟨L, hL⟩ : ∃ q, disS C data D = q := ⟨_, rfl⟩
  rw [hL]
  unfold disS at hL
  rw [hJ] at hL
  have HL := Keep.mk hL
  clear h0 g0 s0 hk hh hc hd hds hcb hJ hL e14 e9
  unfold hcs Dg.cells at hw0 ⊢
  go_enter Tryz.func205, Tryz.ntmps205
  go_wp2_with fail
  refine region_Y (S := fun w' => w0.grownBy w' none) [] (by kernel_rfl) ?_
  have hHeld := gr_drew w0 none
  refine wpAnyY_pure (i := 0) (oi := _) (v := ?_) rfl (by kernel_rfl) (by kernel_rfl) (by kernel_rfl) (by kernel_rfl) (fun _ _ _ h => h) (Or.inl ⟨by rfl, ?_⟩) ?_
  rotate_left
  · (intro w hSw; go_simp; first | done | (with_reducible rfl))
  simp only [Act.put, List.getElem_toArray, List.getElem_cons_zero, List.setIfInBounds_toArray, List.set_cons_zero, List.set_cons_succ]
  refine wpAnyY_pure (i := 1) (oi := _) (v := ?_) rfl (by kernel_rfl) (by kernel_rfl) (by kernel_rfl) (by kernel_rfl) (fun _ _ _ h => h) (Or.inl ⟨by rfl, ?_⟩) ?_
  rotate_left
  · (intro w hSw; go_simp; first | done | (with_reducible rfl))
  simp only [Act.put, List.getElem_toArray, List.getElem_cons_succ, List.getElem_cons_zero, List.setIfInBounds_toArray, List.set_cons_zero, List.set_cons_succ]
  refine wpAnyY_pure (i := 2) (oi := _) (v := ?_) rfl (by kernel_rfl) (by kernel_rfl) (by kernel_rfl) (by kernel_rfl) (fun _ _ _ h => h) (Or.inl ⟨by rfl, ?_⟩) ?_
  rotate_left
  · (intro w hSw; go_simp; first | done | (with_reducible rfl))
  simp only [Act.put, List.getElem_toArray, List.getElem_cons_succ, List.getElem_cons_zero, List.setIfInBounds_toArray, List.set_cons_zero, List.set_cons_succ]
  refine wpAnyY_take (i := 3) (oi := _) (v := .agg (hcs data D).toArray) rfl (by kernel_rfl) (by kernel_rfl) (by kernel_rfl) (by kernel_rfl) (by kernel_rfl) (fun _ _ _ h => h) (yieldsIf_load_mid (by rfl) 93 _ rfl _ _ rfl _ _ (fun w hSw => (H0.out.kept hSw (by simp)).range) hdh hdr infoH) (by assumption) ?_
  simp only [Act.put, List.getElem_toArray, List.getElem_cons_succ, List.getElem_cons_zero, List.setIfInBounds_toArray, List.set_cons_zero, List.set_cons_succ]
  refine wpAnyY_one (i := 4) (o := _) (by kernel_rfl) rfl (fun K hK => ?_)
  go_simp
  refine (HJ.out _ hHeld).mono ?_
  rintro e w1 ⟨rfl, g10⟩
  have g1 := Keep.mk (hHeld.trans g10)
  refine hK.out _ _ (fun q => q.trans g10) ?_
  clear hK K g10
  refine wpAnyY_one (i := 5) (o := _) (by kernel_rfl) rfl (fun K hK => ?_)
  go_simp
  refine hK.out _ _ (fun h => h) ?_
  clear hK K
  refine wpAnyY_done (by kernel_rfl) ?_ _

  have HC1 : Keep (Has w1 cb C.cs 83 ∧ w.grownBy w1 none ∧ w0.grownBy w1 none) := ⟨HC.out.kept g1.out (by simp), HG.out.1.trans g1.out, g1.out⟩
  clear g1 HJ H0 HC hHeld
  by_cases hj : J = 0
  rotate_left
  · have q1 : (J != 0) = true := by simp [hj]
    have hL := HL.out
    rw [if_pos hj] at hL
    subst hL
    clear hj HL
    go_wp2_with fail
    go_ret
    exact ⟨rfl, HC1.out.1, gr_weak HC1.out.2.1 _⟩
  have hL := HL.out
  rw [if_neg (by simp [hj])] at hL
  clear HL
  subst hj
  subst hL
  go_wp2_with fail
  refine (end_c cb C w1 HC1.out.1).mono ?_
  rintro e w2 ⟨rfl, h2, g2⟩
  have H2 := Keep.mk (And.intro h2 ((gr_weak HC1.out.2.1 _).trans g2))
  clear h2 g2
  go_wp2_with fail
  go_ret
  exact ⟨rfl, H2.out⟩
end Go.Proofs.YtldnpebnpbahjaaGreatDoor.Pk.Sn
