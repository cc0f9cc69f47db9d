import Derived.Test.YtldnpebnpbahjaaGreatDoorCA5
namespace Go.Proofs.YtldnpebnpbahjaaGreatDoor.Pk.Sn
open Go Go.RowKit

theorem hl_range {w : World} {b : Nat} {data : ByteArray} {D : Dg} {t : TypeId} (h : Has w b (hcs data D) t) : w.rangeAt b 0 (hcs data D) := h.range
set_option maxHeartbeats 8000000 in
set_option maxRecDepth 100000 in
theorem look_c (cb : Nat) (C : Cl) (data : ByteArray) (D : Dg) (w : World) (hk : Kc w) (hh : Has w cb C.cs 83) (hc : C.ok) (hd : Came D) (hds : data.size ≤ 281474976710656) :
    Calls Tryz.prog 204 #[pa cb 0, .agg (hcs data D).toArray] w fun e w' => e = .returned (iv (lokS C data D).2) ∧ Has w' cb (lokS C data D).1.cs 83 ∧ w.grownBy w' (some cb) := by
  obtain ⟨dh, hdh, hdr⟩ := underH
  obtain ⟨w0, hw0⟩ : ∃ q, w.alloc (.cells (hcs data D).toArray 93) = q := ⟨_, rfl⟩
  obtain ⟨h0, g0, s0⟩ := hasN hw0
  have hcb := hh.lt
  have HC : Keep (Has w0 cb C.cs 83) := ⟨hh.kept g0 (by simp)⟩
  have H0 : Keep (Has w0 w.heap.size (hcs data D) 93) := ⟨h0⟩
  have HJ : Keep (∀ w3 : World, w0.grownBy w3 none → Calls Tryz.prog 227 #[pa cb 4, .agg (hcs data D).toArray] w3 fun e w' => e = .returned (iv (judS C data D)) ∧ w3.grownBy w' none) := ⟨fun w3 g => judge_c cb C data D w3 (hk.kept (g0.trans g) (by simp)) (HC.out.kept g (by simp)) hds (by have := hc.key; omega)⟩
  have e14 : w0.cell? ⟨w.heap.size, 14, none⟩ = some (.string D.data) := h0.cellv 14 _ rfl
  have e9 : w0.cell? ⟨w.heap.size, 9, none⟩ = some (uv D.seq) := h0.cellv 9 _ rfl
  have HG := Keep.mk (And.intro g0 (And.intro (show w.heap.size ≠ cb by omega) hd))
  obtain ⟨J, hJ⟩ : ∃ q, judS C data D = q := ⟨_, rfl⟩
  rw [hJ] at HJ
  obtain ⟨L, hL⟩ : ∃ q, lokS C data D = q := ⟨_, rfl⟩
  rw [hL]
  unfold lokS at hL
  rw [hJ] at hL
  have HL := Keep.mk hL
  clear h0 g0 s0 hk hh hc hd hds hcb hJ hL
  have HHC : Keep ((hcs data D).toArray = (hcs data D).toArray) := ⟨rfl⟩
  unfold hcs Dg.cells at hw0 ⊢
  go_enter Tryz.func204, Tryz.ntmps204
  go_wp2_with fail
  refine region_Y (S := fun w' => w0.grownBy w' none) [] (by kernel_rfl) ?_
  have hHeld := gr_drew w0 none
  refine wpAnyY_pure (i := 0) (oi := _) (v := ?_) rfl (by kernel_rfl) (by kernel_rfl) (by kernel_rfl) (by kernel_rfl) (fun _ _ _ h => h) (Or.inl ⟨by rfl, ?_⟩) ?_
  rotate_left
  · (intro w hSw; go_simp; first | done | (with_reducible rfl))
  simp only [Act.put, List.getElem_toArray, List.getElem_cons_zero, List.setIfInBounds_toArray, List.set_cons_zero, List.set_cons_succ]
  refine wpAnyY_pure (i := 1) (oi := _) (v := ?_) rfl (by kernel_rfl) (by kernel_rfl) (by kernel_rfl) (by kernel_rfl) (fun _ _ _ h => h) (Or.inl ⟨by rfl, ?_⟩) ?_
  rotate_left
  · (intro w hSw; go_simp; first | done | (with_reducible rfl))
  simp only [Act.put, List.getElem_toArray, List.getElem_cons_succ, List.getElem_cons_zero, List.setIfInBounds_toArray, List.set_cons_zero, List.set_cons_succ]
  refine wpAnyY_pure (i := 2) (oi := _) (v := ?_) rfl (by kernel_rfl) (by kernel_rfl) (by kernel_rfl) (by kernel_rfl) (fun _ _ _ h => h) (Or.inl ⟨by rfl, ?_⟩) ?_
  rotate_left
  · (intro w hSw; go_simp; first | done | (with_reducible rfl))
  simp only [Act.put, List.getElem_toArray, List.getElem_cons_succ, List.getElem_cons_zero, List.setIfInBounds_toArray, List.set_cons_zero, List.set_cons_succ]
  refine wpAnyY_take (i := 3) (oi := _) (v := .agg (hcs data D).toArray) rfl (by kernel_rfl) (by kernel_rfl) (by kernel_rfl) (by kernel_rfl) (by kernel_rfl) (fun _ _ _ h => h) (yieldsIf_load_mid (by rfl) 93 _ rfl _ _ rfl _ _ (fun w hSw => (H0.out.kept hSw (by simp)).range) hdh hdr infoH) (by assumption) ?_
  simp only [Act.put, List.getElem_toArray, List.getElem_cons_succ, List.getElem_cons_zero, List.setIfInBounds_toArray, List.set_cons_zero, List.set_cons_succ]
  refine wpAnyY_one (i := 4) (o := _) (by kernel_rfl) rfl (fun K hK => ?_)
  go_simp
  refine (HJ.out _ hHeld).mono ?_
  rintro e w1 ⟨rfl, g10⟩
  have g1 := Keep.mk (hHeld.trans g10)
  refine hK.out _ _ (fun q => q.trans g10) ?_
  clear hK K g10
  refine wpAnyY_one (i := 5) (o := _) (by kernel_rfl) rfl (fun K hK => ?_)
  go_simp
  refine hK.out _ _ (fun h => h) ?_
  clear hK K
  refine wpAnyY_done (by kernel_rfl) ?_ _

  have M := Keep.mk (And.intro (g1.out.cell e14 (by simp)) (g1.out.cell e9 (by simp)))
  have m14 := M.out.1
  have HC1 : Keep (Has w1 cb C.cs 83 ∧ w.grownBy w1 none ∧ w0.grownBy w1 none) := ⟨HC.out.kept g1.out (by simp), HG.out.1.trans g1.out, g1.out⟩
  clear g1 HJ H0 HC e14 e9 hHeld
  by_cases hj : J = 0
  rotate_left
  · have q1 : (J != 0) = true := by simp [hj]
    have hL := HL.out
    rw [if_pos hj] at hL
    subst hL
    clear hj HL
    go_wp2_with fail
    go_ret
    exact ⟨rfl, HC1.out.1, gr_weak HC1.out.2.1 _⟩
  have hL := HL.out
  rw [if_neg (by simp [hj])] at hL
  clear HL
  subst hj
  obtain ⟨R, hR⟩ : ∃ q, rdV (sl D.data) = q := ⟨_, rfl⟩
  have HR : Keep (∀ w3, Calls Tryz.prog 46 #[.string D.data] w3 fun e w' => ∃ a c, e = .returned (.tuple #[.agg (R.1.cs a c).toArray, iv R.2]) ∧ w3.grownBy w' none) := ⟨fun w3 => by
    rw [← hR]
    refine (read_c D.data w3).mono ?_
    rintro e w' ⟨a, c, e1, e2⟩
    exact ⟨a, c, e1, e2.g⟩⟩
  rw [hR] at hL
  have HL := Keep.mk hL
  clear hR hL
  go_wp2_with fail
  refine (HR.out w1).mono ?_
  rintro e w2 ⟨a, c, rfl, g2⟩
  have HC2 : Keep (Has w2 cb C.cs 83 ∧ w.grownBy w2 none ∧ w1.grownBy w2 none) := ⟨HC1.out.1.kept g2 (by simp), HC1.out.2.1.trans g2, g2⟩
  clear g2 HR m14
  obtain ⟨V, cd⟩ := R
  by_cases hz : cd = 0
  rotate_left
  · have q1 : (cd != 0) = true := by simp [hz]
    have hL := HL.out
    rw [if_pos hz] at hL
    subst hL
    clear hz HL
    go_wp2_with (first
      | (with_reducible show wpList _ _ _ ({ dst := none, op := Op.store 49 _ _, type := _, pos := _, after := _, guard := _ } :: _) _ _
         refine st_new w2 (V.cs a c) 49 rfl rfl rfl rfl rfl infoV (vw_one _ _ _) ?_
         intro w6 h6 g6
         have H6 : Keep (Has w6 cb C.cs 83 ∧ w.grownBy w6 none) := ⟨HC2.out.1.kept g6 (by simp), HC2.out.2.1.trans g6⟩
         clear h6 g6))
    go_ret
    exact ⟨rfl, H6.out.1, gr_weak H6.out.2 _⟩
  subst hz
  have hL := HL.out
  rw [if_neg (by simp)] at hL
  subst hL
  clear HL
  go_wp2_with (first
    | (with_reducible show wpList _ _ _ ({ dst := none, op := Op.store 49 _ _, type := _, pos := _, after := _, guard := _ } :: _) _ _
       refine st_new w2 (V.cs a c) 49 rfl rfl rfl rfl rfl infoV (vw_one _ _ _) ?_
       intro w6 h6 g6
       have H6 : Keep (Has w6 cb C.cs 83 ∧ w.grownBy w6 none) := ⟨HC2.out.1.kept g6 (by simp), HC2.out.2.1.trans g6⟩
       have m14 := (HC2.out.2.2.trans g6).cell M.out.1 (by simp)
       have m9 := (HC2.out.2.2.trans g6).cell M.out.2 (by simp)
       have n10 := H6.out.1.cellv 10 _ rfl
       have z10 := H6.out.1.frozen 10
       have n8 := H6.out.1.cellv 8 _ rfl
       have z8 := H6.out.1.frozen 8
       have HNE := HG.out.2.1
       clear h6 g6))
  go_ret
  exact ⟨rfl, (H6.out.1.setCell 10 _).setCell 8 _, (gr_weak H6.out.2 _).trans ((gr_set _ _ _ _).trans (gr_set _ _ _ _))⟩
set_option maxHeartbeats 8000000 in
set_option maxRecDepth 100000 in
theorem dismiss_c (cb : Nat) (C : Cl) (data : ByteArray) (D : Dg) (w : World) (hk : Kc w) (hh : Has w cb C.cs 83) (hc : C.ok) (hd : Came D) (hds : data.size ≤ 281474976710656) :
    Calls Tryz.prog 205 #[pa cb 0, .agg (hcs data D).toArray] w fun e w' => e = .returned (iv (disS C data D).2) ∧ Has w' cb (disS C data D).1.cs 83 ∧ w.grownBy w' (some cb) := by
  obtain ⟨dh, hdh, hdr⟩ := underH
  obtain ⟨w0, hw0⟩ : ∃ q, w.alloc (.cells (hcs data D).toArray 93) = q := ⟨_, rfl⟩
  obtain ⟨h0, g0, s0⟩ := hasN hw0
  have hcb := hh.lt
  have HC : Keep (Has w0 cb C.cs 83) := ⟨hh.kept g0 (by simp)⟩
  have H0 : Keep (Has w0 w.heap.size (hcs data D) 93) := ⟨h0⟩
  have HJ : Keep (∀ w3 : World, w0.grownBy w3 none → Calls Tryz.prog 227 #[pa cb 4, .agg (hcs data D).toArray] w3 fun e w' => e = .returned (iv (judS C data D)) ∧ w3.grownBy w' none) := ⟨fun w3 g => judge_c cb C data D w3 (hk.kept (g0.trans g) (by simp)) (HC.out.kept g (by simp)) hds (by have := hc.key; omega)⟩
  have e14 : w0.cell? ⟨w.heap.size, 14, none⟩ = some (.string D.data) := h0.cellv 14 _ rfl
  have e9 : w0.cell? ⟨w.heap.size, 9, none⟩ = some (uv D.seq) := h0.cellv 9 _ rfl
  have HG := Keep.mk (And.intro g0 (And.intro (show w.heap.size ≠ cb by omega) hd))
  obtain ⟨J, hJ⟩ : ∃ q, judS C data D = q := ⟨_, rfl⟩
  rw [hJ] at HJ
  obtain ⟨L, hL⟩ : ∃ q, disS C data D = q := ⟨_, rfl⟩
  rw [hL]
  unfold disS at hL
  rw [hJ] at hL
  have HL := Keep.mk hL
  clear h0 g0 s0 hk hh hc hd hds hcb hJ hL e14 e9
  unfold hcs Dg.cells at hw0 ⊢
  go_enter Tryz.func205, Tryz.ntmps205
  go_wp2_with fail
  refine region_Y (S := fun w' => w0.grownBy w' none) [] (by kernel_rfl) ?_
  have hHeld := gr_drew w0 none
  refine wpAnyY_pure (i := 0) (oi := _) (v := ?_) rfl (by kernel_rfl) (by kernel_rfl) (by kernel_rfl) (by kernel_rfl) (fun _ _ _ h => h) (Or.inl ⟨by rfl, ?_⟩) ?_
  rotate_left
  · (intro w hSw; go_simp; first | done | (with_reducible rfl))
  simp only [Act.put, List.getElem_toArray, List.getElem_cons_zero, List.setIfInBounds_toArray, List.set_cons_zero, List.set_cons_succ]
  refine wpAnyY_pure (i := 1) (oi := _) (v := ?_) rfl (by kernel_rfl) (by kernel_rfl) (by kernel_rfl) (by kernel_rfl) (fun _ _ _ h => h) (Or.inl ⟨by rfl, ?_⟩) ?_
  rotate_left
  · (intro w hSw; go_simp; first | done | (with_reducible rfl))
  simp only [Act.put, List.getElem_toArray, List.getElem_cons_succ, List.getElem_cons_zero, List.setIfInBounds_toArray, List.set_cons_zero, List.set_cons_succ]
  refine wpAnyY_pure (i := 2) (oi := _) (v := ?_) rfl (by kernel_rfl) (by kernel_rfl) (by kernel_rfl) (by kernel_rfl) (fun _ _ _ h => h) (Or.inl ⟨by rfl, ?_⟩) ?_
  rotate_left
  · (intro w hSw; go_simp; first | done | (with_reducible rfl))
  simp only [Act.put, List.getElem_toArray, List.getElem_cons_succ, List.getElem_cons_zero, List.setIfInBounds_toArray, List.set_cons_zero, List.set_cons_succ]
  refine wpAnyY_take (i := 3) (oi := _) (v := .agg (hcs data D).toArray) rfl (by kernel_rfl) (by kernel_rfl) (by kernel_rfl) (by kernel_rfl) (by kernel_rfl) (fun _ _ _ h => h) (yieldsIf_load_mid (by rfl) 93 _ rfl _ _ rfl _ _ (fun w hSw => (H0.out.kept hSw (by simp)).range) hdh hdr infoH) (by assumption) ?_
  simp only [Act.put, List.getElem_toArray, List.getElem_cons_succ, List.getElem_cons_zero, List.setIfInBounds_toArray, List.set_cons_zero, List.set_cons_succ]
  refine wpAnyY_one (i := 4) (o := _) (by kernel_rfl) rfl (fun K hK => ?_)
  go_simp
  refine (HJ.out _ hHeld).mono ?_
  rintro e w1 ⟨rfl, g10⟩
  have g1 := Keep.mk (hHeld.trans g10)
  refine hK.out _ _ (fun q => q.trans g10) ?_
  clear hK K g10
  refine wpAnyY_one (i := 5) (o := _) (by kernel_rfl) rfl (fun K hK => ?_)
  go_simp
  refine hK.out _ _ (fun h => h) ?_
  clear hK K
  refine wpAnyY_done (by kernel_rfl) ?_ _

  have HC1 : Keep (Has w1 cb C.cs 83 ∧ w.grownBy w1 none ∧ w0.grownBy w1 none) := ⟨HC.out.kept g1.out (by simp), HG.out.1.trans g1.out, g1.out⟩
  clear g1 HJ H0 HC hHeld
  by_cases hj : J = 0
  rotate_left
  · have q1 : (J != 0) = true := by simp [hj]
    have hL := HL.out
    rw [if_pos hj] at hL
    subst hL
    clear hj HL
    go_wp2_with fail
    go_ret
    exact ⟨rfl, HC1.out.1, gr_weak HC1.out.2.1 _⟩
  have hL := HL.out
  rw [if_neg (by simp [hj])] at hL
  clear HL
  subst hj
  subst hL
  go_wp2_with fail
  refine (end_c cb C w1 HC1.out.1).mono ?_
  rintro e w2 ⟨rfl, h2, g2⟩
  have H2 := Keep.mk (And.intro h2 ((gr_weak HC1.out.2.1 _).trans g2))
  clear h2 g2
  go_wp2_with fail
  go_ret
  exact ⟨rfl, H2.out⟩
end Go.Proofs.YtldnpebnpbahjaaGreatDoor.Pk.Sn

namespace Go.Proofs.YtldnpebnpbahjaaGreatDoor.Pk.Sn
open Go Go.RowKit

theorem nonce_eq {a b : ByteArray} : (a.toList == b.toList) = decide (a = b) := by
  by_cases h : a = b
  · subst h; simp
  · have : ¬ a.toList = b.toList := fun e => h (by
      apply ByteArray.ext
      have := congrArg List.toArray e
      rw [ByteArray.toList_eq, ByteArray.toList_eq] at e
      exact Array.toList_inj.1 e)
    simp [h, this]
theorem gre_1 {C : Cl} {data : ByteArray} {D : Dg} (h : ¬ D.nonce = C.nc) : greS C data D = (nob, 240, C) := by unfold greS; rw [if_neg (fun q => h q.1), if_neg (fun q => h q.1)]
theorem gre_2 {C : Cl} {data : ByteArray} {D : Dg} (h : D.nonce = C.nc) (k : D.kind = 2) : greS C data D = ((sealD (conD C D) C.sc).1, (sealD (conD C D) C.sc).2, C) := by unfold greS; rw [if_pos ⟨h, k⟩]
theorem gre_3 {C : Cl} {data : ByteArray} {D : Dg} (h : D.nonce = C.nc) (k : D.kind = 4) : greS C data D = (nob, (begS C data D).2, (begS C data D).1) := by unfold greS; rw [if_neg (fun q => by have := q.2; omega), if_pos ⟨h, k⟩]
theorem gre_4 {C : Cl} {data : ByteArray} {D : Dg} (k : ¬ D.kind = 2) (k2 : ¬ D.kind = 4) : greS C data D = (nob, 240, C) := by unfold greS; rw [if_neg (fun q => k q.2), if_neg (fun q => k2 q.2)]
set_option maxHeartbeats 8000000 in
set_option maxRecDepth 100000 in
theorem silent_c (cb : Nat) (C : Cl) (data : ByteArray) (D : Dg) (w : World) (hk : Kc w) (hh : Has w cb C.cs 83) (hc : C.ok) (hd : Came D) (hds : data.size ≤ 281474976710656) :
    Calls Tryz.prog 52 #[pa cb 0, .agg (hcs data D).toArray] w fun e w' => e = .returned (.tuple #[.string ((nob, (240 : Int), C)).1, iv ((nob, (240 : Int), C)).2.1]) ∧ Has w' cb ((nob, (240 : Int), C)).2.2.cs 83 ∧ w.grownBy w' (some cb) := by
  obtain ⟨dh, hdh, hdr⟩ := underH
  obtain ⟨w0, hw0⟩ : ∃ q, w.alloc (.cells (hcs data D).toArray 93) = q := ⟨_, rfl⟩
  obtain ⟨h0, g0, s0⟩ := hasN hw0
  have hcb := hh.lt
  have HC : Keep (Has w0 cb C.cs 83) := ⟨hh.kept g0 (by simp)⟩
  have H0 : Keep (Has w0 w.heap.size (hcs data D) 93) := ⟨h0⟩
  have HK := Keep.mk (And.intro (hk.kept g0 (by simp)) (And.intro hc (And.intro hd hds)))
  have HG := Keep.mk (And.intro g0 (show w.heap.size ≠ cb by omega))
  clear h0 g0 s0 hk hc hd hds hcb
  unfold hcs Dg.cells at hw0 ⊢
  go_enter Tryz.func52, Tryz.ntmps52
  go_wp2_with fail
  go_ret2
  exact ⟨rfl, HC.out, gr_weak HG.out.1 _⟩
set_option maxHeartbeats 8000000 in
set_option maxRecDepth 100000 in
theorem greeted_c (cb : Nat) (C : Cl) (data : ByteArray) (D : Dg) (w : World) (hk : Kc w) (hh : Has w cb C.cs 83) (hc : C.ok) (hd : Came D) (hds : data.size ≤ 281474976710656) :
    Calls Tryz.prog 54 #[pa cb 0, .agg (hcs data D).toArray] w fun e w' => e = .returned (.tuple #[.string (greS C data D).1, iv (greS C data D).2.1]) ∧ Has w' cb (greS C data D).2.2.cs 83 ∧ w.grownBy w' (some cb) := by
  obtain ⟨dh, hdh, hdr⟩ := underH
  obtain ⟨w0, hw0⟩ : ∃ q, w.alloc (.cells (hcs data D).toArray 93) = q := ⟨_, rfl⟩
  obtain ⟨h0, g0, s0⟩ := hasN hw0
  have hcb := hh.lt
  have HC : Keep (Has w0 cb C.cs 83) := ⟨hh.kept g0 (by simp)⟩
  have H0 : Keep (Has w0 w.heap.size (hcs data D) 93) := ⟨h0⟩
  have HK := Keep.mk (And.intro (hk.kept g0 (by simp)) (And.intro hc (And.intro hd hds)))
  have HG := Keep.mk (And.intro g0 (show w.heap.size ≠ cb by omega))
  have e2 : w0.cell? ⟨w.heap.size, 2, none⟩ = some (.string D.nonce) := h0.cellv 2 _ rfl
  have e1 : w0.cell? ⟨w.heap.size, 1, none⟩ = some (iv D.kind) := h0.cellv 1 _ rfl
  have c2 : w0.cell? ⟨cb, 2, none⟩ = some (.string C.nc) := HC.out.cellv 2 _ rfl
  obtain ⟨X, hX⟩ : ∃ q, greS C data D = q := ⟨_, rfl⟩
  rw [hX]
  have hbe := nonce_eq (a := D.nonce) (b := C.nc)
  clear h0 g0 s0 hk hh hc hd hds hcb
  unfold hcs Dg.cells at hw0
  unfold hcs Dg.cells
  by_cases ho : D.nonce = C.nc
  rotate_left
  · rw [decide_eq_false ho] at hbe
    rw [gre_1 ho] at hX
    subst hX
    have hbe2 : ¬ D.nonce.toList = C.nc.toList := fun e => by rw [e] at hbe; simp at hbe
    clear ho
    go_enter Tryz.func54, Tryz.ntmps54
    go_wp2_with fail
    go_quiet (fail)
    go_wp2_with fail
    go_ret2
    exact ⟨rfl, HC.out.kept (gr_drewN _ _ none) (by simp), gr_weak (HG.out.1.trans (gr_drewN _ _ none)) _⟩
  have HO := Keep.mk ho
  rw [decide_eq_true ho] at hbe
  have hbe2 : D.nonce.toList = C.nc.toList := by rw [ho]
  clear ho
  by_cases k2 : D.kind = 2
  · rw [gre_2 HO.out k2] at hX
    subst hX
    have q2 : (D.kind == 2) = true := by simp [k2]
    clear k2
    go_enter Tryz.func54, Tryz.ntmps54
    go_wp2_with fail
    go_quiet (fail)
    have HQ : Keep (Has (w0.drewN nq) w.heap.size (hcs data D) 93 ∧ Has (w0.drewN nq) cb C.cs 83 ∧ Kc (w0.drewN nq)) := ⟨H0.out.kept (gr_drewN _ _ none) (by simp), HC.out.kept (gr_drewN _ _ none) (by simp), HK.out.1.kept (gr_drewN _ _ none) (by simp)⟩
    have e1n := (gr_drewN w0 nq none).cell e1 (by simp)
    go_wp2_with (first
      | (with_reducible show wpList _ _ _ ({ dst := _, op := Op.load 93 _, type := _, pos := _, after := _, guard := _ } :: _) _ _
         refine load_g rfl 93 _ rfl w.heap.size 0 rfl (hcs data D) dh HQ.out.1.range hdh hdr infoH ?_
         simp only [Act.put, List.setIfInBounds_toArray, List.set_cons_zero, List.set_cons_succ]))
    refine (connect_c cb C data D (w0.drewN nq) HQ.out.2.2 HQ.out.2.1 HK.out.2.1 HK.out.2.2.1).mono ?_
    rintro e w2 ⟨rfl, g2⟩
    have H2 : Keep (Has w2 cb C.cs 83 ∧ w.grownBy w2 none) := ⟨HQ.out.2.1.kept g2 (by simp), (HG.out.1.trans (gr_drewN _ _ none)).trans g2⟩
    clear g2
    go_wp2_with fail
    go_ret2
    exact ⟨rfl, H2.out.1, gr_weak H2.out.2 _⟩
  by_cases k4 : D.kind = 4
  · rw [gre_3 HO.out k4] at hX
    subst hX
    have q2 : (D.kind == 2) = false := by simp [k4]
    have q4 : (D.kind == 4) = true := by simp [k4]
    clear k2 k4
    go_enter Tryz.func54, Tryz.ntmps54
    go_wp2_with fail
    go_quiet (fail)
    have HQ : Keep (Has (w0.drewN nq) w.heap.size (hcs data D) 93 ∧ Has (w0.drewN nq) cb C.cs 83 ∧ Kc (w0.drewN nq)) := ⟨H0.out.kept (gr_drewN _ _ none) (by simp), HC.out.kept (gr_drewN _ _ none) (by simp), HK.out.1.kept (gr_drewN _ _ none) (by simp)⟩
    have e1n := (gr_drewN w0 nq none).cell e1 (by simp)
    go_wp2_with (first
      | (with_reducible show wpList _ _ _ ({ dst := _, op := Op.load 93 _, type := _, pos := _, after := _, guard := _ } :: _) _ _
         refine load_g rfl 93 _ rfl w.heap.size 0 rfl (hcs data D) dh HQ.out.1.range hdh hdr infoH ?_
         simp only [Act.put, List.setIfInBounds_toArray, List.set_cons_zero, List.set_cons_succ]))
    refine (begin_c cb C data D (w0.drewN nq) HQ.out.2.2 HQ.out.2.1 HK.out.2.1 HK.out.2.2.1 HK.out.2.2.2).mono ?_
    rintro e w2 ⟨rfl, h2, g2⟩
    have H2 := Keep.mk (And.intro h2 (((gr_weak HG.out.1 _).trans (gr_drewN _ _ (some cb))).trans g2))
    clear g2 h2
    go_wp2_with fail
    go_ret2
    exact ⟨rfl, H2.out⟩
  rw [gre_4 k2 k4] at hX
  subst hX
  have q2 : (D.kind == 2) = false := by simp [k2]
  have q4 : (D.kind == 4) = false := by simp [k4]
  clear k2 k4
  go_enter Tryz.func54, Tryz.ntmps54
  go_wp2_with fail
  go_quiet (fail)
  have e1n := (gr_drewN w0 nq none).cell e1 (by simp)
  go_wp2_with fail
  go_ret2
  exact ⟨rfl, HC.out.kept (gr_drewN _ _ none) (by simp), gr_weak (HG.out.1.trans (gr_drewN _ _ none)) _⟩
set_option maxHeartbeats 8000000 in
set_option maxRecDepth 100000 in
theorem playing_c (cb : Nat) (C : Cl) (data : ByteArray) (D : Dg) (w : World) (hk : Kc w) (hh : Has w cb C.cs 83) (hc : C.ok) (hd : Came D) (hds : data.size ≤ 281474976710656) :
    Calls Tryz.prog 168 #[pa cb 0, .agg (hcs data D).toArray] w fun e w' => e = .returned (.tuple #[.string (plaS C data D).1, iv (plaS C data D).2.1]) ∧ Has w' cb (plaS C data D).2.2.cs 83 ∧ w.grownBy w' (some cb) := by
  obtain ⟨dh, hdh, hdr⟩ := underH
  obtain ⟨w0, hw0⟩ : ∃ q, w.alloc (.cells (hcs data D).toArray 93) = q := ⟨_, rfl⟩
  obtain ⟨h0, g0, s0⟩ := hasN hw0
  have hcb := hh.lt
  have HC : Keep (Has w0 cb C.cs 83) := ⟨hh.kept g0 (by simp)⟩
  have H0 : Keep (Has w0 w.heap.size (hcs data D) 93) := ⟨h0⟩
  have HK := Keep.mk (And.intro (hk.kept g0 (by simp)) (And.intro hc (And.intro hd hds)))
  have HG := Keep.mk (And.intro g0 (show w.heap.size ≠ cb by omega))
  have e1 : w0.cell? ⟨w.heap.size, 1, none⟩ = some (iv D.kind) := h0.cellv 1 _ rfl
  obtain ⟨X, hX⟩ : ∃ q, plaS C data D = q := ⟨_, rfl⟩
  rw [hX]
  unfold plaS at hX
  clear h0 g0 s0 hk hh hc hd hds hcb
  unfold hcs Dg.cells at hw0
  unfold hcs Dg.cells
  by_cases k6 : D.kind = 6
  · rw [if_pos k6] at hX
    subst hX
    have q2 : (D.kind == 6) = true := by simp [k6]
    clear k6
    go_enter Tryz.func168, Tryz.ntmps168
    go_wp2_with (first
      | (with_reducible show wpList _ _ _ ({ dst := _, op := Op.load 93 _, type := _, pos := _, after := _, guard := _ } :: _) _ _
         refine load_g rfl 93 _ rfl w.heap.size 0 rfl (hcs data D) dh H0.out.range hdh hdr infoH ?_
         simp only [Act.put, List.setIfInBounds_toArray, List.set_cons_zero, List.set_cons_succ]))
    refine (look_c cb C data D w0 HK.out.1 HC.out HK.out.2.1 HK.out.2.2.1 HK.out.2.2.2).mono ?_
    rintro e w2 ⟨rfl, h2, g2⟩
    have H2 := Keep.mk (And.intro h2 ((gr_weak HG.out.1 _).trans g2))
    clear g2 h2
    go_wp2_with fail
    go_ret2
    exact ⟨rfl, H2.out⟩
  rw [if_neg k6] at hX
  have q6 : (D.kind == 6) = false := by simp [k6]
  clear k6
  by_cases k7 : D.kind = 7
  · rw [if_pos k7] at hX
    subst hX
    have q2 : (D.kind == 7) = true := by simp [k7]
    clear k7
    go_enter Tryz.func168, Tryz.ntmps168
    go_wp2_with (first
      | (with_reducible show wpList _ _ _ ({ dst := _, op := Op.load 93 _, type := _, pos := _, after := _, guard := _ } :: _) _ _
         refine load_g rfl 93 _ rfl w.heap.size 0 rfl (hcs data D) dh H0.out.range hdh hdr infoH ?_
         simp only [Act.put, List.setIfInBounds_toArray, List.set_cons_zero, List.set_cons_succ]))
    refine (dismiss_c cb C data D w0 HK.out.1 HC.out HK.out.2.1 HK.out.2.2.1 HK.out.2.2.2).mono ?_
    rintro e w2 ⟨rfl, h2, g2⟩
    have H2 := Keep.mk (And.intro h2 ((gr_weak HG.out.1 _).trans g2))
    clear g2 h2
    go_wp2_with fail
    go_ret2
    exact ⟨rfl, H2.out⟩
  rw [if_neg k7] at hX
  subst hX
  have q7 : (D.kind == 7) = false := by simp [k7]
  clear k7
  go_enter Tryz.func168, Tryz.ntmps168
  go_wp2_with fail
  go_ret2
  exact ⟨rfl, HC.out, gr_weak HG.out.1 _⟩
end Go.Proofs.YtldnpebnpbahjaaGreatDoor.Pk.Sn

namespace Go.Proofs.YtldnpebnpbahjaaGreatDoor.Pk.Sn
open Go Go.RowKit

theorem okd_came {D : Dg} (h : Okd D) : Came D := ⟨h.f, h.n, h.c, h.m, h.s, h.dt⟩
theorem nxt_c (cb : Nat) (C : Cl) (data : ByteArray) (D : Dg) (w : World) (hk : Kc w) (hh : Has w cb C.cs 83) (hc : C.ok) (hd : Came D) (hds : data.size ≤ 281474976710656) :
    Calls Tryz.prog C.st #[pa cb 0, .agg (hcs data D).toArray] w fun e w' => e = .returned (.tuple #[.string (nxtS C data D).1, iv (nxtS C data D).2.1]) ∧ Has w' cb (nxtS C data D).2.2.cs 83 ∧ w.grownBy w' (some cb) := by
  unfold nxtS
  rcases hc.st with h | h | h
  · rw [h, if_neg (by decide), if_neg (by decide)]
    exact silent_c cb C data D w hk hh hc hd hds
  · rw [h, if_pos rfl]
    exact greeted_c cb C data D w hk hh hc hd hds
  · rw [h, if_neg (by decide), if_pos rfl]
    exact playing_c cb C data D w hk hh hc hd hds
set_option maxRecDepth 100000 in
theorem builtHe (s : ByteArray) (D : Dg) : Tryz.prog.built 93 [(0, .string s), (1, .agg D.cells.toArray)] = some (hcs s D).toArray := by
  unfold hcs Dg.cells
  kernel_rfl
theorem ent_st {C : Cl} (h : C.ok) : Enters C.st := by
  rcases h.st with h | h | h
  all_goals (rw [h]; intro a W; kernel_rfl)
set_option maxHeartbeats 8000000 in
set_option maxRecDepth 100000 in
theorem hear_c (cb : Nat) (C : Cl) (data : ByteArray) (w : World) (hk : Kc w) (hh : Has w cb C.cs 83) (hc : C.ok) (hds : data.size ≤ 281474976710656) :
    Calls Tryz.prog 15 #[pa cb 0, .string data] w fun e w' => e = .returned (.tuple #[.string (heaS C data).1, iv (heaS C data).2.1]) ∧ Has w' cb (heaS C data).2.2.cs 83 ∧ w.grownBy w' (some cb) := by
  obtain ⟨du, hdu, hdr⟩ := under26
  obtain ⟨X, hX⟩ : ∃ q, heaS C data = q := ⟨_, rfl⟩
  rw [hX]
  unfold heaS at hX
  have HK := Keep.mk (And.intro hk (And.intro hh (And.intro hc hds)))
  have HDE := Keep.mk (decode_c data w (by omega))
  have HOK : Keep ((dec (sl data)).2 = 0 → Came (dec (sl data)).1) := ⟨fun h => okd_came (dec_back h).2.2.1⟩
  obtain ⟨R, hR⟩ : ∃ q, dec (sl data) = q := ⟨_, rfl⟩
  rw [hR] at hX HDE HOK
  obtain ⟨D, cd⟩ := R
  have HX := Keep.mk hX
  have hcb := hh.lt
  clear hk hh hc hX hR
  go_enter Tryz.func15, Tryz.ntmps15
  go_wp2_with fail
  refine HDE.out.mono ?_
  rintro e w1 ⟨rfl, g1⟩
  unfold dv
  obtain ⟨w2, hw2⟩ : ∃ q, w1.alloc (.cells D.cells.toArray 34) = q := ⟨_, rfl⟩
  obtain ⟨h2, g2, s2⟩ := hasN hw2
  have H2 : Keep (Has w2 w1.heap.size D.cells 34 ∧ Has w2 cb C.cs 83 ∧ w.grownBy w2 none ∧ Kc w2) := ⟨h2, (HK.out.2.1.kept g1 (by simp)).kept g2 (by simp), g1.trans g2, (HK.out.1.kept g1 (by simp)).kept g2 (by simp)⟩
  have e0 := H2.out.1.cellv 0 _ rfl
  have c3 := H2.out.2.1.cellv 3 _ rfl
  unfold Dg.cells at hw2
  clear h2 g2 s2 g1 HDE
  by_cases hz : cd = 0
  rotate_left
  · have q1 : (cd != 0) = true := by simp [hz]
    have hX := HX.out
    rw [if_pos hz] at hX
    subst hX
    clear hz HX
    go_wp2_with fail
    go_ret2
    exact ⟨rfl, H2.out.2.1, gr_weak H2.out.2.2.1 _⟩
  have hX := HX.out
  rw [if_neg (by simp [hz])] at hX
  have HD := Keep.mk (HOK.out hz)
  clear HX HOK
  subst hz
  by_cases k : D.kind = 1 ∨ D.kind = 3 ∨ D.kind = 5
  · rw [if_pos k] at hX
    subst hX
    rcases k with k | k | k
    · have q1 : (D.kind == 1) = true := by simp [k]
      clear k
      go_wp2_with fail
      go_ret2
      exact ⟨rfl, H2.out.2.1, gr_weak H2.out.2.2.1 _⟩
    · have q1 : (D.kind == 1) = false := by simp [k]
      have q3 : (D.kind == 3) = true := by simp [k]
      clear k
      go_wp2_with fail
      go_ret2
      exact ⟨rfl, H2.out.2.1, gr_weak H2.out.2.2.1 _⟩
    · have q1 : (D.kind == 1) = false := by simp [k]
      have q3 : (D.kind == 3) = false := by simp [k]
      have q5 : (D.kind == 5) = true := by simp [k]
      clear k
      go_wp2_with fail
      go_ret2
      exact ⟨rfl, H2.out.2.1, gr_weak H2.out.2.2.1 _⟩
  rw [if_neg k] at hX
  subst hX
  have q1 : (D.kind == 1) = false := by simp; exact fun e => k (.inl e)
  have q3 : (D.kind == 3) = false := by simp; exact fun e => k (.inr (.inl e))
  have q5 : (D.kind == 5) = false := by simp; exact fun e => k (.inr (.inr e))
  clear k
  have HN : Keep (∀ w3 : World, Kc w3 → Has w3 cb C.cs 83 → Calls Tryz.prog C.st #[pa cb 0, .agg (hcs data D).toArray] w3 fun e w' => e = .returned (.tuple #[.string (nxtS C data D).1, iv (nxtS C data D).2.1]) ∧ Has w' cb (nxtS C data D).2.2.cs 83 ∧ w3.grownBy w' (some cb)) := ⟨fun w3 hk hh => nxt_c cb C data D w3 hk hh HK.out.2.2.1 HD.out HK.out.2.2.2⟩
  have HB := Keep.mk (builtHe data D)
  have hen := ent_st HK.out.2.2.1
  have H3 : Keep (Has w2.drew w1.heap.size D.cells 34 ∧ Has w2.drew cb C.cs 83 ∧ w.grownBy w2.drew none ∧ Kc w2.drew) := ⟨H2.out.1.kept (gr_drew _ none) (by simp), H2.out.2.1.kept (gr_drew _ none) (by simp), H2.out.2.2.1.trans (gr_drew _ none), H2.out.2.2.2.kept (gr_drew _ none) (by simp)⟩
  clear H2 HK HD
  go_wp2_with fail
  refine region_Y (S := fun w' => w'.cell? ⟨cb, 3, none⟩ = some (fv C.st)) [8] (by kernel_rfl) ?_
  have hHeld := (gr_drew w2 none).cell c3 (by simp)
  refine wpAnyY_pure (i := 0) (oi := _) (v := ?_) rfl (by kernel_rfl) (by kernel_rfl) (by kernel_rfl) (by kernel_rfl) (fun _ _ _ h => h) (Or.inl ⟨by rfl, ?_⟩) ?_
  rotate_left
  · (intro w hSw; go_simp; first | done | (with_reducible rfl))
  simp only [Act.put, List.getElem_toArray, List.getElem_cons_zero, List.setIfInBounds_toArray, List.set_cons_zero, List.set_cons_succ]
  refine wpAnyY_pure (i := 1) (oi := _) (v := ?_) rfl (by kernel_rfl) (by kernel_rfl) (by kernel_rfl) (by kernel_rfl) (fun _ _ _ h => h) (Or.inl ⟨by rfl, ?_⟩) ?_
  rotate_left
  · (intro w hSw; go_simp; first | done | (with_reducible rfl))
  simp only [Act.put, List.getElem_toArray, List.getElem_cons_succ, List.getElem_cons_zero, List.setIfInBounds_toArray, List.set_cons_zero, List.set_cons_succ]
  refine wpAnyY_pure (i := 2) (oi := _) (v := ?_) rfl (by kernel_rfl) (by kernel_rfl) (by kernel_rfl) (by kernel_rfl) (fun _ _ _ h => h) (Or.inl ⟨by rfl, ?_⟩) ?_
  rotate_left
  · (intro w hSw; go_simp; first | done | (with_reducible rfl))
  simp only [Act.put, List.getElem_toArray, List.getElem_cons_succ, List.getElem_cons_zero, List.setIfInBounds_toArray, List.set_cons_zero, List.set_cons_succ]
  refine wpAnyY_take (i := 3) (oi := _) (v := ?_) rfl (by kernel_rfl) (by kernel_rfl) (by kernel_rfl) (by kernel_rfl) (by kernel_rfl) (fun _ _ _ h => h) (Or.inl ⟨by rfl, ?_⟩) (by assumption) ?_
  rotate_left
  · (intro w hSw; have k := hSw; go_simp; first | done | (with_reducible rfl))
  simp only [Act.put, List.getElem_toArray, List.getElem_cons_succ, List.getElem_cons_zero, List.setIfInBounds_toArray, List.set_cons_zero, List.set_cons_succ]
  refine wpAnyY_pure (i := 4) (oi := _) (v := ?_) rfl (by kernel_rfl) (by kernel_rfl) (by kernel_rfl) (by kernel_rfl) (fun _ _ _ h => h) (Or.inl ⟨by rfl, ?_⟩) ?_
  rotate_left
  · (intro w hSw; go_simp; first | done | (with_reducible rfl))
  simp only [Act.put, List.getElem_toArray, List.getElem_cons_succ, List.getElem_cons_zero, List.setIfInBounds_toArray, List.set_cons_zero, List.set_cons_succ]
  refine wpAnyY_pure (i := 5) (oi := _) (v := ?_) rfl (by kernel_rfl) (by kernel_rfl) (by kernel_rfl) (by kernel_rfl) (fun _ _ _ h => h) (Or.inl ⟨by rfl, ?_⟩) ?_
  rotate_left
  · (intro w hSw; go_simp; first | done | (with_reducible rfl))
  simp only [Act.put, List.getElem_toArray, List.getElem_cons_succ, List.getElem_cons_zero, List.setIfInBounds_toArray, List.set_cons_zero, List.set_cons_succ]
  refine wpAnyY_one (i := 6) (by kernel_rfl) rfl (fun K hK => ?_)
  rw [if_pos (show Region.wanted _ _ = true from rfl)]
  refine wp_load_mid 34 _ rfl w1.heap.size 0 rfl D.cells du H3.out.1.range hdu hdr info26 ?_
  refine hK.out _ _ (fun h => h) ?_
  clear hK K
  simp only [Act.put, List.getElem_toArray, List.getElem_cons_succ, List.getElem_cons_zero, List.setIfInBounds_toArray, List.set_cons_zero, List.set_cons_succ]
  refine wpAnyY_pure (i := 7) (oi := _) (v := .agg (hcs data D).toArray) rfl (by kernel_rfl) (by kernel_rfl) (by kernel_rfl) (by kernel_rfl) (fun _ _ _ h => h) (yieldsIf_build (by rfl) 93 _ rfl _ ((congrArg (Tryz.prog.built 93) (by simp only [List.map_toArray, List.map_cons, List.map_nil]; rfl)).trans HB.out)) ?_
  simp only [Act.put, List.getElem_toArray, List.getElem_cons_succ, List.getElem_cons_zero, List.setIfInBounds_toArray, List.set_cons_zero, List.set_cons_succ]
  refine wpAnyY_late (i := 8) (by kernel_rfl) rfl (by kernel_rfl) (fun K hK => ?_)
  go_simp
  refine (HN.out _ H3.out.2.2.2 H3.out.2.1).mono ?_
  rintro e w3 ⟨rfl, h3, g3⟩
  have H4 := Keep.mk (And.intro h3 ((gr_weak H3.out.2.2.1 (some cb)).trans g3))
  refine hK.out _ _ ?_
  clear hK K h3 g3
  refine wpAnyY_pure (i := 9) (oi := _) (v := ?_) rfl (by kernel_rfl) (by kernel_rfl) (by kernel_rfl) (by kernel_rfl) (fun _ _ _ h => h) (Or.inl ⟨by rfl, ?_⟩) ?_
  rotate_left
  · (intro w hSw; go_simp; first | done | (with_reducible rfl))
  simp only [Act.put, List.getElem_toArray, List.getElem_cons_succ, List.getElem_cons_zero, List.setIfInBounds_toArray, List.set_cons_zero, List.set_cons_succ]
  refine wpAnyY_pure (i := 10) (oi := _) (v := ?_) rfl (by kernel_rfl) (by kernel_rfl) (by kernel_rfl) (by kernel_rfl) (fun _ _ _ h => h) (Or.inl ⟨by rfl, ?_⟩) ?_
  rotate_left
  · (intro w hSw; go_simp; first | done | (with_reducible rfl))
  simp only [Act.put, List.getElem_toArray, List.getElem_cons_succ, List.getElem_cons_zero, List.setIfInBounds_toArray, List.set_cons_zero, List.set_cons_succ]
  refine wpAnyY_one (i := 11) (by kernel_rfl) rfl (fun K hK => ?_)
  go_simp
  refine hK.out _ _ (fun h => h) ?_
  clear hK K
  refine wpAnyY_one (i := 12) (by kernel_rfl) rfl (fun K hK => ?_)
  go_simp
  refine hK.out _ _ (fun h => h) ?_
  clear hK K
  refine wpAnyY_done (by kernel_rfl) ?_ _

  go_wp2_with fail
  go_ret2
  exact ⟨rfl, H4.out⟩
end Go.Proofs.YtldnpebnpbahjaaGreatDoor.Pk.Sn

