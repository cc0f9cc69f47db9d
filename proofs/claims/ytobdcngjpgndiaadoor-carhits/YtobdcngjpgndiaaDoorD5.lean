/- the reference: Bump -/
import Derived.Test.YtobdcngjpgndiaaDoorD2
namespace Go.Proofs.YtobdcngjpgndiaaDoor.Bo
open Go Go.RowKit

set_option maxRecDepth 100000 in
set_option maxHeartbeats 32000000 in
theorem rbump_c (w : World) (a b : Cr) (oka : CrOk a) (okb : CrOk b) (hk : Kc w) :
    Calls Tryd.prog 26 #[.agg (crv a).toArray, .agg (crv b).toArray] w fun e w' => e = .returned (.tuple #[.agg (crv (bmA a b)).toArray, .agg (crv (bmB a b)).toArray, .bool (bmp a b)]) ∧ w.grownBy w' none := by
  obtain ⟨du, hdu, hdr⟩ := underC
  have HWI := Keep.mk (fun W (g : w.grownBy W none) => rwithin_c a.x a.y b.x b.y 163840 oka.x oka.y okb.x okb.y W (hk.kept g))
  have S3 := ((((Sep.nil w).newBox (crv a).toArray 32).newBox (crv b).toArray 32).newBox zC14.toArray 32).newBox zC14.toArray 32
  obtain ⟨W1, hW1⟩ : ∃ W1, w.alloc (.cells (crv a).toArray 32) = W1 := ⟨_, rfl⟩
  obtain ⟨ab, hab⟩ : ∃ xb, w.heap.size = xb := ⟨_, rfl⟩
  rw [hW1, hab] at S3
  obtain ⟨W2, hW2⟩ : ∃ W2, W1.alloc (.cells (crv b).toArray 32) = W2 := ⟨_, rfl⟩
  obtain ⟨bb, hbb⟩ : ∃ xb, W1.heap.size = xb := ⟨_, rfl⟩
  rw [hW2, hbb] at S3
  obtain ⟨W3, hW3⟩ : ∃ W3, W2.alloc (.cells zC14.toArray 32) = W3 := ⟨_, rfl⟩
  obtain ⟨ra, hra⟩ : ∃ rb, W2.heap.size = rb := ⟨_, rfl⟩
  rw [hW3, hra] at S3
  obtain ⟨w7, hW4⟩ : ∃ W3', W3.alloc (.cells zC14.toArray 32) = W3' := ⟨_, rfl⟩
  obtain ⟨rb, hrb⟩ : ∃ rb, W3.heap.size = rb := ⟨_, rfl⟩
  rw [hW4, hrb] at S3
  change Sep w w7 [boxA rb zC14 32, boxA ra zC14 32, boxA bb (crv b) 32, boxA ab (crv a) 32] at S3
  have hsa : (crv a).toArray.size = 14 := rfl
  have hsb : (crv b).toArray.size = 14 := rfl
  unfold zC14 crv zC at hW3 hW4
  change W2.alloc _ = W3 at hW3
  change W3.alloc _ = w7 at hW4
  have HB : Keep (Sep w w7 [boxA ab (crv a) 32, boxA bb (crv b) 32, boxA ra zC14 32, boxA rb zC14 32]) := ⟨S3.perm (List.reverse_perm [boxA ab (crv a) 32, boxA bb (crv b) 32, boxA ra zC14 32, boxA rb zC14 32])⟩
  have qa11 : w7.cell? ⟨ab, 11, none⟩ = some (iv a.wa) := (HB.out.boxGet k0m).cellv 11 _ rfl
  have qb11 : w7.cell? ⟨bb, 11, none⟩ = some (iv b.wa) := (HB.out.boxGet k1m).cellv 11 _ rfl
  clear S3 oka okb hk
  by_cases ha : 0 < a.wa
  · have HN := Keep.mk (bmp_a (b := b) ha)
    have hd1 : decide (0 < a.wa) = true := decide_eq_true ha
    clear HWI
    go_enter Tryd.func26, Tryd.ntmps26
    go_wp2_with fail
    have HLA := Keep.mk (crv_one a)
    have HLB := Keep.mk (crv_one b)
    have HF0 : Keep (Sep w _ [boxA ra zC14 32, boxA rb zC14 32, boxA ab (crv a) 32, boxA bb (crv b) 32]) := ⟨HB.out.perm (List.perm_append_comm (l₁ := [boxA ab (crv a) 32, boxA bb (crv b) 32]) (l₂ := [boxA ra zC14 32, boxA rb zC14 32]))⟩
    have HF := Keep.mk (HF0.out.grown (gr_drew _ none))
    clear HF0 HB
    refine region_X (S := fun w' => Sep w w' [boxA ab (crv a) 32, boxA bb (crv b) 32]) [] (by kernel_rfl) (HF.out.tail.tail) (fun hHeld => ?_)
    refine wpAnyX_take (i := 0) (oi := _) (v := _) rfl (by kernel_rfl) (by kernel_rfl) (by kernel_rfl) (by kernel_rfl) (by kernel_rfl) (fun _ _ _ h => h) (yieldsIf_load_mid (by rfl) 32 _ rfl _ _ rfl _ _ (fun w_ hS_ => (hS_.boxGet k0m).range) hdu hdr (infoC' a)) (by assumption) ?_
    simp only [Act.put, List.getElem_toArray, List.getElem_cons_zero, List.setIfInBounds_toArray, List.set_cons_zero, List.set_cons_succ]
    refine wpAnyX_take (i := 1) (oi := _) (v := _) rfl (by kernel_rfl) (by kernel_rfl) (by kernel_rfl) (by kernel_rfl) (by kernel_rfl) (fun _ _ _ h => h) (yieldsIf_load_mid (by rfl) 32 _ rfl _ _ rfl _ _ (fun w_ hS_ => (hS_.boxGet k1m).range) hdu hdr (infoC' b)) (by assumption) ?_
    simp only [Act.put, List.getElem_toArray, List.getElem_cons_succ, List.getElem_cons_zero, List.setIfInBounds_toArray, List.set_cons_zero, List.set_cons_succ]
    refine wpAnyX_one (i := 2) (by kernel_rfl) rfl (fun K hK => ?_)
    rw [if_pos (show Region.wanted _ _ = true from rfl)]
    refine wp_store_mid 32 _ _ rfl ra 0 (crv a).toArray rfl rfl ((HF.out.boxGet k0m).there 0 14 (Nat.le_refl _)) infoC (all_oneCell_toArray HLA.out) ?_
    have S8 := HF.out.boxTurn ((HF.out.boxGet k0m).setCells (crv a) 0) (gr_sets _ _ _ _)
    rw [over_all zC14 (crv a) rfl] at S8
    refine hK.out _ _ S8.tail.tail (fun hHeld => ?_)
    replace HF := Keep.mk S8
    clear hK K S8
    change Keep (Sep w (World.setCells (World.drew w7) ra 0 (crv a).toArray.toList) _) at HF
    generalize World.setCells (World.drew w7) ra 0 (crv a).toArray.toList = w9 at HF hHeld ⊢
    simp only [Act.put, List.getElem_toArray, List.getElem_cons_succ, List.getElem_cons_zero]
    refine wpAnyX_one (i := 3) (by kernel_rfl) rfl (fun K hK => ?_)
    rw [if_pos (show Region.wanted _ _ = true from rfl)]
    refine wp_store_mid 32 _ _ rfl rb 0 (crv b).toArray rfl rfl ((HF.out.boxGet k1m).there 0 14 (Nat.le_refl _)) infoC (all_oneCell_toArray HLB.out) ?_
    have S8 := (HF.out.swap.boxTurn ((HF.out.boxGet k1m).setCells (crv b) 0) (gr_sets _ _ _ _)).swap
    rw [over_all zC14 (crv b) rfl] at S8
    refine hK.out _ _ S8.tail.tail (fun hHeld => ?_)
    replace HF := Keep.mk S8
    clear hK K S8
    change Keep (Sep w (World.setCells w9 rb 0 (crv b).toArray.toList) _) at HF
    generalize World.setCells w9 rb 0 (crv b).toArray.toList = w10 at HF hHeld ⊢
    simp only [Act.put, List.getElem_toArray, List.getElem_cons_succ, List.getElem_cons_zero]
    refine wpAnyX_take (i := 4) (oi := _) (v := ?_) rfl (by kernel_rfl) (by kernel_rfl) (by kernel_rfl) (by kernel_rfl) (by kernel_rfl) (fun _ _ _ h => h) (Or.inl ⟨by rfl, ?_⟩) (by assumption) ?_
    rotate_left
    · (intro w hSw; go_simp; first | done | (with_reducible rfl))
    simp only [Act.put, List.getElem_toArray, List.getElem_cons_succ, List.getElem_cons_zero, List.setIfInBounds_toArray, List.set_cons_zero, List.set_cons_succ]
    refine wpAnyX_done (by kernel_rfl) ?_ _
    go_wp2_with fail
    refine ret_cct rfl rfl rfl (HF.out.boxGet k0m) (HF.out.boxGet k1m) hdu hdr (infoC' a) (infoC' b) rfl ⟨?_, HF.out.g⟩
    rw [(bm_no HN.out).1, (bm_no HN.out).2, HN.out]
    rfl
  have HA := Keep.mk ha
  have hd1 : decide (0 < a.wa) = false := decide_eq_false ha
  by_cases hb : 0 < b.wa
  · have HN := Keep.mk (bmp_b (a := a) hb)
    have hd2 : decide (0 < b.wa) = true := decide_eq_true hb
    clear HWI
    go_enter Tryd.func26, Tryd.ntmps26
    go_wp2_with fail
    have HLA := Keep.mk (crv_one a)
    have HLB := Keep.mk (crv_one b)
    have HF0 : Keep (Sep w _ [boxA ra zC14 32, boxA rb zC14 32, boxA ab (crv a) 32, boxA bb (crv b) 32]) := ⟨HB.out.perm (List.perm_append_comm (l₁ := [boxA ab (crv a) 32, boxA bb (crv b) 32]) (l₂ := [boxA ra zC14 32, boxA rb zC14 32]))⟩
    have HF := Keep.mk (HF0.out.grown (gr_drew _ none))
    clear HF0 HB
    refine region_X (S := fun w' => Sep w w' [boxA ab (crv a) 32, boxA bb (crv b) 32]) [] (by kernel_rfl) (HF.out.tail.tail) (fun hHeld => ?_)
    refine wpAnyX_take (i := 0) (oi := _) (v := _) rfl (by kernel_rfl) (by kernel_rfl) (by kernel_rfl) (by kernel_rfl) (by kernel_rfl) (fun _ _ _ h => h) (yieldsIf_load_mid (by rfl) 32 _ rfl _ _ rfl _ _ (fun w_ hS_ => (hS_.boxGet k0m).range) hdu hdr (infoC' a)) (by assumption) ?_
    simp only [Act.put, List.getElem_toArray, List.getElem_cons_zero, List.setIfInBounds_toArray, List.set_cons_zero, List.set_cons_succ]
    refine wpAnyX_take (i := 1) (oi := _) (v := _) rfl (by kernel_rfl) (by kernel_rfl) (by kernel_rfl) (by kernel_rfl) (by kernel_rfl) (fun _ _ _ h => h) (yieldsIf_load_mid (by rfl) 32 _ rfl _ _ rfl _ _ (fun w_ hS_ => (hS_.boxGet k1m).range) hdu hdr (infoC' b)) (by assumption) ?_
    simp only [Act.put, List.getElem_toArray, List.getElem_cons_succ, List.getElem_cons_zero, List.setIfInBounds_toArray, List.set_cons_zero, List.set_cons_succ]
    refine wpAnyX_one (i := 2) (by kernel_rfl) rfl (fun K hK => ?_)
    rw [if_pos (show Region.wanted _ _ = true from rfl)]
    refine wp_store_mid 32 _ _ rfl ra 0 (crv a).toArray rfl rfl ((HF.out.boxGet k0m).there 0 14 (Nat.le_refl _)) infoC (all_oneCell_toArray HLA.out) ?_
    have S8 := HF.out.boxTurn ((HF.out.boxGet k0m).setCells (crv a) 0) (gr_sets _ _ _ _)
    rw [over_all zC14 (crv a) rfl] at S8
    refine hK.out _ _ S8.tail.tail (fun hHeld => ?_)
    replace HF := Keep.mk S8
    clear hK K S8
    change Keep (Sep w (World.setCells (World.drew w7) ra 0 (crv a).toArray.toList) _) at HF
    generalize World.setCells (World.drew w7) ra 0 (crv a).toArray.toList = w9 at HF hHeld ⊢
    simp only [Act.put, List.getElem_toArray, List.getElem_cons_succ, List.getElem_cons_zero]
    refine wpAnyX_one (i := 3) (by kernel_rfl) rfl (fun K hK => ?_)
    rw [if_pos (show Region.wanted _ _ = true from rfl)]
    refine wp_store_mid 32 _ _ rfl rb 0 (crv b).toArray rfl rfl ((HF.out.boxGet k1m).there 0 14 (Nat.le_refl _)) infoC (all_oneCell_toArray HLB.out) ?_
    have S8 := (HF.out.swap.boxTurn ((HF.out.boxGet k1m).setCells (crv b) 0) (gr_sets _ _ _ _)).swap
    rw [over_all zC14 (crv b) rfl] at S8
    refine hK.out _ _ S8.tail.tail (fun hHeld => ?_)
    replace HF := Keep.mk S8
    clear hK K S8
    change Keep (Sep w (World.setCells w9 rb 0 (crv b).toArray.toList) _) at HF
    generalize World.setCells w9 rb 0 (crv b).toArray.toList = w10 at HF hHeld ⊢
    simp only [Act.put, List.getElem_toArray, List.getElem_cons_succ, List.getElem_cons_zero]
    refine wpAnyX_take (i := 4) (oi := _) (v := ?_) rfl (by kernel_rfl) (by kernel_rfl) (by kernel_rfl) (by kernel_rfl) (by kernel_rfl) (fun _ _ _ h => h) (Or.inl ⟨by rfl, ?_⟩) (by assumption) ?_
    rotate_left
    · (intro w hSw; go_simp; first | done | (with_reducible rfl))
    simp only [Act.put, List.getElem_toArray, List.getElem_cons_succ, List.getElem_cons_zero, List.setIfInBounds_toArray, List.set_cons_zero, List.set_cons_succ]
    refine wpAnyX_done (by kernel_rfl) ?_ _
    go_wp2_with fail
    refine ret_cct rfl rfl rfl (HF.out.boxGet k0m) (HF.out.boxGet k1m) hdu hdr (infoC' a) (infoC' b) rfl ⟨?_, HF.out.g⟩
    rw [(bm_no HN.out).1, (bm_no HN.out).2, HN.out]
    rfl
  have hd2 : decide (0 < b.wa) = false := decide_eq_false hb
  have qa2 : w7.cell? ⟨ab, 2, none⟩ = some (iv a.x) := (HB.out.boxGet k0m).cellv 2 _ rfl
  have qa3 : w7.cell? ⟨ab, 3, none⟩ = some (iv a.y) := (HB.out.boxGet k0m).cellv 3 _ rfl
  have qb2 : w7.cell? ⟨bb, 2, none⟩ = some (iv b.x) := (HB.out.boxGet k1m).cellv 2 _ rfl
  have qb3 : w7.cell? ⟨bb, 3, none⟩ = some (iv b.y) := (HB.out.boxGet k1m).cellv 3 _ rfl
  have hWI := HWI.out w7 HB.out.g
  have HBM := Keep.mk (bmp_yes ha hb)
  clear HWI
  generalize wn (d2 a.x a.y b.x b.y) 163840 = r at hWI HBM
  cases r
  · have HN := Keep.mk HBM.out
    go_enter Tryd.func26, Tryd.ntmps26
    go_wp2_with fail
    refine hWI.mono ?_
    rintro e w8 ⟨rfl, g_⟩
    replace HB := Keep.mk (HB.out.grown g_)
    clear g_ hWI qa2 qa3 qb2 qb3 qa11 qb11 hW1 hW2 hW3 hW4
    go_wp2_with fail
    have HLA := Keep.mk (crv_one a)
    have HLB := Keep.mk (crv_one b)
    have HF0 : Keep (Sep w _ [boxA ra zC14 32, boxA rb zC14 32, boxA ab (crv a) 32, boxA bb (crv b) 32]) := ⟨HB.out.perm (List.perm_append_comm (l₁ := [boxA ab (crv a) 32, boxA bb (crv b) 32]) (l₂ := [boxA ra zC14 32, boxA rb zC14 32]))⟩
    have HF := Keep.mk (HF0.out.grown (gr_drew _ none))
    clear HF0 HB
    refine region_X (S := fun w' => Sep w w' [boxA ab (crv a) 32, boxA bb (crv b) 32]) [] (by kernel_rfl) (HF.out.tail.tail) (fun hHeld => ?_)
    refine wpAnyX_take (i := 0) (oi := _) (v := _) rfl (by kernel_rfl) (by kernel_rfl) (by kernel_rfl) (by kernel_rfl) (by kernel_rfl) (fun _ _ _ h => h) (yieldsIf_load_mid (by rfl) 32 _ rfl _ _ rfl _ _ (fun w_ hS_ => (hS_.boxGet k0m).range) hdu hdr (infoC' a)) (by assumption) ?_
    simp only [Act.put, List.getElem_toArray, List.getElem_cons_zero, List.setIfInBounds_toArray, List.set_cons_zero, List.set_cons_succ]
    refine wpAnyX_take (i := 1) (oi := _) (v := _) rfl (by kernel_rfl) (by kernel_rfl) (by kernel_rfl) (by kernel_rfl) (by kernel_rfl) (fun _ _ _ h => h) (yieldsIf_load_mid (by rfl) 32 _ rfl _ _ rfl _ _ (fun w_ hS_ => (hS_.boxGet k1m).range) hdu hdr (infoC' b)) (by assumption) ?_
    simp only [Act.put, List.getElem_toArray, List.getElem_cons_succ, List.getElem_cons_zero, List.setIfInBounds_toArray, List.set_cons_zero, List.set_cons_succ]
    refine wpAnyX_one (i := 2) (by kernel_rfl) rfl (fun K hK => ?_)
    rw [if_pos (show Region.wanted _ _ = true from rfl)]
    refine wp_store_mid 32 _ _ rfl ra 0 (crv a).toArray rfl rfl ((HF.out.boxGet k0m).there 0 14 (Nat.le_refl _)) infoC (all_oneCell_toArray HLA.out) ?_
    have S8 := HF.out.boxTurn ((HF.out.boxGet k0m).setCells (crv a) 0) (gr_sets _ _ _ _)
    rw [over_all zC14 (crv a) rfl] at S8
    refine hK.out _ _ S8.tail.tail (fun hHeld => ?_)
    replace HF := Keep.mk S8
    clear hK K S8
    change Keep (Sep w (World.setCells (World.drew w8) ra 0 (crv a).toArray.toList) _) at HF
    generalize World.setCells (World.drew w8) ra 0 (crv a).toArray.toList = w9 at HF hHeld ⊢
    simp only [Act.put, List.getElem_toArray, List.getElem_cons_succ, List.getElem_cons_zero]
    refine wpAnyX_one (i := 3) (by kernel_rfl) rfl (fun K hK => ?_)
    rw [if_pos (show Region.wanted _ _ = true from rfl)]
    refine wp_store_mid 32 _ _ rfl rb 0 (crv b).toArray rfl rfl ((HF.out.boxGet k1m).there 0 14 (Nat.le_refl _)) infoC (all_oneCell_toArray HLB.out) ?_
    have S8 := (HF.out.swap.boxTurn ((HF.out.boxGet k1m).setCells (crv b) 0) (gr_sets _ _ _ _)).swap
    rw [over_all zC14 (crv b) rfl] at S8
    refine hK.out _ _ S8.tail.tail (fun hHeld => ?_)
    replace HF := Keep.mk S8
    clear hK K S8
    change Keep (Sep w (World.setCells w9 rb 0 (crv b).toArray.toList) _) at HF
    generalize World.setCells w9 rb 0 (crv b).toArray.toList = w10 at HF hHeld ⊢
    simp only [Act.put, List.getElem_toArray, List.getElem_cons_succ, List.getElem_cons_zero]
    refine wpAnyX_take (i := 4) (oi := _) (v := ?_) rfl (by kernel_rfl) (by kernel_rfl) (by kernel_rfl) (by kernel_rfl) (by kernel_rfl) (fun _ _ _ h => h) (Or.inl ⟨by rfl, ?_⟩) (by assumption) ?_
    rotate_left
    · (intro w hSw; go_simp; first | done | (with_reducible rfl))
    simp only [Act.put, List.getElem_toArray, List.getElem_cons_succ, List.getElem_cons_zero, List.setIfInBounds_toArray, List.set_cons_zero, List.set_cons_succ]
    refine wpAnyX_done (by kernel_rfl) ?_ _
    go_wp2_with fail
    refine ret_cct rfl rfl rfl (HF.out.boxGet k0m) (HF.out.boxGet k1m) hdu hdr (infoC' a) (infoC' b) rfl ⟨?_, HF.out.g⟩
    rw [(bm_no HN.out).1, (bm_no HN.out).2, HN.out]
    rfl
  · have HY := Keep.mk HBM.out
    go_enter Tryd.func26, Tryd.ntmps26
    go_wp2_with fail
    refine hWI.mono ?_
    rintro e w8 ⟨rfl, g_⟩
    replace HB := Keep.mk (HB.out.grown g_)
    clear g_ hWI qa2 qa3 qb2 qb3 qa11 qb11 hW1 hW2 hW3 hW4
    have pa4 : w8.cell? ⟨ab, 4, none⟩ = some (iv a.sx) := (HB.out.boxGet k0m).cellv 4 _ rfl
    have pa5 : w8.cell? ⟨ab, 5, none⟩ = some (iv a.sy) := (HB.out.boxGet k0m).cellv 5 _ rfl
    have S0 := HB.out.newBox #[iv a.sx, iv a.sy] 30
    obtain ⟨v0, hv0⟩ : ∃ v0, w8.alloc (.cells #[iv a.sx, iv a.sy] 30) = v0 := ⟨_, rfl⟩
    obtain ⟨tb, htb⟩ : ∃ tb, w8.heap.size = tb := ⟨_, rfl⟩
    rw [hv0, htb] at S0
    have S0' : Sep w v0 (boxA ab (crv a) 32 :: boxA tb [iv a.sx, iv a.sy] 30 :: [boxA bb (crv b) 32, boxA ra zC14 32, boxA rb zC14 32]) := S0.swap
    have qa4 : v0.cell? ⟨ab, 4, none⟩ = some (iv a.sx) := (S0'.boxGet k0m).cellv 4 _ rfl
    have qa5 : v0.cell? ⟨ab, 5, none⟩ = some (iv a.sy) := (S0'.boxGet k0m).cellv 5 _ rfl
    have qb4 : v0.cell? ⟨bb, 4, none⟩ = some (iv b.sx) := (S0'.boxGet k2m).cellv 4 _ rfl
    have qb5 : v0.cell? ⟨bb, 5, none⟩ = some (iv b.sy) := (S0'.boxGet k2m).cellv 5 _ rfl
    have fa4 : v0.frozen? ⟨ab, 4, none⟩ = false := (S0'.boxGet k0m).frozen 4
    have fa5 : v0.frozen? ⟨ab, 5, none⟩ = false := (S0'.boxGet k0m).frozen 5
    have S1 := S0'.boxPut 4 (iv b.sx)
    obtain ⟨v1, hv1⟩ : ∃ v1, v0.setCell ⟨ab, 4, none⟩ (iv b.sx) = v1 := ⟨_, rfl⟩
    rw [hv1] at S1
    have ra5 : v1.cell? ⟨ab, 5, none⟩ = some (iv a.sy) := (S1.boxGet k0m).cellv 5 _ rfl
    have ga5 : v1.frozen? ⟨ab, 5, none⟩ = false := (S1.boxGet k0m).frozen 5
    have S2 := S1.boxPut 5 (iv b.sy)
    obtain ⟨v2, hv2⟩ : ∃ v2, v1.setCell ⟨ab, 5, none⟩ (iv b.sy) = v2 := ⟨_, rfl⟩
    rw [hv2] at S2
    have tb0 : v2.cell? ⟨tb, 0, none⟩ = some (iv a.sx) := (S2.boxGet k1m).cellv 0 _ rfl
    have tb1 : v2.cell? ⟨tb, 1, none⟩ = some (iv a.sy) := (S2.boxGet k1m).cellv 1 _ rfl
    have rb4 : v2.cell? ⟨bb, 4, none⟩ = some (iv b.sx) := (S2.boxGet k2m).cellv 4 _ rfl
    have gb4 : v2.frozen? ⟨bb, 4, none⟩ = false := (S2.boxGet k2m).frozen 4
    have rb5' : v2.cell? ⟨bb, 5, none⟩ = some (iv b.sy) := (S2.boxGet k2m).cellv 5 _ rfl
    have gb5' : v2.frozen? ⟨bb, 5, none⟩ = false := (S2.boxGet k2m).frozen 5
    have S3 := S2.third.boxPut 4 (iv a.sx)
    obtain ⟨v3, hv3⟩ : ∃ v3, v2.setCell ⟨bb, 4, none⟩ (iv a.sx) = v3 := ⟨_, rfl⟩
    rw [hv3] at S3
    have rb5 : v3.cell? ⟨bb, 5, none⟩ = some (iv b.sy) := (S3.boxGet k0m).cellv 5 _ rfl
    have gb5 : v3.frozen? ⟨bb, 5, none⟩ = false := (S3.boxGet k0m).frozen 5
    have S4 := S3.boxPut 5 (iv a.sy)
    obtain ⟨v4, hv4⟩ : ∃ v4, v3.setCell ⟨bb, 5, none⟩ (iv a.sy) = v4 := ⟨_, rfl⟩
    rw [hv4] at S4
    have S5 : Sep w v4 [boxA ab (crv { a with sx := b.sx, sy := b.sy }) 32, boxA bb (crv { b with sx := a.sx, sy := a.sy }) 32, boxA ra zC14 32, boxA rb zC14 32] := S4.third.tail.swap
    obtain ⟨a2, ha2⟩ : ∃ a2 : Cr, ({ a with sx := b.sx, sy := b.sy } : Cr) = a2 := ⟨_, rfl⟩
    obtain ⟨b2, hb2⟩ : ∃ b2 : Cr, ({ b with sx := a.sx, sy := a.sy } : Cr) = b2 := ⟨_, rfl⟩
    rw [ha2, hb2] at S5
    have HE := Keep.mk (bm_yes HY.out)
    rw [ha2, hb2] at HE
    replace HB := Keep.mk S5
    clear S0 S0' S1 S2 S3 S4 S5 ha2 hb2
    go_wp2_with fail
    have HLA := Keep.mk (crv_one a2)
    have HLB := Keep.mk (crv_one b2)
    have HF0 : Keep (Sep w _ [boxA ra zC14 32, boxA rb zC14 32, boxA ab (crv a2) 32, boxA bb (crv b2) 32]) := ⟨HB.out.perm (List.perm_append_comm (l₁ := [boxA ab (crv a2) 32, boxA bb (crv b2) 32]) (l₂ := [boxA ra zC14 32, boxA rb zC14 32]))⟩
    have HF := Keep.mk (HF0.out.grown (gr_drew _ none))
    clear HF0 HB
    refine region_X (S := fun w' => Sep w w' [boxA ab (crv a2) 32, boxA bb (crv b2) 32]) [] (by kernel_rfl) (HF.out.tail.tail) (fun hHeld => ?_)
    refine wpAnyX_take (i := 0) (oi := _) (v := _) rfl (by kernel_rfl) (by kernel_rfl) (by kernel_rfl) (by kernel_rfl) (by kernel_rfl) (fun _ _ _ h => h) (yieldsIf_load_mid (by rfl) 32 _ rfl _ _ rfl _ _ (fun w_ hS_ => (hS_.boxGet k0m).range) hdu hdr (infoC' a2)) (by assumption) ?_
    simp only [Act.put, List.getElem_toArray, List.getElem_cons_zero, List.setIfInBounds_toArray, List.set_cons_zero, List.set_cons_succ]
    refine wpAnyX_take (i := 1) (oi := _) (v := _) rfl (by kernel_rfl) (by kernel_rfl) (by kernel_rfl) (by kernel_rfl) (by kernel_rfl) (fun _ _ _ h => h) (yieldsIf_load_mid (by rfl) 32 _ rfl _ _ rfl _ _ (fun w_ hS_ => (hS_.boxGet k1m).range) hdu hdr (infoC' b2)) (by assumption) ?_
    simp only [Act.put, List.getElem_toArray, List.getElem_cons_succ, List.getElem_cons_zero, List.setIfInBounds_toArray, List.set_cons_zero, List.set_cons_succ]
    refine wpAnyX_one (i := 2) (by kernel_rfl) rfl (fun K hK => ?_)
    rw [if_pos (show Region.wanted _ _ = true from rfl)]
    refine wp_store_mid 32 _ _ rfl ra 0 (crv a2).toArray rfl rfl ((HF.out.boxGet k0m).there 0 14 (Nat.le_refl _)) infoC (all_oneCell_toArray HLA.out) ?_
    have S8 := HF.out.boxTurn ((HF.out.boxGet k0m).setCells (crv a2) 0) (gr_sets _ _ _ _)
    rw [over_all zC14 (crv a2) rfl] at S8
    refine hK.out _ _ S8.tail.tail (fun hHeld => ?_)
    replace HF := Keep.mk S8
    clear hK K S8
    change Keep (Sep w (World.setCells (World.drew v4) ra 0 (crv a2).toArray.toList) _) at HF
    generalize World.setCells (World.drew v4) ra 0 (crv a2).toArray.toList = w9 at HF hHeld ⊢
    simp only [Act.put, List.getElem_toArray, List.getElem_cons_succ, List.getElem_cons_zero]
    refine wpAnyX_one (i := 3) (by kernel_rfl) rfl (fun K hK => ?_)
    rw [if_pos (show Region.wanted _ _ = true from rfl)]
    refine wp_store_mid 32 _ _ rfl rb 0 (crv b2).toArray rfl rfl ((HF.out.boxGet k1m).there 0 14 (Nat.le_refl _)) infoC (all_oneCell_toArray HLB.out) ?_
    have S8 := (HF.out.swap.boxTurn ((HF.out.boxGet k1m).setCells (crv b2) 0) (gr_sets _ _ _ _)).swap
    rw [over_all zC14 (crv b2) rfl] at S8
    refine hK.out _ _ S8.tail.tail (fun hHeld => ?_)
    replace HF := Keep.mk S8
    clear hK K S8
    change Keep (Sep w (World.setCells w9 rb 0 (crv b2).toArray.toList) _) at HF
    generalize World.setCells w9 rb 0 (crv b2).toArray.toList = w10 at HF hHeld ⊢
    simp only [Act.put, List.getElem_toArray, List.getElem_cons_succ, List.getElem_cons_zero]
    refine wpAnyX_take (i := 4) (oi := _) (v := ?_) rfl (by kernel_rfl) (by kernel_rfl) (by kernel_rfl) (by kernel_rfl) (by kernel_rfl) (fun _ _ _ h => h) (Or.inl ⟨by rfl, ?_⟩) (by assumption) ?_
    rotate_left
    · (intro w hSw; go_simp; first | done | (with_reducible rfl))
    simp only [Act.put, List.getElem_toArray, List.getElem_cons_succ, List.getElem_cons_zero, List.setIfInBounds_toArray, List.set_cons_zero, List.set_cons_succ]
    refine wpAnyX_done (by kernel_rfl) ?_ _
    go_wp2_with fail
    refine ret_cct rfl rfl rfl (HF.out.boxGet k0m) (HF.out.boxGet k1m) hdu hdr (infoC' a2) (infoC' b2) rfl ⟨?_, HF.out.g⟩
    rw [HE.out.1, HE.out.2, HY.out]
    rfl
end Go.Proofs.YtobdcngjpgndiaaDoor.Bo
