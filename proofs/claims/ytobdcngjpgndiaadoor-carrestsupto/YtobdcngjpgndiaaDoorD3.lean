/- the reference: New, Come -/
import Derived.Test.YtobdcngjpgndiaaDoorD2
import Derived.Test.YtobdcngjpgndiaaDoorBRA3
namespace Go.Proofs.YtobdcngjpgndiaaDoor.Bo
open Go Go.RowKit

set_option maxRecDepth 100000 in
set_option maxHeartbeats 4000000 in
theorem rspawn_c (w : World) (v : Value) (L : Bo) (h : RB w v L) (hs : spn L ≠ []) (n : Int) : Calls Tryd.prog 69 #[v, iv n] w fun e w' => e = .returned (vv (spw L n).1 (spw L n).2) ∧ w.grownBy w' none := by
  obtain ⟨du, hdu, hdr⟩ := underT32
  have hget := spw_get L hs n
  have S1 := (Sep.nil w).newBox #[iv 0, iv 0] 30
  obtain ⟨W1, hW1⟩ : ∃ W1, w.alloc (.cells #[iv 0, iv 0] 30) = W1 := ⟨_, rfl⟩
  obtain ⟨rb, hrb⟩ : ∃ rb, w.heap.size = rb := ⟨_, rfl⟩
  rw [hW1, hrb] at S1
  have hT := rspawns_c W1 v L (h.kept S1.g)
  have HS1 := Keep.mk S1
  have h0 : 0 < (spn L).length := List.length_pos_iff.2 hs
  have h4 := spn_len h.sh
  obtain ⟨A, hA⟩ : ∃ A, spn L = A := ⟨_, rfl⟩
  rw [hA] at hget hT h0 h4
  obtain ⟨p, hp⟩ : ∃ p, spw L n = p := ⟨_, rfl⟩
  rw [hp] at hget ⊢
  obtain ⟨m, hm⟩ : ∃ m, A.length = m := ⟨_, rfl⟩
  rw [hm] at hget h0 h4
  obtain ⟨t, ht⟩ : ∃ t, n.tmod (m : Int) = t := ⟨_, rfl⟩
  obtain ⟨e1, e2, e3, e4⟩ := tm_em n m t (by omega) ht
  obtain ⟨kk, hkk⟩ : ∃ kk, (n % (m : Int)).toNat = kk := ⟨_, rfl⟩
  rw [hkk] at hget
  have hq := vcs_get hget
  have hem := Int.emod_nonneg n (show (m : Int) ≠ 0 by omega)
  have hlm := Int.emod_lt_of_pos n (show (0 : Int) < (m : Int) by omega)
  have hkm : kk < m := by omega
  have d1 : t < 0 → IntKind.i64.wrap (t + m) = (kk : Int) := fun q => by
    rw [wi _ (by omega) (by omega)]
    have := e1 q
    omega
  have d2 : 0 ≤ t → t = (kk : Int) := fun q => by
    have := e2 q
    omega
  have hne : (m : Int) ≠ 0 := by omega
  have HM := Keep.mk hm
  have HQ := Keep.mk hq
  clear S1 h hs hA hp hget hm hq e1 e2 hkk hem hlm
  go_enter Tryd.func69, Tryd.ntmps69
  go_wp2_with fail
  refine hT.mono ?_
  rintro e w2 ⟨u, rfl, S2'⟩
  have S2 := HS1.out.ovr S2'
  obtain ⟨g, cap, hu, hc⟩ := own_any S2'.rowLo (by rw [HM.out]; exact h0)
  rw [HM.out] at hu
  subst hu
  have q0 : w2.cell? ⟨g, kk * 2, none⟩ = some (iv p.1) := (hc _ _ HQ.out.1).1
  have q1 : w2.cell? ⟨g, kk * 2 + 1, none⟩ = some (iv p.2) := (hc _ _ HQ.out.2).1
  have S3 : Sep w w2 (boxA rb [iv 0, iv 0] 30 :: [vrow (.slice (some ⟨g, 0, none⟩) m cap) A]) := S2.swap
  have y0 : w2.cell? ⟨rb, 0, none⟩ = some (iv 0) := (S3.boxGet k0m).cellv 0 _ rfl
  have y1 : w2.cell? ⟨rb, 1, none⟩ = some (iv 0) := (S3.boxGet k0m).cellv 1 _ rfl
  have f0 : w2.frozen? ⟨rb, 0, none⟩ = false := (S3.boxGet k0m).frozen 0
  have f1 : w2.frozen? ⟨rb, 1, none⟩ = false := (S3.boxGet k0m).frozen 1
  have S4 := S3.boxPut 0 (iv p.1)
  obtain ⟨w3, hw3⟩ : ∃ w3, w2.setCell ⟨rb, 0, none⟩ (iv p.1) = w3 := ⟨_, rfl⟩
  rw [hw3] at S4
  have z1 : w3.cell? ⟨rb, 1, none⟩ = some (iv 0) := (S4.boxGet k0m).cellv 1 _ rfl
  have g1 : w3.frozen? ⟨rb, 1, none⟩ = false := (S4.boxGet k0m).frozen 1
  have S5 := S4.boxPut 1 (iv p.2)
  have HS5 : Keep (Sep w (w3.setCell ⟨rb, 1, none⟩ (iv p.2)) (boxA rb [iv p.1, iv p.2] 30 :: [vrow (.slice (some ⟨g, 0, none⟩) m cap) A])) := ⟨S5⟩
  have hki : ((kk : Nat) : Int).toNat = kk := by omega
  have hkl : (kk : Int) < (m : Int) := by omega
  clear S2 S2' S3 S4 S5 hc HS1 hT HQ
  have wt : IntKind.i64.wrap t = t := wi _ (by omega) (by omega)
  by_cases hneg : t < 0
  · have d := d1 hneg
    have hdc : decide (t < 0) = true := decide_eq_true hneg
    clear d1 d2
    go_wp2_with fail
    exact ret_c rfl rfl (HS5.out.boxGet k0m) hdu hdr infoT32 rfl ⟨rfl, HS5.out.g⟩
  · have d := d2 (by omega)
    have hdc : decide (t < 0) = false := decide_eq_false hneg
    clear d1 d2
    subst d
    go_wp2_with fail
    exact ret_c rfl rfl (HS5.out.boxGet k0m) hdu hdr infoT32 rfl ⟨rfl, HS5.out.g⟩
set_option maxRecDepth 100000 in
set_option maxHeartbeats 8000000 in
theorem rfresh_c (w : World) (v : Value) (L : Bo) (c : Cr) (h : RB w v L) (hs : spn L ≠ []) :
    Calls Tryd.prog 47 #[v, .agg (crv c).toArray] w fun e w' => e = .returned (.agg (crv (frC L c)).toArray) ∧ w.grownBy w' none := by
  obtain ⟨du, hdu, hdr⟩ := underC
  have S2 := ((Sep.nil w).newBox (crv c).toArray 32).newBox zC14.toArray 32
  obtain ⟨W1, hW1⟩ : ∃ W1, w.alloc (.cells (crv c).toArray 32) = W1 := ⟨_, rfl⟩
  obtain ⟨xb, hxb⟩ : ∃ xb, w.heap.size = xb := ⟨_, rfl⟩
  rw [hW1, hxb] at S2
  obtain ⟨W2, hW2⟩ : ∃ W2, W1.alloc (.cells zC14.toArray 32) = W2 := ⟨_, rfl⟩
  obtain ⟨rb, hrb⟩ : ∃ rb, W1.heap.size = rb := ⟨_, rfl⟩
  rw [hW2, hrb] at S2
  change Sep w W2 [boxA rb zC14 32, boxA xb (crv c) 32] at S2
  have HB := Keep.mk S2
  have hsum : IntKind.i64.wrap (c.pl + c.sp) = w64 (c.pl + c.sp) := rfl
  have HSP := Keep.mk (fun W (g : w.grownBy W none) => rspawn_c W v L (h.kept g) hs (w64 (c.pl + c.sp)))
  have HBU := Keep.mk (built32 c.pl (spw L (w64 (c.pl + c.sp))).1 (spw L (w64 (c.pl + c.sp))).2 c.sp c.sc c.nm)
  change Keep (_ = some (crv (frC L c)).toArray) at HBU
  generalize w64 (c.pl + c.sp) = ns at *
  generalize (spw L ns).1 = px at *
  generalize (spw L ns).2 = py at *
  generalize frC L c = cf at *
  have hsz : (crv c).toArray.size = 14 := rfl
  unfold zC14 crv zC at hW2
  change W1.alloc _ = W2 at hW2
  clear S2 h hs
  go_enter Tryd.func47, Tryd.ntmps47
  go_wp2_with fail
  refine region_X (S := fun w' => Sep w w' [boxA rb zC14 32, boxA xb (crv c) 32]) [16] (by kernel_rfl) (HB.out.grown (gr_drew _ _)) (fun hHeld => ?_)
  replace HB := Keep.mk hHeld
  refine wpAnyX_take (i := 0) (oi := _) (v := ?_) rfl (by kernel_rfl) (by kernel_rfl) (by kernel_rfl) (by kernel_rfl) (by kernel_rfl) (fun _ _ _ h => h) (Or.inl ⟨by rfl, ?_⟩) (by assumption) ?_
  rotate_left
  · (intro w hSw; go_simp; first | done | (with_reducible rfl))
  simp only [Act.put, List.getElem_toArray, List.getElem_cons_zero, List.setIfInBounds_toArray, List.set_cons_zero, List.set_cons_succ]
  refine wpAnyX_take (i := 1) (oi := _) (v := ?_) rfl (by kernel_rfl) (by kernel_rfl) (by kernel_rfl) (by kernel_rfl) (by kernel_rfl) (fun _ _ _ h => h) (Or.inl ⟨by rfl, ?_⟩) (by assumption) ?_
  rotate_left
  · (intro w hSw; have q0 := (hSw.boxGet k1m).cellv 0 _ rfl; go_simp; first | done | (with_reducible rfl))
  simp only [Act.put, List.getElem_toArray, List.getElem_cons_succ, List.getElem_cons_zero, List.setIfInBounds_toArray, List.set_cons_zero, List.set_cons_succ]
  refine wpAnyX_take (i := 2) (oi := _) (v := ?_) rfl (by kernel_rfl) (by kernel_rfl) (by kernel_rfl) (by kernel_rfl) (by kernel_rfl) (fun _ _ _ h => h) (Or.inl ⟨by rfl, ?_⟩) (by assumption) ?_
  rotate_left
  · (intro w hSw; go_simp; first | done | (with_reducible rfl))
  simp only [Act.put, List.getElem_toArray, List.getElem_cons_succ, List.getElem_cons_zero, List.setIfInBounds_toArray, List.set_cons_zero, List.set_cons_succ]
  refine wpAnyX_take (i := 3) (oi := _) (v := ?_) rfl (by kernel_rfl) (by kernel_rfl) (by kernel_rfl) (by kernel_rfl) (by kernel_rfl) (fun _ _ _ h => h) (Or.inl ⟨by rfl, ?_⟩) (by assumption) ?_
  rotate_left
  · (intro w hSw; have q1 := (hSw.boxGet k1m).cellv 1 _ rfl; go_simp; first | done | (with_reducible rfl))
  simp only [Act.put, List.getElem_toArray, List.getElem_cons_succ, List.getElem_cons_zero, List.setIfInBounds_toArray, List.set_cons_zero, List.set_cons_succ]
  refine wpAnyX_take (i := 4) (oi := _) (v := ?_) rfl (by kernel_rfl) (by kernel_rfl) (by kernel_rfl) (by kernel_rfl) (by kernel_rfl) (fun _ _ _ h => h) (Or.inl ⟨by rfl, ?_⟩) (by assumption) ?_
  rotate_left
  · (intro w hSw; go_simp; first | done | (with_reducible rfl))
  simp only [Act.put, List.getElem_toArray, List.getElem_cons_succ, List.getElem_cons_zero, List.setIfInBounds_toArray, List.set_cons_zero, List.set_cons_succ]
  refine wpAnyX_take (i := 5) (oi := _) (v := ?_) rfl (by kernel_rfl) (by kernel_rfl) (by kernel_rfl) (by kernel_rfl) (by kernel_rfl) (fun _ _ _ h => h) (Or.inl ⟨by rfl, ?_⟩) (by assumption) ?_
  rotate_left
  · (intro w hSw; go_simp; first | done | (with_reducible rfl))
  simp only [Act.put, List.getElem_toArray, List.getElem_cons_succ, List.getElem_cons_zero, List.setIfInBounds_toArray, List.set_cons_zero, List.set_cons_succ]
  refine wpAnyX_take (i := 6) (oi := _) (v := ?_) rfl (by kernel_rfl) (by kernel_rfl) (by kernel_rfl) (by kernel_rfl) (by kernel_rfl) (fun _ _ _ h => h) (Or.inl ⟨by rfl, ?_⟩) (by assumption) ?_
  rotate_left
  · (intro w hSw; have q0 := (hSw.boxGet k1m).cellv 0 _ rfl; go_simp; first | done | (with_reducible rfl))
  simp only [Act.put, List.getElem_toArray, List.getElem_cons_succ, List.getElem_cons_zero, List.setIfInBounds_toArray, List.set_cons_zero, List.set_cons_succ]
  refine wpAnyX_take (i := 7) (oi := _) (v := ?_) rfl (by kernel_rfl) (by kernel_rfl) (by kernel_rfl) (by kernel_rfl) (by kernel_rfl) (fun _ _ _ h => h) (Or.inl ⟨by rfl, ?_⟩) (by assumption) ?_
  rotate_left
  · (intro w hSw; go_simp; first | done | (with_reducible rfl))
  simp only [Act.put, List.getElem_toArray, List.getElem_cons_succ, List.getElem_cons_zero, List.setIfInBounds_toArray, List.set_cons_zero, List.set_cons_succ]
  refine wpAnyX_take (i := 8) (oi := _) (v := ?_) rfl (by kernel_rfl) (by kernel_rfl) (by kernel_rfl) (by kernel_rfl) (by kernel_rfl) (fun _ _ _ h => h) (Or.inl ⟨by rfl, ?_⟩) (by assumption) ?_
  rotate_left
  · (intro w hSw; have q12 := (hSw.boxGet k1m).cellv 12 _ rfl; go_simp; first | done | (with_reducible rfl))
  simp only [Act.put, List.getElem_toArray, List.getElem_cons_succ, List.getElem_cons_zero, List.setIfInBounds_toArray, List.set_cons_zero, List.set_cons_succ]
  refine wpAnyX_take (i := 9) (oi := _) (v := ?_) rfl (by kernel_rfl) (by kernel_rfl) (by kernel_rfl) (by kernel_rfl) (by kernel_rfl) (fun _ _ _ h => h) (Or.inl ⟨by rfl, ?_⟩) (by assumption) ?_
  rotate_left
  · (intro w hSw; go_simp; first | done | (with_reducible rfl))
  simp only [Act.put, List.getElem_toArray, List.getElem_cons_succ, List.getElem_cons_zero, List.setIfInBounds_toArray, List.set_cons_zero, List.set_cons_succ]
  refine wpAnyX_take (i := 11) (oi := _) (v := ?_) rfl (by kernel_rfl) (by kernel_rfl) (by kernel_rfl) (by kernel_rfl) (by kernel_rfl) (fun _ _ _ h => h) (Or.inl ⟨by rfl, ?_⟩) (by assumption) ?_
  rotate_left
  · (intro w hSw; go_simp; first | done | (with_reducible rfl))
  simp only [Act.put, List.getElem_toArray, List.getElem_cons_succ, List.getElem_cons_zero, List.setIfInBounds_toArray, List.set_cons_zero, List.set_cons_succ]
  refine wpAnyX_take (i := 12) (oi := _) (v := ?_) rfl (by kernel_rfl) (by kernel_rfl) (by kernel_rfl) (by kernel_rfl) (by kernel_rfl) (fun _ _ _ h => h) (Or.inl ⟨by rfl, ?_⟩) (by assumption) ?_
  rotate_left
  · (intro w hSw; have q12 := (hSw.boxGet k1m).cellv 12 _ rfl; go_simp; first | done | (with_reducible rfl))
  simp only [Act.put, List.getElem_toArray, List.getElem_cons_succ, List.getElem_cons_zero, List.setIfInBounds_toArray, List.set_cons_zero, List.set_cons_succ]
  refine wpAnyX_take (i := 13) (oi := _) (v := ?_) rfl (by kernel_rfl) (by kernel_rfl) (by kernel_rfl) (by kernel_rfl) (by kernel_rfl) (fun _ _ _ h => h) (Or.inl ⟨by rfl, ?_⟩) (by assumption) ?_
  rotate_left
  · (intro w hSw; go_simp; first | done | (with_reducible rfl))
  simp only [Act.put, List.getElem_toArray, List.getElem_cons_succ, List.getElem_cons_zero, List.setIfInBounds_toArray, List.set_cons_zero, List.set_cons_succ]
  refine wpAnyX_take (i := 14) (oi := _) (v := ?_) rfl (by kernel_rfl) (by kernel_rfl) (by kernel_rfl) (by kernel_rfl) (by kernel_rfl) (fun _ _ _ h => h) (Or.inl ⟨by rfl, ?_⟩) (by assumption) ?_
  rotate_left
  · (intro w hSw; have q13 := (hSw.boxGet k1m).cellv 13 _ rfl; go_simp; first | done | (with_reducible rfl))
  simp only [Act.put, List.getElem_toArray, List.getElem_cons_succ, List.getElem_cons_zero, List.setIfInBounds_toArray, List.set_cons_zero, List.set_cons_succ]
  refine wpAnyX_one (i := 10) (by kernel_rfl) rfl (fun K hK => ?_)
  go_simp
  refine (HSP.out _ HB.out.g).mono ?_
  rintro e wg ⟨rfl, hg⟩
  replace HB := Keep.mk (HB.out.grown hg)
  refine hK.out _ _ HB.out (fun hHeld => ?_)
  clear hK K hg
  refine wpAnyX_take (i := 15) (oi := _) (v := .agg (crv cf).toArray) rfl (by kernel_rfl) (by kernel_rfl) (by kernel_rfl) (by kernel_rfl) (by kernel_rfl) (fun _ _ _ h => h) (yieldsIf_build (by rfl) 32 _ rfl _ ?_) (by assumption) ?_
  · refine (congrArg (Tryd.prog.built 32) ?_).trans HBU.out
    simp only [List.map_toArray, List.map_cons, List.map_nil]
    rfl
  simp only [Act.put, List.getElem_toArray, List.getElem_cons_succ, List.getElem_cons_zero, List.setIfInBounds_toArray, List.set_cons_zero, List.set_cons_succ]
  refine wpAnyX_late (i := 16) (by kernel_rfl) rfl (by kernel_rfl) (fun K hK => ?_)
  rw [if_pos (show Region.wanted _ _ = true from rfl)]
  have HRB := Keep.mk (HB.out.boxGet k0m)
  have HF1 := Keep.mk (crv_one cf)
  refine wp_store_mid 32 _ _ rfl rb 0 (crv cf).toArray rfl rfl (HRB.out.there 0 14 (Nat.le_refl _)) infoC (all_oneCell_toArray HF1.out) ?_
  have S8 := HB.out.boxTurn (HRB.out.setCells (crv cf) 0) (gr_sets _ _ _ _)
  rw [over_all zC14 (crv cf) rfl] at S8
  have HS8 := Keep.mk S8
  refine hK.out _ _ ?_
  clear hK K HB S8 HRB HF1
  change Keep (Sep w (World.setCells wg rb 0 (crv cf).toArray.toList) _) at HS8
  generalize World.setCells wg rb 0 (crv cf).toArray.toList = w8 at HS8 ⊢
  refine wpAnyX_done (by kernel_rfl) ?_ _
  go_wp2_with fail
  exact ret_c rfl rfl (HS8.out.boxGet k0m) hdu hdr (infoC' cf) rfl ⟨rfl, HS8.out.g⟩
set_option maxRecDepth 100000 in
set_option maxHeartbeats 8000000 in
theorem rnew_c (w : World) (v : Value) (L : Bo) (p : Int) (s : ByteArray) (h : RB w v L) (hs : spn L ≠ []) :
    Calls Tryd.prog 21 #[v, iv p, .string s] w fun e w' => e = .returned (.agg (crv (newC L p s)).toArray) ∧ w.grownBy w' none := by
  obtain ⟨du, hdu, hdr⟩ := underC
  have S2 := (Sep.nil w).newBox zC14.toArray 32
  obtain ⟨W2, hW2⟩ : ∃ W2, w.alloc (.cells zC14.toArray 32) = W2 := ⟨_, rfl⟩
  obtain ⟨rb, hrb⟩ : ∃ rb, w.heap.size = rb := ⟨_, rfl⟩
  rw [hW2, hrb] at S2
  change Sep w W2 [boxA rb zC14 32] at S2
  have HF := Keep.mk (rfresh_c W2 v L (zC p s) (h.kept S2.g) hs)
  have HBU := Keep.mk (built32n p s)
  unfold newC
  generalize frC L (zC p s) = cf at *
  have HS2 := Keep.mk S2
  have HL1 := Keep.mk (crv_one cf)
  unfold zC14 crv zC at hW2
  change w.alloc _ = W2 at hW2
  clear S2 h hs
  go_enter Tryd.func21, Tryd.ntmps21
  go_wp2_with (first
    | (show wpList _ _ _ ({ dst := _, op := Op.build 32 _, type := _, pos := _, after := _, guard := _ } :: _) _ _
       refine wpList_build rfl 32 _ rfl _ ((congrArg (Tryd.prog.built 32) (by simp only [List.map_toArray, List.map_cons, List.map_nil]; rfl)).trans HBU.out) ?_))
  refine HF.out.mono ?_
  rintro e w3 ⟨rfl, g3⟩
  have HS3 := Keep.mk (HS2.out.grown g3)
  have HRB := Keep.mk (HS3.out.boxGet k0m)
  clear g3 HS2 HF HBU hW2 hrb
  go_wp2_with (first
    | (show wpList _ _ _ ({ dst := _, op := Op.store 32 _ _, type := _, pos := _, after := _, guard := _ } :: _) _ _
       refine store_at _ rb 0 zC14 (crv cf) 32 32 rfl rfl rfl rfl HRB.out (Nat.le_refl _) (infoC' cf) HL1.out ?_))
  intro w7 hS7 g7
  have S7 := hS7 _ _ HS3.out
  rw [over_all zC14 (crv cf) rfl] at S7
  have HS7 := Keep.mk S7
  clear hS7 g7 S7 HRB HS3
  go_wp2_with fail
  exact ret_c rfl rfl (HS7.out.boxGet k0m) hdu hdr (infoC' cf) rfl ⟨rfl, HS7.out.g⟩
set_option maxRecDepth 100000 in
set_option maxHeartbeats 8000000 in
theorem rcome_c (w : World) (v : Value) (L : Bo) (c : Cr) (h : RB w v L) (hs : spn L ≠ []) :
    Calls Tryd.prog 22 #[v, .agg (crv c).toArray] w fun e w' => e = .returned (.agg (crv (comC L c)).toArray) ∧ w.grownBy w' none := by
  obtain ⟨du, hdu, hdr⟩ := underC
  have S3 := ((Sep.nil w).newBox (crv c).toArray 32).newBox zC14.toArray 32
  obtain ⟨W1, hW1⟩ : ∃ W1, w.alloc (.cells (crv c).toArray 32) = W1 := ⟨_, rfl⟩
  obtain ⟨xb, hxb⟩ : ∃ xb, w.heap.size = xb := ⟨_, rfl⟩
  rw [hW1, hxb] at S3
  obtain ⟨W3, hW3⟩ : ∃ W3, W1.alloc (.cells zC14.toArray 32) = W3 := ⟨_, rfl⟩
  obtain ⟨rb, hrb⟩ : ∃ rb, W1.heap.size = rb := ⟨_, rfl⟩
  rw [hW3, hrb] at S3
  change Sep w W3 [boxA rb zC14 32, boxA xb (crv c) 32] at S3
  have hsz : (crv c).toArray.size = 14 := rfl
  have hsum : IntKind.i64.wrap (c.sp + 1) = w64 (c.sp + 1) := rfl
  have y12 : W3.cell? ⟨xb, 12, none⟩ = some (iv c.sp) := (S3.boxGet k1m).cellv 12 _ rfl
  have f12 : W3.frozen? ⟨xb, 12, none⟩ = false := (S3.boxGet k1m).frozen 12
  have S4 := S3.swap.boxPut 12 (iv (w64 (c.sp + 1)))
  change Sep w _ [boxA xb (crv { c with sp := w64 (c.sp + 1) }) 32, boxA rb zC14 32] at S4
  unfold comC
  have HF := Keep.mk (fun W (g : w.grownBy W none) => rfresh_c W v L { c with sp := w64 (c.sp + 1) } (h.kept g) hs)
  generalize w64 (c.sp + 1) = ns at *
  obtain ⟨c2, hc2⟩ : ∃ c2 : Cr, ({ c with sp := ns } : Cr) = c2 := ⟨_, rfl⟩
  rw [hc2] at S4 HF ⊢
  generalize frC L c2 = cf at *
  obtain ⟨W4, hW4⟩ : ∃ W4, W3.setCell ⟨xb, 12, none⟩ (iv ns) = W4 := ⟨_, rfl⟩
  rw [hW4] at S4
  unfold zC14 crv zC at hW3
  change W1.alloc _ = W3 at hW3
  have HS4 := Keep.mk S4
  have HL1 := Keep.mk (crv_one cf)
  have RNG := Keep.mk (S4.boxGet k0m).range
  clear S3 S4 h hs hc2
  go_enter Tryd.func22, Tryd.ntmps22
  go_wp2_with (first
    | (show wpList _ _ _ ({ dst := _, op := Op.load 32 _, type := _, pos := _, after := _, guard := _ } :: _) _ _
       refine wpList_load_mid rfl 32 _ rfl _ _ rfl _ _ RNG.out hdu hdr (infoC' c2) ?_))
  refine (HF.out _ HS4.out.g).mono ?_
  rintro e w5 ⟨rfl, g5⟩
  have HS5 := Keep.mk (HS4.out.grown g5)
  have HRB := Keep.mk (HS5.out.boxGet k1m)
  clear g5 HS4 HF RNG hW1 hW3 hxb hrb hW4
  go_wp2_with (first
    | (show wpList _ _ _ ({ dst := _, op := Op.store 32 _ _, type := _, pos := _, after := _, guard := _ } :: _) _ _
       refine store_at _ rb 0 zC14 (crv cf) 32 32 rfl rfl rfl rfl HRB.out (Nat.le_refl _) (infoC' cf) HL1.out ?_))
  intro w7 hS7 g7
  have S7 := hS7 _ _ HS5.out.swap
  rw [over_all zC14 (crv cf) rfl] at S7
  have HS7 := Keep.mk S7
  clear hS7 g7 S7 HRB HS5
  go_wp2_with fail
  exact ret_c rfl rfl (HS7.out.boxGet k0m) hdu hdr (infoC' cf) rfl ⟨rfl, HS7.out.g⟩
end Go.Proofs.YtobdcngjpgndiaaDoor.Bo
