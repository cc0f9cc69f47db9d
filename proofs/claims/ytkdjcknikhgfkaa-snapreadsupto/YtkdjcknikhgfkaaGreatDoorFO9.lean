import Derived.Test.YtkdjcknikhgfkaaGreatDoorX29
/- the reference's Decode: the fifth kind, and what is refused -/
namespace Go.Proofs.YtkdjcknikhgfkaaGreatDoor.Pk
open Go Go.RowKit
set_option maxHeartbeats 8000000 in
set_option maxRecDepth 100000 in
theorem rd_no (s : ByteArray) (w : World) (h0 : (dec (sl s)).2 ≠ 0) :
    Calls Tryz.prog 42 #[.string s] w fun e w' => e = .returned (.tuple #[dv (dec (sl s)).1, .int .i64 (dec (sl s)).2]) ∧ w.grownBy w' none := by
  obtain ⟨du, hdu, hdr⟩ := under26
  have HJ := Keep.mk (rjudged_c s)
  have hz : (dec (sl s)).1 = Dg.zero 0 := by
    rcases dec_codes (sl s) with q | q
    · exact absurd q h0
    · exact q.1
  rw [hz]
  clear hz
  generalize (dec (sl s)).2 = k at *
  have hkb : (k == 0) = false := by simpa using h0
  clear h0
  go_enter Tryz.func42, Tryz.ntmps42
  go_wp2_with fail
  refine (HJ.out _).mono ?_
  rintro e w1 ⟨rfl, rfl⟩
  go_wp2_with (show wpList _ _ _ ({ dst := _, op := Op.store 50 _ _, type := _, pos := _, after := _, guard := _ } :: _) _ _; refine store_dg w (Dg.zero 0) rfl rfl rfl rfl rfl ?_; intro w2 h2 g2; have HT := Keep.mk (And.intro h2 g2); clear h2 g2)
  exact ret_ct rfl rfl (cs := (Dg.zero 0).cells) (t := 50) HT.out.1 hdu hdr info26 rfl ⟨rfl, HT.out.2⟩
set_option maxRecDepth 100000 in
theorem drop_one {L : List UInt8} {j : Nat} {y : UInt8} (h : j < L.length) (hy : L[j]? = some y) : (L.drop j).take 1 = [y] := by
  have e : L.drop j = y :: L.drop (j + 1) := by
    rw [List.drop_eq_getElem_cons h]
    congr 1
    rw [List.getElem?_eq_getElem h] at hy
    exact Option.some.inj hy
  rw [e]
  rfl
set_option maxHeartbeats 8000000 in
set_option maxRecDepth 100000 in
theorem rd_5 (s : ByteArray) (w : World) (h : ¬ 1200 < s.size) (hm : (sl s).take 3 = magic) (hy : (sl s)[3]? = some 5) (h4 : 3 < s.size) (hc : s.size = 55) (h0 : (dec (sl s)).2 = 0) :
    Calls Tryz.prog 42 #[.string s] w fun e w' => e = .returned (.tuple #[dv (dec (sl s)).1, .int .i64 (dec (sl s)).2]) ∧ w.grownBy w' none := by
  obtain ⟨du, hdu, hdr⟩ := under26
  have hle : s.size ≤ 1200 := Nat.le_of_not_lt h
  have HD := dec_5 (sl s) (by rw [sl_len]; exact hle) hm (kind_is s hm h4 hy)
  rw [sl_len, if_pos hc] at HD
  obtain ⟨y20, hy20⟩ : ∃ y, (sl s)[20]? = some y := ⟨_, List.getElem?_eq_getElem (by rw [sl_len, hc]; omega)⟩
  obtain ⟨y21, hy21⟩ : ∃ y, (sl s)[21]? = some y := ⟨_, List.getElem?_eq_getElem (by rw [sl_len, hc]; omega)⟩
  obtain ⟨y22, hy22⟩ : ∃ y, (sl s)[22]? = some y := ⟨_, List.getElem?_eq_getElem (by rw [sl_len, hc]; omega)⟩
  have ix20 : ∀ W, (Instr.index 9 (.string s) (.int .i64 20)).run Tryz.prog W = .ok (.int .u8 y20.toNat) W := fun W => idx9 s 20 y20 (by omega) hy20 W
  have ix21 : ∀ W, (Instr.index 9 (.string s) (.int .i64 21)).run Tryz.prog W = .ok (.int .u8 y21.toNat) W := fun W => idx9 s 21 y21 (by omega) hy21 W
  have ix22 : ∀ W, (Instr.index 9 (.string s) (.int .i64 22)).run Tryz.prog W = .ok (.int .u8 y22.toNat) W := fun W => idx9 s 22 y22 (by omega) hy22 W
  rw [drop_one (by rw [sl_len]; omega) hy20, drop_one (by rw [sl_len]; omega) hy21, drop_one (by rw [sl_len]; omega) hy22] at HD
  have hv : val [y22] = y22.toNat := by simp [val]
  rw [hv] at HD
  have h3 : y22.toNat ≤ 3 := Classical.byContradiction fun q => by
    rw [HD, if_neg q] at h0
    cases h0
  rw [if_pos h3] at HD
  have HJ : Keep (∀ W, Calls Tryz.prog 72 #[.string s] W fun e w' => e = .returned (.int .i64 0) ∧ w' = W) := ⟨fun W => by have := rjudged_c s W; rw [h0] at this; exact this⟩
  clear h0
  rw [(show ba (((sl s).drop 23).take 32) = s.extract 23 55 from (ext_is s 23 55).symm)] at HD
  rw [HD]
  clear HD hv
  have HN4 := Keep.mk (fun W => rnum_c s 4 W (by omega) (by omega))
  have HN12 := Keep.mk (fun W => rnum_c s 12 W (by omega) (by omega))
  generalize val (((sl s).drop 4).take 8) = n4 at *
  generalize val (((sl s).drop 12).take 8) = n12 at *
  have HS20 := Keep.mk (rsigned_c y20)
  have HS21 := Keep.mk (rsigned_c y21)
  generalize sval [y20] = t20 at *
  generalize sval [y21] = t21 at *
  generalize y20.toNat = Y20 at *
  generalize y21.toNat = Y21 at *
  generalize y22.toNat = Y22 at *
  have hmod : (Y22 : Int).tmod 2 = ((Y22 % 2 : Nat) : Int) := by rw [Int.tmod_eq_emod_of_nonneg (by omega)]; omega
  have hwr : IntKind.u8.wrap ((Y22 % 2 : Nat) : Int) = ((Y22 % 2 : Nat) : Int) := by rw [IntKind.wrap_u8']; omega
  obtain ⟨fi, hfi⟩ : ∃ fi, decide (Y22 % 2 = 1) = fi := ⟨_, rfl⟩
  obtain ⟨bo, hbo⟩ : ∃ bo, decide (Y22 / 2 % 2 = 1) = bo := ⟨_, rfl⟩
  rw [hfi, hbo]
  have hf2 : (((Y22 % 2 : Nat) : Int) == 1) = fi := by
    rw [← hfi, Bool.eq_iff_iff, beq_iff_eq, decide_eq_true_iff]; omega
  have hb2 : decide ((1 : Int) < (Y22 : Int)) = bo := by
    rw [← hbo]; exact decide_eq_decide.2 (by omega)
  generalize Y22 % 2 = m22 at *
  clear hfi hbo h3
  have ix : ∀ W, (Instr.index 9 (.string s) (.int .i64 3)).run Tryz.prog W = .ok (.int .u8 5) W := fun W => idx9 s 3 5 h4 hy W
  have hszi : (s.size : Int) = 55 := by omega
  have hwn : IntKind.i64.wrap 23 = 23 := by decide
  have HA := Keep.mk (alloc_has (w := w) (D := (Dg.zero 0).cells) rfl)
  go_enter Tryz.func42, Tryz.ntmps42
  go_wp2_with fail
  refine (HJ.out _).mono ?_
  rintro e w1 ⟨rfl, hw1⟩
  have HA1 : Keep (Has w1 w.heap.size (Dg.zero 0).cells 50 ∧ w.grownBy w1 none ∧ ∃ r, r = w.heap.size) := ⟨by rw [hw1]; exact ⟨HA.out.1, HA.out.2, _, rfl⟩⟩
  clear hw1 HA HJ hm hy h4 h
  obtain ⟨rb, hrb⟩ := HA1.out.2.2
  rw [← hrb] at HA1 ⊢
  have HA2 : Keep (Has w1 rb (Dg.zero 0).cells 50 ∧ w.grownBy w1 none ∧ w.heap.size ≤ rb) := ⟨HA1.out.1, HA1.out.2.1, by omega⟩
  clear HA1 hrb
  go_wp2_with (show wpList _ _ _ ({ dst := _, op := Op.store 50 _ _, type := _, pos := _, after := _, guard := _ } :: _) _ _; refine store_dg w1 (Dg.zero 5) rfl rfl rfl rfl rfl ?_; intro w2 h2 g2; have HQ : Keep (DQ w w2 rb w1.heap.size (Dg.zero 5).cells) := ⟨h2, HA2.out.1.kept g2 (by simp), HA2.out.2.1.trans g2, HA2.out.2.1.size, HA2.out.2.2, by have := HA2.out.1.lt; omega⟩; clear h2 g2; generalize w1.heap.size = db at HQ ⊢; have c0 : w2.cell? ⟨db, 0, none⟩ = some (.int .i64 5) := HQ.out.a.cellv 0 _ rfl; have c5 := HQ.out.a.cellv 5 _ rfl; have z5 := HQ.out.a.frozen 5; have c8 := HQ.out.a.cellv 8 _ rfl; have z8 := HQ.out.a.frozen 8; have c14 := HQ.out.a.cellv 14 _ rfl; have z14 := HQ.out.a.frozen 14; have HF : Keep (DQ w (((w2.setCell ⟨db, 14, none⟩ (.string (s.extract 23 55))).setCell ⟨db, 5, none⟩ (.int .u64 ((n4 : Nat) : Int))).setCell ⟨db, 8, none⟩ (.int .u64 ((n12 : Nat) : Int))) rb db (Dg.cells { Dg.zero 5 with session := n4, seq := n12, tag := s.extract 23 55 })) := ⟨((HQ.out.set 14 (.string (s.extract 23 55))).set 5 (.int .u64 ((n4 : Nat) : Int))).set 8 (.int .u64 ((n12 : Nat) : Int))⟩; clear HQ HA2)
  refine (HN4.out _).mono ?_
  rintro e w5 ⟨rfl, rfl⟩
  go_wp2_with fail
  refine (HN12.out _).mono ?_
  rintro e w6 ⟨rfl, rfl⟩
  go_wp2_with fail
  refine wp_region_held_drew (S := fun _ => True) (by kernel_rfl) trivial (fun hHeld => ?_)
  have HF1 : Keep (DQ w (((w2.setCell ⟨db, 14, none⟩ (.string (s.extract 23 55))).setCell ⟨db, 5, none⟩ (.int .u64 ((n4 : Nat) : Int))).setCell ⟨db, 8, none⟩ (.int .u64 ((n12 : Nat) : Int))).drew rb db (Dg.cells { Dg.zero 5 with session := n4, seq := n12, tag := s.extract 23 55 })) := ⟨HF.out.a, HF.out.b, HF.out.g.trans (gr_drew _ _), HF.out.lo, HF.out.lr, HF.out.ne⟩
  clear HF c0 c5 z5 c8 z8 c14 z14
  generalize (((w2.setCell ⟨db, 14, none⟩ (.string (s.extract 23 55))).setCell ⟨db, 5, none⟩ (.int .u64 ((n4 : Nat) : Int))).setCell ⟨db, 8, none⟩ (.int .u64 ((n12 : Nat) : Int))).drew = w9 at *
  refine wpAnyH_take (i := 0) (oi := _) (v := ?_) rfl (by kernel_rfl) (by kernel_rfl) (by kernel_rfl) (fun _ _ _ h => h) (Or.inl ⟨by rfl, ?_⟩) (by assumption) ?_
  rotate_left
  · (intro w hSw; go_simp; first | done | (with_reducible rfl))
  simp only [Act.put, List.getElem_toArray, List.getElem_cons_zero, List.setIfInBounds_toArray, List.set_cons_zero, List.set_cons_succ]
  refine wpAnyH_take (i := 1) (oi := _) (v := ?_) rfl (by kernel_rfl) (by kernel_rfl) (by kernel_rfl) (fun _ _ _ h => h) (Or.inl ⟨by rfl, ?_⟩) (by assumption) ?_
  rotate_left
  · (intro w hSw; go_simp; first | done | (with_reducible rfl))
  simp only [Act.put, List.getElem_toArray, List.getElem_cons_succ, List.getElem_cons_zero, List.setIfInBounds_toArray, List.set_cons_zero, List.set_cons_succ]
  refine wpAnyH_take (i := 3) (oi := _) (v := ?_) rfl (by kernel_rfl) (by kernel_rfl) (by kernel_rfl) (fun _ _ _ h => h) (Or.inl ⟨by rfl, ?_⟩) (by assumption) ?_
  rotate_left
  · (intro w hSw; go_simp; first | done | (with_reducible rfl))
  simp only [Act.put, List.getElem_toArray, List.getElem_cons_succ, List.getElem_cons_zero, List.setIfInBounds_toArray, List.set_cons_zero, List.set_cons_succ]
  refine wpAnyH_take (i := 4) (oi := _) (v := ?_) rfl (by kernel_rfl) (by kernel_rfl) (by kernel_rfl) (fun _ _ _ h => h) (Or.inl ⟨by rfl, ?_⟩) (by assumption) ?_
  rotate_left
  · (intro w hSw; go_simp; first | done | (with_reducible rfl))
  simp only [Act.put, List.getElem_toArray, List.getElem_cons_succ, List.getElem_cons_zero, List.setIfInBounds_toArray, List.set_cons_zero, List.set_cons_succ]
  refine wpAnyH_take (i := 6) (oi := _) (v := ?_) rfl (by kernel_rfl) (by kernel_rfl) (by kernel_rfl) (fun _ _ _ h => h) (Or.inl ⟨by rfl, ?_⟩) (by assumption) ?_
  rotate_left
  · (intro w hSw; go_simp; first | done | (with_reducible rfl))
  simp only [Act.put, List.getElem_toArray, List.getElem_cons_succ, List.getElem_cons_zero, List.setIfInBounds_toArray, List.set_cons_zero, List.set_cons_succ]
  refine wpAnyH_take (i := 7) (oi := _) (v := ?_) rfl (by kernel_rfl) (by kernel_rfl) (by kernel_rfl) (fun _ _ _ h => h) (Or.inl ⟨by rfl, ?_⟩) (by assumption) ?_
  rotate_left
  · (intro w hSw; go_simp; first | done | (with_reducible rfl))
  simp only [Act.put, List.getElem_toArray, List.getElem_cons_succ, List.getElem_cons_zero, List.setIfInBounds_toArray, List.set_cons_zero, List.set_cons_succ]
  refine wpAnyH_take (i := 8) (oi := _) (v := ?_) rfl (by kernel_rfl) (by kernel_rfl) (by kernel_rfl) (fun _ _ _ h => h) (Or.inl ⟨by rfl, ?_⟩) (by assumption) ?_
  rotate_left
  · (intro w hSw; go_simp; first | done | (with_reducible rfl))
  simp only [Act.put, List.getElem_toArray, List.getElem_cons_succ, List.getElem_cons_zero, List.setIfInBounds_toArray, List.set_cons_zero, List.set_cons_succ]
  refine wpAnyH_take (i := 9) (oi := _) (v := ?_) rfl (by kernel_rfl) (by kernel_rfl) (by kernel_rfl) (fun _ _ _ h => h) (Or.inl ⟨by rfl, ?_⟩) (by assumption) ?_
  rotate_left
  · (intro w hSw; go_simp; first | done | (with_reducible rfl))
  simp only [Act.put, List.getElem_toArray, List.getElem_cons_succ, List.getElem_cons_zero, List.setIfInBounds_toArray, List.set_cons_zero, List.set_cons_succ]
  refine wpAnyH_take (i := 10) (oi := _) (v := ?_) rfl (by kernel_rfl) (by kernel_rfl) (by kernel_rfl) (fun _ _ _ h => h) (Or.inl ⟨by rfl, ?_⟩) (by assumption) ?_
  rotate_left
  · (intro w hSw; go_simp; first | done | (with_reducible rfl))
  simp only [Act.put, List.getElem_toArray, List.getElem_cons_succ, List.getElem_cons_zero, List.setIfInBounds_toArray, List.set_cons_zero, List.set_cons_succ]
  refine wpAnyH_take (i := 11) (oi := _) (v := ?_) rfl (by kernel_rfl) (by kernel_rfl) (by kernel_rfl) (fun _ _ _ h => h) (Or.inl ⟨by rfl, ?_⟩) (by assumption) ?_
  rotate_left
  · (intro w hSw; go_simp; first | done | (with_reducible rfl))
  simp only [Act.put, List.getElem_toArray, List.getElem_cons_succ, List.getElem_cons_zero, List.setIfInBounds_toArray, List.set_cons_zero, List.set_cons_succ]
  refine wpAnyH_take (i := 12) (oi := _) (v := ?_) rfl (by kernel_rfl) (by kernel_rfl) (by kernel_rfl) (fun _ _ _ h => h) (Or.inl ⟨by rfl, ?_⟩) (by assumption) ?_
  rotate_left
  · (intro w hSw; go_simp; first | done | (with_reducible rfl))
  simp only [Act.put, List.getElem_toArray, List.getElem_cons_succ, List.getElem_cons_zero, List.setIfInBounds_toArray, List.set_cons_zero, List.set_cons_succ]
  refine wpAnyH_ready (rs := [2]) (by kernel_rfl) (by simp) ?_
  refine AllReadyH.cons rfl (fun K hK => ?_) AllReadyH.nil
  go_simp
  refine (HS20.out _).mono ?_
  rintro e w10 ⟨rfl, hw⟩
  rw [hw]
  clear hw w10
  refine hK.out _ _ trivial (fun _ => ?_)
  clear hK K
  refine wpAnyH_ready (rs := [5]) (by kernel_rfl) (by simp) ?_
  refine AllReadyH.cons rfl (fun K hK => ?_) AllReadyH.nil
  go_simp
  refine (HS21.out _).mono ?_
  rintro e w10 ⟨rfl, hw⟩
  rw [hw]
  clear hw w10
  refine hK.out _ _ trivial (fun _ => ?_)
  clear hK K
  refine wpAnyH_take (i := 13) (oi := _) (v := ?_) rfl (by kernel_rfl) (by kernel_rfl) (by kernel_rfl) (fun _ _ _ h => h) (Or.inl ⟨by rfl, ?_⟩) (by assumption) ?_
  rotate_left
  · (intro w hSw; go_simp; first | done | (with_reducible rfl))
  simp only [Act.put, List.getElem_toArray, List.getElem_cons_succ, List.getElem_cons_zero, List.setIfInBounds_toArray, List.set_cons_zero, List.set_cons_succ]
  refine wpAnyH_take (i := 14) (oi := _) (v := ?_) rfl (by kernel_rfl) (by kernel_rfl) (by kernel_rfl) (fun _ _ _ h => h) (Or.inl ⟨by rfl, ?_⟩) (by assumption) ?_
  rotate_left
  · (intro w hSw; go_simp; first | done | (with_reducible rfl))
  simp only [Act.put, List.getElem_toArray, List.getElem_cons_succ, List.getElem_cons_zero, List.setIfInBounds_toArray, List.set_cons_zero, List.set_cons_succ]
  have HG : Keep (DQ w ((((w9.setCell ⟨db, 9, none⟩ (.int .i64 t20)).setCell ⟨db, 10, none⟩ (.int .i64 t21)).setCell ⟨db, 11, none⟩ (.bool fi)).setCell ⟨db, 12, none⟩ (.bool bo)) rb db (Dg.cells { Dg.zero 5 with session := n4, seq := n12, thr := t20, turn := t21, fire := fi, boost := bo, tag := s.extract 23 55 })) := ⟨(((HF1.out.set 9 (.int .i64 t20)).set 10 (.int .i64 t21)).set 11 (.bool fi)).set 12 (.bool bo)⟩
  have HT := Keep.mk (HG.out.told rfl)
  have c0 : w9.cell? ⟨db, 0, none⟩ = some (.int .i64 5) := HF1.out.a.cellv 0 _ rfl
  have c9 := HF1.out.a.cellv 9 _ rfl
  have z9 := HF1.out.a.frozen 9
  have c10 := HF1.out.a.cellv 10 _ rfl
  have z10 := HF1.out.a.frozen 10
  have c11 := HF1.out.a.cellv 11 _ rfl
  have z11 := HF1.out.a.frozen 11
  have c12 := HF1.out.a.cellv 12 _ rfl
  have z12 := HF1.out.a.frozen 12
  refine wpAnyH_ready (rs := [15]) (by kernel_rfl) (by simp) ?_
  refine AllReadyH.cons rfl (fun K hK => ?_) AllReadyH.nil
  go_simp
  refine hK.out _ _ trivial (fun _ => ?_)
  clear hK K hHeld
  refine wpAnyH_done (by kernel_rfl) ?_ _
  go_wp2_with (first | (show wpList _ _ _ ({ dst := _, op := Op.load 50 _, type := _, pos := _, after := _, guard := _ } :: _) _ _; refine wpList_load_mid rfl 50 _ rfl _ _ rfl (Dg.cells { Dg.zero 5 with session := n4, seq := n12, thr := t20, turn := t21, fire := fi, boost := bo, tag := s.extract 23 55 }) _ HG.out.a.range hdu hdr info26 ?_) | (show wpList _ _ _ ({ dst := _, op := Op.store 50 _ _, type := _, pos := _, after := _, guard := _ } :: _) _ _; refine wpList_store_mid rfl 50 _ _ rfl rb 0 (Dg.cells { Dg.zero 5 with session := n4, seq := n12, thr := t20, turn := t21, fire := fi, boost := bo, tag := s.extract 23 55 }).toArray rfl rfl (HG.out.b.there 0 15 (by decide)) (dg_info { Dg.zero 5 with session := n4, seq := n12, thr := t20, turn := t21, fire := fi, boost := bo, tag := s.extract 23 55 }) (dg_one { Dg.zero 5 with session := n4, seq := n12, thr := t20, turn := t21, fire := fi, boost := bo, tag := s.extract 23 55 }) ?_))
  exact ret_ct rfl rfl (cs := Dg.cells { Dg.zero 5 with session := n4, seq := n12, thr := t20, turn := t21, fire := fi, boost := bo, tag := s.extract 23 55 }) (t := 50) HT.out.1 hdu hdr info26 rfl ⟨rfl, HT.out.2⟩
end Go.Proofs.YtkdjcknikhgfkaaGreatDoor.Pk
