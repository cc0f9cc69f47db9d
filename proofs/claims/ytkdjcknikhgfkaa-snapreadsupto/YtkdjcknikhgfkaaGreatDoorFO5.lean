import Derived.Test.YtkdjcknikhgfkaaGreatDoorX29
/- the reference's Decode, kind by kind -/
namespace Go.Proofs.YtkdjcknikhgfkaaGreatDoor.Pk
open Go Go.RowKit
set_option maxHeartbeats 8000000 in
set_option maxRecDepth 100000 in
theorem rd_1 (s : ByteArray) (w : World) (h : ¬ 1200 < s.size) (hm : (sl s).take 3 = magic) (hy : (sl s)[3]? = some 1) (h4 : 3 < s.size) (hc : s.size = 96) (h0 : (dec (sl s)).2 = 0) :
    Calls Tryz.prog 42 #[.string s] w fun e w' => e = .returned (.tuple #[dv (dec (sl s)).1, .int .i64 (dec (sl s)).2]) ∧ w.grownBy w' none := by
  obtain ⟨du, hdu, hdr⟩ := under26
  have hle : s.size ≤ 1200 := Nat.le_of_not_lt h
  have HD := dec_1 (sl s) (by rw [sl_len]; exact hle) hm (kind_is s hm h4 hy)
  rw [sl_len, if_pos hc] at HD
  have hz : ((sl s).drop 20).take 76 = zero76 := Classical.byContradiction fun q => by
    rw [HD, if_neg q] at h0
    cases h0
  rw [if_pos hz] at HD
  clear hz
  have HJ : Keep (∀ W, Calls Tryz.prog 72 #[.string s] W fun e w' => e = .returned (.int .i64 0) ∧ w' = W) := ⟨fun W => by have := rjudged_c s W; rw [h0] at this; exact this⟩
  clear h0
  rw [(show ba (((sl s).drop 4).take 16) = s.extract 4 20 from (ext_is s 4 20).symm)] at HD
  rw [HD]
  clear HD
  have ix : ∀ W, (Instr.index 9 (.string s) (.int .i64 3)).run Tryz.prog W = .ok (.int .u8 1) W := fun W => idx9 s 3 1 h4 hy W
  have hszi : (s.size : Int) = 96 := by omega
  have HA := Keep.mk (alloc_has (w := w) (D := (Dg.zero 0).cells) rfl)
  go_enter Tryz.func42, Tryz.ntmps42
  go_wp2_with fail
  refine (HJ.out _).mono ?_
  rintro e w1 ⟨rfl, hw1⟩
  have HA1 : Keep (Has w1 w.heap.size (Dg.zero 0).cells 50 ∧ w.grownBy w1 none ∧ ∃ r, r = w.heap.size) := ⟨by rw [hw1]; exact ⟨HA.out.1, HA.out.2, _, rfl⟩⟩
  clear hw1 HA HJ hm hy h4 h
  obtain ⟨rb, hrb⟩ := HA1.out.2.2
  rw [← hrb] at HA1 ⊢
  have HA2 : Keep (Has w1 rb (Dg.zero 0).cells 50 ∧ w.grownBy w1 none ∧ w.heap.size ≤ rb) := ⟨HA1.out.1, HA1.out.2.1, by omega⟩
  clear HA1 hrb
  go_wp2_with (first | (show wpList _ _ _ ({ dst := _, op := Op.load 50 _, type := _, pos := _, after := _, guard := _ } :: _) _ _; refine wpList_load_mid rfl 50 _ rfl _ _ rfl D.cells _ HF.out.a.range hdu hdr info26 ?_) | (show wpList _ _ _ ({ dst := _, op := Op.store 50 _ _, type := _, pos := _, after := _, guard := _ } :: _) _ _; refine wpList_store_mid rfl 50 _ _ rfl rb 0 D.cells.toArray rfl rfl (HF.out.b.there 0 15 (by decide)) (dg_info D) (dg_one D) ?_) | (show wpList _ _ _ ({ dst := _, op := Op.store 50 _ _, type := _, pos := _, after := _, guard := _ } :: _) _ _; refine store_dg w1 (Dg.zero 1) rfl rfl rfl rfl rfl ?_; intro w2 h2 g2; have HQ : Keep (DQ w w2 rb w1.heap.size (Dg.zero 1).cells) := ⟨h2, HA2.out.1.kept g2 (by simp), HA2.out.2.1.trans g2, HA2.out.2.1.size, HA2.out.2.2, by have := HA2.out.1.lt; omega⟩; clear h2 g2; generalize w1.heap.size = db at HQ ⊢; have c0 : w2.cell? ⟨db, 0, none⟩ = some (.int .i64 1) := HQ.out.a.cellv 0 _ rfl; have c1 := HQ.out.a.cellv 1 _ rfl; have z1 := HQ.out.a.frozen 1; have HF : Keep (DQ w (w2.setCell ⟨db, 1, none⟩ (.string (s.extract 4 20))) rb db (Dg.cells { Dg.zero 1 with nonce := s.extract 4 20 })) := ⟨(HQ.out.set 1 (.string (s.extract 4 20)))⟩; have HT := Keep.mk (HF.out.told rfl); obtain ⟨D, hDe⟩ : ∃ D : Dg, ({ Dg.zero 1 with nonce := s.extract 4 20 } : Dg) = D := ⟨_, rfl⟩; rw [hDe] at HF HT; have HDe := Keep.mk hDe; clear hDe HQ HA2))
  refine ret_ct rfl rfl (cs := D.cells) (t := 50) HT.out.1 hdu hdr info26 rfl ⟨?_, HT.out.2⟩
  rw [← HDe.out]
  rfl
set_option maxHeartbeats 8000000 in
set_option maxRecDepth 100000 in
theorem rd_2 (s : ByteArray) (w : World) (h : ¬ 1200 < s.size) (hm : (sl s).take 3 = magic) (hy : (sl s)[3]? = some 2) (h4 : 3 < s.size) (hc : s.size = 60) (h0 : (dec (sl s)).2 = 0) :
    Calls Tryz.prog 42 #[.string s] w fun e w' => e = .returned (.tuple #[dv (dec (sl s)).1, .int .i64 (dec (sl s)).2]) ∧ w.grownBy w' none := by
  obtain ⟨du, hdu, hdr⟩ := under26
  have hle : s.size ≤ 1200 := Nat.le_of_not_lt h
  have HD := dec_2 (sl s) (by rw [sl_len]; exact hle) hm (kind_is s hm h4 hy)
  rw [sl_len, if_pos hc] at HD
  have HJ : Keep (∀ W, Calls Tryz.prog 72 #[.string s] W fun e w' => e = .returned (.int .i64 0) ∧ w' = W) := ⟨fun W => by have := rjudged_c s W; rw [h0] at this; exact this⟩
  clear h0
  rw [(show ba (((sl s).drop 4).take 16) = s.extract 4 20 from (ext_is s 4 20).symm), (show ba (((sl s).drop 28).take 32) = s.extract 28 60 from (ext_is s 28 60).symm)] at HD
  rw [HD]
  clear HD
  have HN20 := Keep.mk (fun W => rnum_c s 20 W (by omega) (by omega))
  generalize val (((sl s).drop 20).take 8) = n20 at *
  have ix : ∀ W, (Instr.index 9 (.string s) (.int .i64 3)).run Tryz.prog W = .ok (.int .u8 2) W := fun W => idx9 s 3 2 h4 hy W
  have hszi : (s.size : Int) = 60 := by omega
  have HA := Keep.mk (alloc_has (w := w) (D := (Dg.zero 0).cells) rfl)
  go_enter Tryz.func42, Tryz.ntmps42
  go_wp2_with fail
  refine (HJ.out _).mono ?_
  rintro e w1 ⟨rfl, hw1⟩
  have HA1 : Keep (Has w1 w.heap.size (Dg.zero 0).cells 50 ∧ w.grownBy w1 none ∧ ∃ r, r = w.heap.size) := ⟨by rw [hw1]; exact ⟨HA.out.1, HA.out.2, _, rfl⟩⟩
  clear hw1 HA HJ hm hy h4 h
  obtain ⟨rb, hrb⟩ := HA1.out.2.2
  rw [← hrb] at HA1 ⊢
  have HA2 : Keep (Has w1 rb (Dg.zero 0).cells 50 ∧ w.grownBy w1 none ∧ w.heap.size ≤ rb) := ⟨HA1.out.1, HA1.out.2.1, by omega⟩
  clear HA1 hrb
  go_wp2_with (show wpList _ _ _ ({ dst := _, op := Op.store 50 _ _, type := _, pos := _, after := _, guard := _ } :: _) _ _; refine store_dg w1 (Dg.zero 2) rfl rfl rfl rfl rfl ?_; intro w2 h2 g2; have HQ : Keep (DQ w w2 rb w1.heap.size (Dg.zero 2).cells) := ⟨h2, HA2.out.1.kept g2 (by simp), HA2.out.2.1.trans g2, HA2.out.2.1.size, HA2.out.2.2, by have := HA2.out.1.lt; omega⟩; clear h2 g2; generalize w1.heap.size = db at HQ ⊢; have c0 : w2.cell? ⟨db, 0, none⟩ = some (.int .i64 2) := HQ.out.a.cellv 0 _ rfl; have c1 := HQ.out.a.cellv 1 _ rfl; have z1 := HQ.out.a.frozen 1; have c2 := HQ.out.a.cellv 2 _ rfl; have z2 := HQ.out.a.frozen 2; have c3 := HQ.out.a.cellv 3 _ rfl; have z3 := HQ.out.a.frozen 3; have HF : Keep (DQ w (((w2.setCell ⟨db, 1, none⟩ (.string (s.extract 4 20))).setCell ⟨db, 2, none⟩ (.int .u64 ((n20 : Nat) : Int))).setCell ⟨db, 3, none⟩ (.string (s.extract 28 60))) rb db (Dg.cells { Dg.zero 2 with nonce := s.extract 4 20, epoch := n20, cookie := s.extract 28 60 })) := ⟨(((HQ.out.set 1 (.string (s.extract 4 20))).set 2 (.int .u64 ((n20 : Nat) : Int))).set 3 (.string (s.extract 28 60)))⟩; have HT := Keep.mk (HF.out.told rfl); obtain ⟨D, hDe⟩ : ∃ D : Dg, ({ Dg.zero 2 with nonce := s.extract 4 20, epoch := n20, cookie := s.extract 28 60 } : Dg) = D := ⟨_, rfl⟩; rw [hDe] at HF HT; have HDe := Keep.mk hDe; clear hDe HQ HA2)
  refine (HN20.out _).mono ?_
  rintro e w5 ⟨rfl, rfl⟩
  go_wp2_with (first | (show wpList _ _ _ ({ dst := _, op := Op.load 50 _, type := _, pos := _, after := _, guard := _ } :: _) _ _; refine wpList_load_mid rfl 50 _ rfl _ _ rfl D.cells _ HF.out.a.range hdu hdr info26 ?_) | (show wpList _ _ _ ({ dst := _, op := Op.store 50 _ _, type := _, pos := _, after := _, guard := _ } :: _) _ _; refine wpList_store_mid rfl 50 _ _ rfl rb 0 D.cells.toArray rfl rfl (HF.out.b.there 0 15 (by decide)) (dg_info D) (dg_one D) ?_))
  refine ret_ct rfl rfl (cs := D.cells) (t := 50) HT.out.1 hdu hdr info26 rfl ⟨?_, HT.out.2⟩
  rw [← HDe.out]
  rfl
set_option maxHeartbeats 8000000 in
set_option maxRecDepth 100000 in
theorem rd_3 (s : ByteArray) (w : World) (h : ¬ 1200 < s.size) (hm : (sl s).take 3 = magic) (hy : (sl s)[3]? = some 3) (h4 : 3 < s.size) (hc : 93 ≤ s.size ∧ s.size = 93 + ((sl s).getD 60 0).toNat) (h0 : (dec (sl s)).2 = 0) :
    Calls Tryz.prog 42 #[.string s] w fun e w' => e = .returned (.tuple #[dv (dec (sl s)).1, .int .i64 (dec (sl s)).2]) ∧ w.grownBy w' none := by
  obtain ⟨du, hdu, hdr⟩ := under26
  have hle : s.size ≤ 1200 := Nat.le_of_not_lt h
  have HD := dec_3 (sl s) (by rw [sl_len]; exact hle) hm (kind_is s hm h4 hy)
  rw [sl_len, if_pos hc] at HD
  have hge : 93 ≤ s.size := hc.1
  clear hc
  have HJ : Keep (∀ W, Calls Tryz.prog 72 #[.string s] W fun e w' => e = .returned (.int .i64 0) ∧ w' = W) := ⟨fun W => by have := rjudged_c s W; rw [h0] at this; exact this⟩
  clear h0
  rw [(show ba (((sl s).drop 4).take 16) = s.extract 4 20 from (ext_is s 4 20).symm), (show ba (((sl s).drop 28).take 32) = s.extract 28 60 from (ext_is s 28 60).symm), (show ba (((sl s).drop 61).take (s.size - 93)) = s.extract 61 (s.size - 32) by rw [ext_is, show s.size - 32 - 61 = s.size - 93 by omega]), (show ba ((sl s).drop (s.size - 32)) = s.extract (s.size - 32) s.size from (ext_end s _).symm)] at HD
  rw [HD]
  clear HD
  have HN20 := Keep.mk (fun W => rnum_c s 20 W (by omega) (by omega))
  generalize val (((sl s).drop 20).take 8) = n20 at *
  have ix : ∀ W, (Instr.index 9 (.string s) (.int .i64 3)).run Tryz.prog W = .ok (.int .u8 3) W := fun W => idx9 s 3 3 h4 hy W
  have hwn : IntKind.i64.wrap ((s.size : Int) - 32) = ((s.size - 32 : Nat) : Int) := by rw [IntKind.wrap_i64]; omega
  have hsz1 : s.size - 32 ≤ s.size := by omega
  have hsz2 : 61 ≤ s.size - 32 := by omega
  have HA := Keep.mk (alloc_has (w := w) (D := (Dg.zero 0).cells) rfl)
  go_enter Tryz.func42, Tryz.ntmps42
  go_wp2_with fail
  refine (HJ.out _).mono ?_
  rintro e w1 ⟨rfl, hw1⟩
  have HA1 : Keep (Has w1 w.heap.size (Dg.zero 0).cells 50 ∧ w.grownBy w1 none ∧ ∃ r, r = w.heap.size) := ⟨by rw [hw1]; exact ⟨HA.out.1, HA.out.2, _, rfl⟩⟩
  clear hw1 HA HJ hm hy h4 h
  obtain ⟨rb, hrb⟩ := HA1.out.2.2
  rw [← hrb] at HA1 ⊢
  have HA2 : Keep (Has w1 rb (Dg.zero 0).cells 50 ∧ w.grownBy w1 none ∧ w.heap.size ≤ rb) := ⟨HA1.out.1, HA1.out.2.1, by omega⟩
  clear HA1 hrb
  go_wp2_with (show wpList _ _ _ ({ dst := _, op := Op.store 50 _ _, type := _, pos := _, after := _, guard := _ } :: _) _ _; refine store_dg w1 (Dg.zero 3) rfl rfl rfl rfl rfl ?_; intro w2 h2 g2; have HQ : Keep (DQ w w2 rb w1.heap.size (Dg.zero 3).cells) := ⟨h2, HA2.out.1.kept g2 (by simp), HA2.out.2.1.trans g2, HA2.out.2.1.size, HA2.out.2.2, by have := HA2.out.1.lt; omega⟩; clear h2 g2; generalize w1.heap.size = db at HQ ⊢; have c0 : w2.cell? ⟨db, 0, none⟩ = some (.int .i64 3) := HQ.out.a.cellv 0 _ rfl; have c1 := HQ.out.a.cellv 1 _ rfl; have z1 := HQ.out.a.frozen 1; have c2 := HQ.out.a.cellv 2 _ rfl; have z2 := HQ.out.a.frozen 2; have c3 := HQ.out.a.cellv 3 _ rfl; have z3 := HQ.out.a.frozen 3; have c4 := HQ.out.a.cellv 4 _ rfl; have z4 := HQ.out.a.frozen 4; have c14 := HQ.out.a.cellv 14 _ rfl; have z14 := HQ.out.a.frozen 14; have HF : Keep (DQ w (((((w2.setCell ⟨db, 14, none⟩ (.string (s.extract (s.size - 32) s.size))).setCell ⟨db, 1, none⟩ (.string (s.extract 4 20))).setCell ⟨db, 2, none⟩ (.int .u64 ((n20 : Nat) : Int))).setCell ⟨db, 3, none⟩ (.string (s.extract 28 60))).setCell ⟨db, 4, none⟩ (.string (s.extract 61 (s.size - 32)))) rb db (Dg.cells { Dg.zero 3 with nonce := s.extract 4 20, epoch := n20, cookie := s.extract 28 60, name := s.extract 61 (s.size - 32), tag := s.extract (s.size - 32) s.size })) := ⟨(((((HQ.out.set 14 (.string (s.extract (s.size - 32) s.size))).set 1 (.string (s.extract 4 20))).set 2 (.int .u64 ((n20 : Nat) : Int))).set 3 (.string (s.extract 28 60))).set 4 (.string (s.extract 61 (s.size - 32))))⟩; have HT := Keep.mk (HF.out.told rfl); obtain ⟨D, hDe⟩ : ∃ D : Dg, ({ Dg.zero 3 with nonce := s.extract 4 20, epoch := n20, cookie := s.extract 28 60, name := s.extract 61 (s.size - 32), tag := s.extract (s.size - 32) s.size } : Dg) = D := ⟨_, rfl⟩; rw [hDe] at HF HT; have HDe := Keep.mk hDe; clear hDe HQ HA2)
  refine (HN20.out _).mono ?_
  rintro e w5 ⟨rfl, rfl⟩
  go_wp2_with (first | (show wpList _ _ _ ({ dst := _, op := Op.load 50 _, type := _, pos := _, after := _, guard := _ } :: _) _ _; refine wpList_load_mid rfl 50 _ rfl _ _ rfl D.cells _ HF.out.a.range hdu hdr info26 ?_) | (show wpList _ _ _ ({ dst := _, op := Op.store 50 _ _, type := _, pos := _, after := _, guard := _ } :: _) _ _; refine wpList_store_mid rfl 50 _ _ rfl rb 0 D.cells.toArray rfl rfl (HF.out.b.there 0 15 (by decide)) (dg_info D) (dg_one D) ?_))
  refine ret_ct rfl rfl (cs := D.cells) (t := 50) HT.out.1 hdu hdr info26 rfl ⟨?_, HT.out.2⟩
  rw [← HDe.out]
  rfl
set_option maxHeartbeats 8000000 in
set_option maxRecDepth 100000 in
theorem rd_4 (s : ByteArray) (w : World) (h : ¬ 1200 < s.size) (hm : (sl s).take 3 = magic) (hy : (sl s)[3]? = some 4) (h4 : 3 < s.size) (hc : s.size = 77) (h0 : (dec (sl s)).2 = 0) :
    Calls Tryz.prog 42 #[.string s] w fun e w' => e = .returned (.tuple #[dv (dec (sl s)).1, .int .i64 (dec (sl s)).2]) ∧ w.grownBy w' none := by
  obtain ⟨du, hdu, hdr⟩ := under26
  have hle : s.size ≤ 1200 := Nat.le_of_not_lt h
  have HD := dec_4 (sl s) (by rw [sl_len]; exact hle) hm (kind_is s hm h4 hy)
  rw [sl_len, if_pos hc] at HD
  have HJ : Keep (∀ W, Calls Tryz.prog 72 #[.string s] W fun e w' => e = .returned (.int .i64 0) ∧ w' = W) := ⟨fun W => by have := rjudged_c s W; rw [h0] at this; exact this⟩
  clear h0
  obtain ⟨y28, hy28⟩ : ∃ y, (sl s)[28]? = some y := ⟨_, List.getElem?_eq_getElem (by rw [sl_len, hc]; omega)⟩
  have ix28 : ∀ W, (Instr.index 9 (.string s) (.int .i64 28)).run Tryz.prog W = .ok (.int .u8 y28.toNat) W := fun W => idx9 s 28 y28 (by omega) hy28 W
  have hv28 : val (((sl s).drop 28).take 1) = y28.toNat := val_at (by rw [sl_len]; omega) hy28
  have hw28 : IntKind.i64.wrap (y28.toNat : Int) = (y28.toNat : Int) := by have := UInt8.toNat_lt y28; rw [IntKind.wrap_i64]; omega
  rw [(show ba (((sl s).drop 4).take 16) = s.extract 4 20 from (ext_is s 4 20).symm), (show ba (((sl s).drop 29).take 16) = s.extract 29 45 from (ext_is s 29 45).symm), (show ba (((sl s).drop 45).take 32) = s.extract 45 77 from (ext_is s 45 77).symm), hv28] at HD
  rw [HD]
  clear HD
  have HN20 := Keep.mk (fun W => rnum_c s 20 W (by omega) (by omega))
  generalize val (((sl s).drop 20).take 8) = n20 at *
  have ix : ∀ W, (Instr.index 9 (.string s) (.int .i64 3)).run Tryz.prog W = .ok (.int .u8 4) W := fun W => idx9 s 3 4 h4 hy W
  have hszi : (s.size : Int) = 77 := by omega
  have hwn : IntKind.i64.wrap 45 = 45 := by decide
  have HA := Keep.mk (alloc_has (w := w) (D := (Dg.zero 0).cells) rfl)
  go_enter Tryz.func42, Tryz.ntmps42
  go_wp2_with fail
  refine (HJ.out _).mono ?_
  rintro e w1 ⟨rfl, hw1⟩
  have HA1 : Keep (Has w1 w.heap.size (Dg.zero 0).cells 50 ∧ w.grownBy w1 none ∧ ∃ r, r = w.heap.size) := ⟨by rw [hw1]; exact ⟨HA.out.1, HA.out.2, _, rfl⟩⟩
  clear hw1 HA HJ hm hy h4 h
  obtain ⟨rb, hrb⟩ := HA1.out.2.2
  rw [← hrb] at HA1 ⊢
  have HA2 : Keep (Has w1 rb (Dg.zero 0).cells 50 ∧ w.grownBy w1 none ∧ w.heap.size ≤ rb) := ⟨HA1.out.1, HA1.out.2.1, by omega⟩
  clear HA1 hrb
  go_wp2_with (show wpList _ _ _ ({ dst := _, op := Op.store 50 _ _, type := _, pos := _, after := _, guard := _ } :: _) _ _; refine store_dg w1 (Dg.zero 4) rfl rfl rfl rfl rfl ?_; intro w2 h2 g2; have HQ : Keep (DQ w w2 rb w1.heap.size (Dg.zero 4).cells) := ⟨h2, HA2.out.1.kept g2 (by simp), HA2.out.2.1.trans g2, HA2.out.2.1.size, HA2.out.2.2, by have := HA2.out.1.lt; omega⟩; clear h2 g2; generalize w1.heap.size = db at HQ ⊢; have c0 : w2.cell? ⟨db, 0, none⟩ = some (.int .i64 4) := HQ.out.a.cellv 0 _ rfl; have c1 := HQ.out.a.cellv 1 _ rfl; have z1 := HQ.out.a.frozen 1; have c5 := HQ.out.a.cellv 5 _ rfl; have z5 := HQ.out.a.frozen 5; have c6 := HQ.out.a.cellv 6 _ rfl; have z6 := HQ.out.a.frozen 6; have c7 := HQ.out.a.cellv 7 _ rfl; have z7 := HQ.out.a.frozen 7; have c14 := HQ.out.a.cellv 14 _ rfl; have z14 := HQ.out.a.frozen 14; have HF : Keep (DQ w (((((w2.setCell ⟨db, 14, none⟩ (.string (s.extract 45 77))).setCell ⟨db, 1, none⟩ (.string (s.extract 4 20))).setCell ⟨db, 5, none⟩ (.int .u64 ((n20 : Nat) : Int))).setCell ⟨db, 6, none⟩ (.int .i64 (y28.toNat : Int))).setCell ⟨db, 7, none⟩ (.string (s.extract 29 45))) rb db (Dg.cells { Dg.zero 4 with nonce := s.extract 4 20, session := n20, player := (y28.toNat : Int), salt := s.extract 29 45, tag := s.extract 45 77 })) := ⟨(((((HQ.out.set 14 (.string (s.extract 45 77))).set 1 (.string (s.extract 4 20))).set 5 (.int .u64 ((n20 : Nat) : Int))).set 6 (.int .i64 (y28.toNat : Int))).set 7 (.string (s.extract 29 45)))⟩; have HT := Keep.mk (HF.out.told rfl); obtain ⟨D, hDe⟩ : ∃ D : Dg, ({ Dg.zero 4 with nonce := s.extract 4 20, session := n20, player := (y28.toNat : Int), salt := s.extract 29 45, tag := s.extract 45 77 } : Dg) = D := ⟨_, rfl⟩; rw [hDe] at HF HT; have HDe := Keep.mk hDe; clear hDe HQ HA2)
  refine (HN20.out _).mono ?_
  rintro e w5 ⟨rfl, rfl⟩
  go_wp2_with (first | (show wpList _ _ _ ({ dst := _, op := Op.load 50 _, type := _, pos := _, after := _, guard := _ } :: _) _ _; refine wpList_load_mid rfl 50 _ rfl _ _ rfl D.cells _ HF.out.a.range hdu hdr info26 ?_) | (show wpList _ _ _ ({ dst := _, op := Op.store 50 _ _, type := _, pos := _, after := _, guard := _ } :: _) _ _; refine wpList_store_mid rfl 50 _ _ rfl rb 0 D.cells.toArray rfl rfl (HF.out.b.there 0 15 (by decide)) (dg_info D) (dg_one D) ?_))
  refine ret_ct rfl rfl (cs := D.cells) (t := 50) HT.out.1 hdu hdr info26 rfl ⟨?_, HT.out.2⟩
  rw [← HDe.out]
  rfl
set_option maxHeartbeats 8000000 in
set_option maxRecDepth 100000 in
theorem rd_6 (s : ByteArray) (w : World) (h : ¬ 1200 < s.size) (hm : (sl s).take 3 = magic) (hy : (sl s)[3]? = some 6) (h4 : 3 < s.size) (hc : 52 ≤ s.size) (h0 : (dec (sl s)).2 = 0) :
    Calls Tryz.prog 42 #[.string s] w fun e w' => e = .returned (.tuple #[dv (dec (sl s)).1, .int .i64 (dec (sl s)).2]) ∧ w.grownBy w' none := by
  obtain ⟨du, hdu, hdr⟩ := under26
  have hle : s.size ≤ 1200 := Nat.le_of_not_lt h
  have HD := dec_6 (sl s) (by rw [sl_len]; exact hle) hm (kind_is s hm h4 hy)
  rw [sl_len, if_pos hc] at HD
  have HJ : Keep (∀ W, Calls Tryz.prog 72 #[.string s] W fun e w' => e = .returned (.int .i64 0) ∧ w' = W) := ⟨fun W => by have := rjudged_c s W; rw [h0] at this; exact this⟩
  clear h0
  rw [(show ba (((sl s).drop 20).take (s.size - 52)) = s.extract 20 (s.size - 32) by rw [ext_is, show s.size - 32 - 20 = s.size - 52 by omega]), (show ba ((sl s).drop (s.size - 32)) = s.extract (s.size - 32) s.size from (ext_end s _).symm)] at HD
  rw [HD]
  clear HD
  have HN4 := Keep.mk (fun W => rnum_c s 4 W (by omega) (by omega))
  have HN12 := Keep.mk (fun W => rnum_c s 12 W (by omega) (by omega))
  generalize val (((sl s).drop 4).take 8) = n4 at *
  generalize val (((sl s).drop 12).take 8) = n12 at *
  have ix : ∀ W, (Instr.index 9 (.string s) (.int .i64 3)).run Tryz.prog W = .ok (.int .u8 6) W := fun W => idx9 s 3 6 h4 hy W
  have hwn : IntKind.i64.wrap ((s.size : Int) - 32) = ((s.size - 32 : Nat) : Int) := by rw [IntKind.wrap_i64]; omega
  have hsz1 : s.size - 32 ≤ s.size := by omega
  have hsz2 : 20 ≤ s.size - 32 := by omega
  have HA := Keep.mk (alloc_has (w := w) (D := (Dg.zero 0).cells) rfl)
  go_enter Tryz.func42, Tryz.ntmps42
  go_wp2_with fail
  refine (HJ.out _).mono ?_
  rintro e w1 ⟨rfl, hw1⟩
  have HA1 : Keep (Has w1 w.heap.size (Dg.zero 0).cells 50 ∧ w.grownBy w1 none ∧ ∃ r, r = w.heap.size) := ⟨by rw [hw1]; exact ⟨HA.out.1, HA.out.2, _, rfl⟩⟩
  clear hw1 HA HJ hm hy h4 h
  obtain ⟨rb, hrb⟩ := HA1.out.2.2
  rw [← hrb] at HA1 ⊢
  have HA2 : Keep (Has w1 rb (Dg.zero 0).cells 50 ∧ w.grownBy w1 none ∧ w.heap.size ≤ rb) := ⟨HA1.out.1, HA1.out.2.1, by omega⟩
  clear HA1 hrb
  go_wp2_with (show wpList _ _ _ ({ dst := _, op := Op.store 50 _ _, type := _, pos := _, after := _, guard := _ } :: _) _ _; refine store_dg w1 (Dg.zero 6) rfl rfl rfl rfl rfl ?_; intro w2 h2 g2; have HQ : Keep (DQ w w2 rb w1.heap.size (Dg.zero 6).cells) := ⟨h2, HA2.out.1.kept g2 (by simp), HA2.out.2.1.trans g2, HA2.out.2.1.size, HA2.out.2.2, by have := HA2.out.1.lt; omega⟩; clear h2 g2; generalize w1.heap.size = db at HQ ⊢; have c0 : w2.cell? ⟨db, 0, none⟩ = some (.int .i64 6) := HQ.out.a.cellv 0 _ rfl; have c5 := HQ.out.a.cellv 5 _ rfl; have z5 := HQ.out.a.frozen 5; have c8 := HQ.out.a.cellv 8 _ rfl; have z8 := HQ.out.a.frozen 8; have c13 := HQ.out.a.cellv 13 _ rfl; have z13 := HQ.out.a.frozen 13; have c14 := HQ.out.a.cellv 14 _ rfl; have z14 := HQ.out.a.frozen 14; have HF : Keep (DQ w ((((w2.setCell ⟨db, 14, none⟩ (.string (s.extract (s.size - 32) s.size))).setCell ⟨db, 5, none⟩ (.int .u64 ((n4 : Nat) : Int))).setCell ⟨db, 8, none⟩ (.int .u64 ((n12 : Nat) : Int))).setCell ⟨db, 13, none⟩ (.string (s.extract 20 (s.size - 32)))) rb db (Dg.cells { Dg.zero 6 with session := n4, seq := n12, data := s.extract 20 (s.size - 32), tag := s.extract (s.size - 32) s.size })) := ⟨((((HQ.out.set 14 (.string (s.extract (s.size - 32) s.size))).set 5 (.int .u64 ((n4 : Nat) : Int))).set 8 (.int .u64 ((n12 : Nat) : Int))).set 13 (.string (s.extract 20 (s.size - 32))))⟩; have HT := Keep.mk (HF.out.told rfl); obtain ⟨D, hDe⟩ : ∃ D : Dg, ({ Dg.zero 6 with session := n4, seq := n12, data := s.extract 20 (s.size - 32), tag := s.extract (s.size - 32) s.size } : Dg) = D := ⟨_, rfl⟩; rw [hDe] at HF HT; have HDe := Keep.mk hDe; clear hDe HQ HA2)
  refine (HN4.out _).mono ?_
  rintro e w5 ⟨rfl, rfl⟩
  go_wp2_with fail
  refine (HN12.out _).mono ?_
  rintro e w6 ⟨rfl, rfl⟩
  go_wp2_with (first | (show wpList _ _ _ ({ dst := _, op := Op.load 50 _, type := _, pos := _, after := _, guard := _ } :: _) _ _; refine wpList_load_mid rfl 50 _ rfl _ _ rfl D.cells _ HF.out.a.range hdu hdr info26 ?_) | (show wpList _ _ _ ({ dst := _, op := Op.store 50 _ _, type := _, pos := _, after := _, guard := _ } :: _) _ _; refine wpList_store_mid rfl 50 _ _ rfl rb 0 D.cells.toArray rfl rfl (HF.out.b.there 0 15 (by decide)) (dg_info D) (dg_one D) ?_))
  refine ret_ct rfl rfl (cs := D.cells) (t := 50) HT.out.1 hdu hdr info26 rfl ⟨?_, HT.out.2⟩
  rw [← HDe.out]
  rfl
set_option maxHeartbeats 8000000 in
set_option maxRecDepth 100000 in
theorem rd_7 (s : ByteArray) (w : World) (h : ¬ 1200 < s.size) (hm : (sl s).take 3 = magic) (hy : (sl s)[3]? = some 7) (h4 : 3 < s.size) (hc : s.size = 52) (h0 : (dec (sl s)).2 = 0) :
    Calls Tryz.prog 42 #[.string s] w fun e w' => e = .returned (.tuple #[dv (dec (sl s)).1, .int .i64 (dec (sl s)).2]) ∧ w.grownBy w' none := by
  obtain ⟨du, hdu, hdr⟩ := under26
  have hle : s.size ≤ 1200 := Nat.le_of_not_lt h
  have HD := dec_7 (sl s) (by rw [sl_len]; exact hle) hm (kind_is s hm h4 hy)
  rw [sl_len, if_pos hc] at HD
  have HJ : Keep (∀ W, Calls Tryz.prog 72 #[.string s] W fun e w' => e = .returned (.int .i64 0) ∧ w' = W) := ⟨fun W => by have := rjudged_c s W; rw [h0] at this; exact this⟩
  clear h0
  rw [(show ba (((sl s).drop 20).take 32) = s.extract 20 52 from (ext_is s 20 52).symm)] at HD
  rw [HD]
  clear HD
  have HN4 := Keep.mk (fun W => rnum_c s 4 W (by omega) (by omega))
  have HN12 := Keep.mk (fun W => rnum_c s 12 W (by omega) (by omega))
  generalize val (((sl s).drop 4).take 8) = n4 at *
  generalize val (((sl s).drop 12).take 8) = n12 at *
  have ix : ∀ W, (Instr.index 9 (.string s) (.int .i64 3)).run Tryz.prog W = .ok (.int .u8 7) W := fun W => idx9 s 3 7 h4 hy W
  have hszi : (s.size : Int) = 52 := by omega
  have hwn : IntKind.i64.wrap 20 = 20 := by decide
  have HA := Keep.mk (alloc_has (w := w) (D := (Dg.zero 0).cells) rfl)
  go_enter Tryz.func42, Tryz.ntmps42
  go_wp2_with fail
  refine (HJ.out _).mono ?_
  rintro e w1 ⟨rfl, hw1⟩
  have HA1 : Keep (Has w1 w.heap.size (Dg.zero 0).cells 50 ∧ w.grownBy w1 none ∧ ∃ r, r = w.heap.size) := ⟨by rw [hw1]; exact ⟨HA.out.1, HA.out.2, _, rfl⟩⟩
  clear hw1 HA HJ hm hy h4 h
  obtain ⟨rb, hrb⟩ := HA1.out.2.2
  rw [← hrb] at HA1 ⊢
  have HA2 : Keep (Has w1 rb (Dg.zero 0).cells 50 ∧ w.grownBy w1 none ∧ w.heap.size ≤ rb) := ⟨HA1.out.1, HA1.out.2.1, by omega⟩
  clear HA1 hrb
  go_wp2_with (show wpList _ _ _ ({ dst := _, op := Op.store 50 _ _, type := _, pos := _, after := _, guard := _ } :: _) _ _; refine store_dg w1 (Dg.zero 7) rfl rfl rfl rfl rfl ?_; intro w2 h2 g2; have HQ : Keep (DQ w w2 rb w1.heap.size (Dg.zero 7).cells) := ⟨h2, HA2.out.1.kept g2 (by simp), HA2.out.2.1.trans g2, HA2.out.2.1.size, HA2.out.2.2, by have := HA2.out.1.lt; omega⟩; clear h2 g2; generalize w1.heap.size = db at HQ ⊢; have c0 : w2.cell? ⟨db, 0, none⟩ = some (.int .i64 7) := HQ.out.a.cellv 0 _ rfl; have c5 := HQ.out.a.cellv 5 _ rfl; have z5 := HQ.out.a.frozen 5; have c8 := HQ.out.a.cellv 8 _ rfl; have z8 := HQ.out.a.frozen 8; have c14 := HQ.out.a.cellv 14 _ rfl; have z14 := HQ.out.a.frozen 14; have HF : Keep (DQ w (((w2.setCell ⟨db, 14, none⟩ (.string (s.extract 20 52))).setCell ⟨db, 5, none⟩ (.int .u64 ((n4 : Nat) : Int))).setCell ⟨db, 8, none⟩ (.int .u64 ((n12 : Nat) : Int))) rb db (Dg.cells { Dg.zero 7 with session := n4, seq := n12, tag := s.extract 20 52 })) := ⟨(((HQ.out.set 14 (.string (s.extract 20 52))).set 5 (.int .u64 ((n4 : Nat) : Int))).set 8 (.int .u64 ((n12 : Nat) : Int)))⟩; have HT := Keep.mk (HF.out.told rfl); obtain ⟨D, hDe⟩ : ∃ D : Dg, ({ Dg.zero 7 with session := n4, seq := n12, tag := s.extract 20 52 } : Dg) = D := ⟨_, rfl⟩; rw [hDe] at HF HT; have HDe := Keep.mk hDe; clear hDe HQ HA2)
  refine (HN4.out _).mono ?_
  rintro e w5 ⟨rfl, rfl⟩
  go_wp2_with fail
  refine (HN12.out _).mono ?_
  rintro e w6 ⟨rfl, rfl⟩
  go_wp2_with (first | (show wpList _ _ _ ({ dst := _, op := Op.load 50 _, type := _, pos := _, after := _, guard := _ } :: _) _ _; refine wpList_load_mid rfl 50 _ rfl _ _ rfl D.cells _ HF.out.a.range hdu hdr info26 ?_) | (show wpList _ _ _ ({ dst := _, op := Op.store 50 _ _, type := _, pos := _, after := _, guard := _ } :: _) _ _; refine wpList_store_mid rfl 50 _ _ rfl rb 0 D.cells.toArray rfl rfl (HF.out.b.there 0 15 (by decide)) (dg_info D) (dg_one D) ?_))
  refine ret_ct rfl rfl (cs := D.cells) (t := 50) HT.out.1 hdu hdr info26 rfl ⟨?_, HT.out.2⟩
  rw [← HDe.out]
  rfl
end Go.Proofs.YtkdjcknikhgfkaaGreatDoor.Pk
