import Derived.Test.YtkdjcknikhgfkaaGreatDoorST0
/- SnapTurned: the walk -/
namespace Go.Proofs.YtkdjcknikhgfkaaGreatDoor.Pk.Sn
open Go Go.RowKit
def kyB : ByteArray := { data := #[107, 101, 121] }
set_option maxHeartbeats 8000000 in
set_option maxRecDepth 100000 in
theorem snapTurned_c (V : Vw) (a : Option Addr) (c : Nat) (at' : Int) (by' : UInt8) (w : World) (hk : Kc w) (ho : V.ok) (hr : SeenR w a V.S) (hat : -9223372036854775808 ≤ at' ∧ at' < 9223372036854775808) :
    Calls Tryz.prog 7 #[.agg (V.cs a c).toArray, .int .i64 at', .int .u8 (by'.toNat : Int)] w fun e w' => e = .returned (.bool true) ∧ w.grownBy w' none := by
  obtain ⟨d, hd, hrw⟩ := underV
  have HBT := Keep.mk builtV
  obtain ⟨w0, hw0⟩ : ∃ q, w.alloc (.cells (V.cs a c).toArray 29) = q := ⟨_, rfl⟩
  obtain ⟨h0, g0, s0⟩ := hasN hw0
  have HS := Keep.mk (St.start h0 g0 hr)
  have HK := Keep.mk (And.intro hk (And.intro ho hat))
  unfold Vw.cs at hw0 ⊢
  clear h0 g0 s0 hr hk ho hat
  go_enter Tryz.func7, Tryz.ntmps7
  go_wp2_with fail
  refine (alive_c w0 (HK.out.1.kept HS.out.g (by simp))).mono ?_
  rintro e wk1 ⟨rfl, g1⟩
  have HS1 := Keep.mk (HS.out.kept g1)
  clear g1
  go_wp2_with (first
    | (with_reducible show wpList _ _ _ ({ dst := _, op := Op.load 29 (Operand.tmp 3), type := _, pos := _, after := _, guard := _ } :: _) _ _
       refine load_g rfl 29 _ rfl w.heap.size 0 rfl (V.cs a c) d (HS1.out.has mm0).range hd hrw infoV ?_))
  obtain ⟨t, ht⟩ : ∃ q, (mkS 5 6 V kyB).1 = q := ⟨_, rfl⟩
  obtain ⟨cd, hcd⟩ : ∃ q, (mkS 5 6 V kyB).2 = q := ⟨_, rfl⟩
  have HM : Keep ((cd ≠ 0 → t = nob) ∧ (cd = 0 → 52 ≤ t.size ∧ t.size ≤ 1200)) := by
    have h := mk_facts (ses := 5) (seq := 6) (V := V) (key := kyB) (by omega) (by omega) HK.out.2.1
    rw [ht, hcd] at h
    refine ⟨fun q => (h.1 q).1, fun q => ?_⟩
    obtain ⟨_, h2, h3⟩ := h.2 q
    rw [h3, ba_size, List.length_append, snB_len, Mac.hmac_len]
    omega
  have MK := make_c 5 6 V a c kyB wk1 (by omega) (by omega) HK.out.2.1 (HS1.out.seen mm0) (HK.out.1.kept HS1.out.g (by simp)) (by show 3 ≤ _; omega)
  rw [ht, hcd] at MK
  refine MK.mono ?_
  rintro e wk2 ⟨rfl, g2⟩
  have HS2 := Keep.mk (HS1.out.kept g2)
  clear MK g2 ht hcd
  by_cases hz : cd = 0
  rotate_left
  · have hq2 : (cd != 0) = true := by simp [hz]
    have htn : t = nob := HM.out.1 hz
    subst htn
    clear hz
    unfold nob
    go_wp2_with fail
    go_ret
    exact ⟨rfl, HS2.out.g⟩
  have hq2 : (cd != 0) = false := by simp [hz]
  obtain ⟨N, hN⟩ : ∃ N, t.size = N := ⟨_, rfl⟩
  have HN : Keep (52 ≤ N ∧ N ≤ 1200) := by have h := HM.out.2 hz; rw [hN] at h; exact ⟨h⟩
  have hN52 : ¬ (N : Int) < 52 := by have := HN.out; omega
  have hNb : (N : Int) ≤ 1200 := by have := HN.out; omega
  clear hz
  have hcvt : (convert 9 55 (.string t)).run Tryz.prog wk2 = .ok (.slice (some ⟨wk2.heap.size, 0, none⟩) t.size (grownCap wk2 t.size 0 5)) (Lib.bytesWorld wk2 5 t) := Lib.run_convert_string_bytes (P := Tryz.prog) wk2 9 55 5 t (u := .string) under9 under53 under5
  obtain ⟨wb, hwb⟩ : ∃ q, Lib.bytesWorld wk2 5 t = q := ⟨_, rfl⟩
  obtain ⟨bk, hbk⟩ : ∃ q, wk2.heap.size = q := ⟨_, rfl⟩
  obtain ⟨cap, hcap⟩ : ∃ q, grownCap wk2 t.size 0 5 = q := ⟨_, rfl⟩
  have HW : Keep (Wb wb bk (sl t) ∧ wk2.grownBy wb none ∧ N ≤ cap) := ⟨by rw [← hwb, ← hbk]; exact Wb.new _ t, by rw [← hwb]; exact gr_bytes _ t, by rw [← hcap, ← hN]; exact grownCap_ge _ _ _ _⟩
  rw [hwb, hbk, hcap, hN] at hcvt
  have HBK := Keep.mk hbk
  clear hwb hbk hcap
  obtain ⟨p, hp⟩ : ∃ p : Nat, (IntKind.u64.wrap at').tmod (N : Int) = (p : Int) := by
    refine ⟨((IntKind.u64.wrap at') % (N : Int)).toNat, ?_⟩
    have h1 : 0 ≤ IntKind.u64.wrap at' := by rw [wu]; omega
    rw [Int.tmod_eq_emod_of_nonneg h1]
    have h2 : 0 ≤ IntKind.u64.wrap at' % (N : Int) := Int.emod_nonneg _ (by have := HN.out; omega)
    omega
  have hpN : (p : Int) < (N : Int) := by
    have h1 : 0 ≤ IntKind.u64.wrap at' := by rw [wu]; omega
    rw [← hp, Int.tmod_eq_emod_of_nonneg h1]
    exact Int.emod_lt_of_pos _ (by have := HN.out; omega)
  obtain ⟨x, hx⟩ : ∃ x, (sl t)[p]? = some x := ⟨_, List.getElem?_eq_getElem (by rw [sl_len, hN]; omega)⟩
  have xc : wb.cell? ⟨bk, p, none⟩ = some (.int .u8 (x.toNat : Int)) := HW.out.1.at_ p x hx
  have xz := HW.out.1.fz p (List.getElem?_eq_some_iff.1 hx).1
  have HX := Keep.mk hx
  clear hx
  by_cases hb : by' = 0
  · have hbz : ((by'.toNat : Int) == 0) = true := by rw [hb]; rfl
    clear hb
    obtain ⟨y, hy⟩ : ∃ y, x ^^^ 1 = y := ⟨_, rfl⟩
    have hxor : bits .xor .u8 (x.toNat : Int) 1 = (y.toNat : Int) := by rw [← hy]; exact c_xor x 1
    obtain ⟨we, hwe⟩ : ∃ q, wb.setCell ⟨bk, p, none⟩ (.int .u8 (y.toNat : Int)) = q := ⟨_, rfl⟩
    have HE : Keep (Wb we bk ((sl t).set p y) ∧ wk2.grownBy we none) := ⟨by rw [← hwe]; exact HW.out.1.set p y, by rw [← hwe]; exact gr_new HW.out.2.1 (gr_set wb bk p _) (by rw [HBK.out]; exact Nat.le_refl _)⟩
    have HSE := Keep.mk (HS2.out.kept HE.out.2)
    obtain ⟨t2, ht2⟩ : ∃ q, ba ((sl t).set p y) = q := ⟨_, rfl⟩
    have hcv2 : (convert 55 9 (.slice (some ⟨bk, 0, none⟩) N cap)).run Tryz.prog we = .ok (.string t2) we := by
      have h := HE.out.1.bytes N cap (by rw [List.length_set, sl_len, hN]) HW.out.2.2
      rw [ht2] at h
      exact h
    have hN2 : t2.size = N := by rw [← ht2, ba_size, List.length_set, sl_len, hN]
    clear hy ht2
    go_wp2_with fail
    clear hcvt hcv2 xc xz hwe
    have OP := open_c t2 kyB we (HK.out.1.kept HSE.out.g (by simp)) (by rw [hN2]; omega) (by show 3 ≤ _; omega)
    obtain ⟨O, hO⟩ : ∃ q, opS t2 kyB = q := ⟨_, rfl⟩
    have HO : Keep (opS t2 kyB = O) := ⟨hO⟩
    rw [hO] at OP
    clear hO
    refine OP.mono ?_
    rintro e w6 ⟨a6, c6, rfl, RR⟩
    have HS6 := Keep.mk (HSE.out.kept RR.g)
    have HR6 := Keep.mk (rd_seen RR)
    clear OP RR
    obtain ⟨t3, ht3⟩ : ∃ q, ba ((sl t2).take (N - 32)) = q := ⟨_, rfl⟩
    have hsl : ∀ W, (Instr.slice 9 (.string t2) none (some (.int .i64 ((N : Int) - 32))) none).run Tryz.prog W = .ok (.string t3) W := fun W => by
      rw [run_slice_string_h W 9 t2 under9 .i64 ((N : Int) - 32) (by have := HN.out; omega) (by rw [hN2]; omega), show (((N : Int) - 32).toNat) = N - 32 by omega, ext_to, ht3]
    obtain ⟨V6, hV6⟩ : ∃ q, O.2.2.1 = q := ⟨_, rfl⟩
    have HV6 := Keep.mk hV6
    rw [hV6] at HR6
    rw [hV6]
    clear hV6
    go_wp2_with (first
      | (with_reducible show wpList _ _ _ ({ dst := _, op := Op.load 29 (Operand.tmp 14), type := _, pos := _, after := _, guard := _ } :: _) _ _
         refine load_g rfl 29 _ rfl w6.heap.size 0 rfl (V6.cs a6 c6) d (HS3.out.has mm0).range hd hrw infoV ?_)
      | (with_reducible show wpList _ _ _ ({ dst := _, op := Op.load 29 (Operand.tmp 3), type := _, pos := _, after := _, guard := _ } :: _) _ _
         refine load_g rfl 29 _ rfl w.heap.size 0 rfl (V.cs a c) d (HS3.out.has mm1).range hd hrw infoV ?_)
      | (with_reducible show wpList _ _ _ ({ dst := none, op := Op.store 29 (Operand.tmp 14) _, type := _, pos := _, after := _, guard := _ } :: _) _ _
         refine st_new w6 (V6.cs a6 c6) 29 rfl rfl rfl rfl rfl infoV (vw_one _ _ _) ?_
         intro wk3 h6 g6
         have HS3 := Keep.mk (HS6.out.add h6 g6 HR6.out)
         clear h6 g6)
      | (with_reducible show wpList _ _ _ ({ dst := _, op := Op.load 29 (Operand.tmp 3), type := _, pos := _, after := _, guard := _ } :: _) _ _
         refine load_g rfl 29 _ rfl w.heap.size 0 rfl (V.cs a c) d (HS6.out.has mm0).range hd hrw infoV ?_))
    refine (tag_any kyB t3 wk3 (HK.out.1.kept HS3.out.g (by simp)) (by show 3 ≤ _; omega) (by rw [← ht3, ba_size, List.length_take, sl_len]; omega)).mono ?_
    rintro e wk4 ⟨rfl, g7⟩
    have HS4 := Keep.mk (HS3.out.kept g7)
    clear g7
    go_wp2_with fail
    refine (tag_c t2 wk4 (by rw [hN2]; omega) (by rw [hN2]; have := HN.out; omega)).mono ?_
    rintro e w8 ⟨rfl, hw8⟩
    subst hw8
    rw [hN2]
    obtain ⟨H1, hH1⟩ : ∃ q, hmacB kyB t3 = q := ⟨_, rfl⟩
    obtain ⟨H2, hH2⟩ : ∃ q, ba ((sl t2).drop (N - 32)) = q := ⟨_, rfl⟩
    rw [hH1, hH2]
    have HH : Keep (O.2.2.2 = 0 → H1 = H2) := by
      refine ⟨fun h => ?_⟩
      have h2 := (sealed_tag (op_sealed (s := t2) (key := kyB) (by rw [HO.out]; exact h))).2
      rw [hN2, ht3, hH1, hH2] at h2
      exact h2
    clear hH1 hH2 ht3 hsl
    by_cases hHH : H1 = H2
    · subst hHH
      have hbe : (H1.toList == H1.toList) = true := by simp
      go_wp2_with fail
      go_ret
      exact ⟨rfl, HS4.out.g⟩
    have hbe : (H1.toList == H2.toList) = false := by
      have : ¬ H1.toList = H2.toList := fun e => hHH (bainj e)
      simpa using this
    have hbe2 : ¬ H1.toList = H2.toList := fun e => hHH (bainj e)
    obtain ⟨k, hk0, hOe⟩ : ∃ k, k ≠ 0 ∧ O = (0, 0, Vw.zero, k) := by
      have h0 : O.2.2.2 ≠ 0 := fun h => hHH (HH.out h)
      refine ⟨O.2.2.2, h0, ?_⟩
      have h := op_zero t2 kyB (by rw [HO.out]; exact h0)
      rw [HO.out] at h
      exact h
    subst hOe
    obtain rfl : Vw.zero = V6 := HV6.out
    have hkq : (k != 0) = true := by simp [hk0]
    clear hHH HH HV6 HO hk0
    go_wp2_with (first
      | (with_reducible show wpList _ _ _ ({ dst := _, op := Op.build 29 _, type := _, pos := _, after := _, guard := _ } :: _) _ _
         refine build_g rfl 29 _ rfl _ ((congrArg (Tryz.prog.built 29) (by simp only [List.map_toArray, List.map_nil]; rfl)).trans HBT.out) ?_
         simp only [Act.put, List.setIfInBounds_toArray, List.set_cons_zero, List.set_cons_succ])
      | (with_reducible show wpList _ _ _ ({ dst := _, op := Op.load 29 (Operand.tmp 14), type := _, pos := _, after := _, guard := _ } :: _) _ _
         refine load_g rfl 29 _ rfl w6.heap.size 0 rfl (Vw.zero.cs a6 c6) d (HS4.out.has mm0).range hd hrw infoV ?_)
      | (with_reducible show wpList _ _ _ ({ dst := _, op := Op.load 29 (Operand.tmp 3), type := _, pos := _, after := _, guard := _ } :: _) _ _
         refine load_g rfl 29 _ rfl w.heap.size 0 rfl (V.cs a c) d (HS4.out.has mm1).range hd hrw infoV ?_))
    refine (same_c Vw.zero Vw.zero a6 none c6 0 w8 (HS4.out.seen mm0) (seen_nil _) (by show 0 ≤ _; omega)).mono ?_
    rintro e w9 ⟨b, rfl, hb, g9⟩
    obtain rfl : b = true := hb.2 rfl
    have HS9 := Keep.mk (HS4.out.kept g9)
    clear hb g9
    go_wp2_with fail
    go_ret
    exact ⟨rfl, HS9.out.g⟩
  · have hbz : ((by'.toNat : Int) == 0) = false := by
      have : by'.toNat ≠ 0 := fun e => hb (UInt8.toNat_inj.1 e)
      simp; omega
    clear hb
    obtain ⟨y, hy⟩ : ∃ y, x ^^^ by' = y := ⟨_, rfl⟩
    have hxor : bits .xor .u8 (x.toNat : Int) (by'.toNat : Int) = (y.toNat : Int) := by rw [← hy]; exact c_xor x by'
    obtain ⟨we, hwe⟩ : ∃ q, wb.setCell ⟨bk, p, none⟩ (.int .u8 (y.toNat : Int)) = q := ⟨_, rfl⟩
    have HE : Keep (Wb we bk ((sl t).set p y) ∧ wk2.grownBy we none) := ⟨by rw [← hwe]; exact HW.out.1.set p y, by rw [← hwe]; exact gr_new HW.out.2.1 (gr_set wb bk p _) (by rw [HBK.out]; exact Nat.le_refl _)⟩
    have HSE := Keep.mk (HS2.out.kept HE.out.2)
    obtain ⟨t2, ht2⟩ : ∃ q, ba ((sl t).set p y) = q := ⟨_, rfl⟩
    have hcv2 : (convert 55 9 (.slice (some ⟨bk, 0, none⟩) N cap)).run Tryz.prog we = .ok (.string t2) we := by
      have h := HE.out.1.bytes N cap (by rw [List.length_set, sl_len, hN]) HW.out.2.2
      rw [ht2] at h
      exact h
    have hN2 : t2.size = N := by rw [← ht2, ba_size, List.length_set, sl_len, hN]
    clear hy ht2
    go_wp2_with fail
    clear hcvt hcv2 xc xz hwe
    have OP := open_c t2 kyB we (HK.out.1.kept HSE.out.g (by simp)) (by rw [hN2]; omega) (by show 3 ≤ _; omega)
    obtain ⟨O, hO⟩ : ∃ q, opS t2 kyB = q := ⟨_, rfl⟩
    have HO : Keep (opS t2 kyB = O) := ⟨hO⟩
    rw [hO] at OP
    clear hO
    refine OP.mono ?_
    rintro e w6 ⟨a6, c6, rfl, RR⟩
    have HS6 := Keep.mk (HSE.out.kept RR.g)
    have HR6 := Keep.mk (rd_seen RR)
    clear OP RR
    obtain ⟨t3, ht3⟩ : ∃ q, ba ((sl t2).take (N - 32)) = q := ⟨_, rfl⟩
    have hsl : ∀ W, (Instr.slice 9 (.string t2) none (some (.int .i64 ((N : Int) - 32))) none).run Tryz.prog W = .ok (.string t3) W := fun W => by
      rw [run_slice_string_h W 9 t2 under9 .i64 ((N : Int) - 32) (by have := HN.out; omega) (by rw [hN2]; omega), show (((N : Int) - 32).toNat) = N - 32 by omega, ext_to, ht3]
    obtain ⟨V6, hV6⟩ : ∃ q, O.2.2.1 = q := ⟨_, rfl⟩
    have HV6 := Keep.mk hV6
    rw [hV6] at HR6
    rw [hV6]
    clear hV6
    go_wp2_with (first
      | (with_reducible show wpList _ _ _ ({ dst := _, op := Op.load 29 (Operand.tmp 14), type := _, pos := _, after := _, guard := _ } :: _) _ _
         refine load_g rfl 29 _ rfl w6.heap.size 0 rfl (V6.cs a6 c6) d (HS3.out.has mm0).range hd hrw infoV ?_)
      | (with_reducible show wpList _ _ _ ({ dst := _, op := Op.load 29 (Operand.tmp 3), type := _, pos := _, after := _, guard := _ } :: _) _ _
         refine load_g rfl 29 _ rfl w.heap.size 0 rfl (V.cs a c) d (HS3.out.has mm1).range hd hrw infoV ?_)
      | (with_reducible show wpList _ _ _ ({ dst := none, op := Op.store 29 (Operand.tmp 14) _, type := _, pos := _, after := _, guard := _ } :: _) _ _
         refine st_new w6 (V6.cs a6 c6) 29 rfl rfl rfl rfl rfl infoV (vw_one _ _ _) ?_
         intro wk3 h6 g6
         have HS3 := Keep.mk (HS6.out.add h6 g6 HR6.out)
         clear h6 g6)
      | (with_reducible show wpList _ _ _ ({ dst := _, op := Op.load 29 (Operand.tmp 3), type := _, pos := _, after := _, guard := _ } :: _) _ _
         refine load_g rfl 29 _ rfl w.heap.size 0 rfl (V.cs a c) d (HS6.out.has mm0).range hd hrw infoV ?_))
    refine (tag_any kyB t3 wk3 (HK.out.1.kept HS3.out.g (by simp)) (by show 3 ≤ _; omega) (by rw [← ht3, ba_size, List.length_take, sl_len]; omega)).mono ?_
    rintro e wk4 ⟨rfl, g7⟩
    have HS4 := Keep.mk (HS3.out.kept g7)
    clear g7
    go_wp2_with fail
    refine (tag_c t2 wk4 (by rw [hN2]; omega) (by rw [hN2]; have := HN.out; omega)).mono ?_
    rintro e w8 ⟨rfl, hw8⟩
    subst hw8
    rw [hN2]
    obtain ⟨H1, hH1⟩ : ∃ q, hmacB kyB t3 = q := ⟨_, rfl⟩
    obtain ⟨H2, hH2⟩ : ∃ q, ba ((sl t2).drop (N - 32)) = q := ⟨_, rfl⟩
    rw [hH1, hH2]
    have HH : Keep (O.2.2.2 = 0 → H1 = H2) := by
      refine ⟨fun h => ?_⟩
      have h2 := (sealed_tag (op_sealed (s := t2) (key := kyB) (by rw [HO.out]; exact h))).2
      rw [hN2, ht3, hH1, hH2] at h2
      exact h2
    clear hH1 hH2 ht3 hsl
    by_cases hHH : H1 = H2
    · subst hHH
      have hbe : (H1.toList == H1.toList) = true := by simp
      go_wp2_with fail
      go_ret
      exact ⟨rfl, HS4.out.g⟩
    have hbe : (H1.toList == H2.toList) = false := by
      have : ¬ H1.toList = H2.toList := fun e => hHH (bainj e)
      simpa using this
    have hbe2 : ¬ H1.toList = H2.toList := fun e => hHH (bainj e)
    obtain ⟨k, hk0, hOe⟩ : ∃ k, k ≠ 0 ∧ O = (0, 0, Vw.zero, k) := by
      have h0 : O.2.2.2 ≠ 0 := fun h => hHH (HH.out h)
      refine ⟨O.2.2.2, h0, ?_⟩
      have h := op_zero t2 kyB (by rw [HO.out]; exact h0)
      rw [HO.out] at h
      exact h
    subst hOe
    obtain rfl : Vw.zero = V6 := HV6.out
    have hkq : (k != 0) = true := by simp [hk0]
    clear hHH HH HV6 HO hk0
    go_wp2_with (first
      | (with_reducible show wpList _ _ _ ({ dst := _, op := Op.build 29 _, type := _, pos := _, after := _, guard := _ } :: _) _ _
         refine build_g rfl 29 _ rfl _ ((congrArg (Tryz.prog.built 29) (by simp only [List.map_toArray, List.map_nil]; rfl)).trans HBT.out) ?_
         simp only [Act.put, List.setIfInBounds_toArray, List.set_cons_zero, List.set_cons_succ])
      | (with_reducible show wpList _ _ _ ({ dst := _, op := Op.load 29 (Operand.tmp 14), type := _, pos := _, after := _, guard := _ } :: _) _ _
         refine load_g rfl 29 _ rfl w6.heap.size 0 rfl (Vw.zero.cs a6 c6) d (HS4.out.has mm0).range hd hrw infoV ?_)
      | (with_reducible show wpList _ _ _ ({ dst := _, op := Op.load 29 (Operand.tmp 3), type := _, pos := _, after := _, guard := _ } :: _) _ _
         refine load_g rfl 29 _ rfl w.heap.size 0 rfl (V.cs a c) d (HS4.out.has mm1).range hd hrw infoV ?_))
    refine (same_c Vw.zero Vw.zero a6 none c6 0 w8 (HS4.out.seen mm0) (seen_nil _) (by show 0 ≤ _; omega)).mono ?_
    rintro e w9 ⟨b, rfl, hb, g9⟩
    obtain rfl : b = true := hb.2 rfl
    have HS9 := Keep.mk (HS4.out.kept g9)
    clear hb g9
    go_wp2_with fail
    go_ret
    exact ⟨rfl, HS9.out.g⟩
end Go.Proofs.YtkdjcknikhgfkaaGreatDoor.Pk.Sn
