import Derived.Test.YtjbkoablleneeaaGreatDoorX23
/- BookBytes: the walk, where all fits -/
namespace Go.Proofs.YtjbkoablleneeaaGreatDoor.Pk
open Go Go.RowKit

set_option maxRecDepth 100000 in
set_option maxHeartbeats 16000000 in
theorem bytes_some (hal : AliveC) (a : Option Addr) (n c : Nat) (L : List En) (w : World) (at_ : Int) (by_ : UInt8) (more : List UInt8) (b : List UInt8) (hb : wBody L = some b) (hE : Es w a n c L) (hz : a = none → c = 0) (hok : ∀ e ∈ L, e.Ok) (hwk : Wk w) (hn : n ≤ 1048576) (hT : tl L ≤ 134217728) (hm : more.length ≤ 1048576) (_ha1 : -9223372036854775808 ≤ at_) (_ha2 : at_ < 9223372036854775808) :
    Calls Tryz.prog 3 #[.slice a n c, .agg #[iv at_, .int .u8 by_.toNat, .string (ba more)]] w fun e w' => e = .returned (.bool true) ∧ w.grownBy w' none := by
  have HA := Keep.mk hal
  have HE := Keep.mk (And.intro hE hz)
  have HO := Keep.mk hok
  have HW := Keep.mk hwk
  have HT := Keep.mk hT
  have HLN := Keep.mk hE.len
  have HM := ba_size more
  obtain ⟨MB, hMB⟩ : ∃ q, ba more = q := ⟨_, rfl⟩
  rw [hMB] at HM ⊢
  have hbl : b.length ≤ 134217800 := by
    have h1 := wUpto_len L L.length
    rw [wUpto_all, hb] at h1
    simp at h1; omega
  have HWV : Keep (wrS Sha.sha L = b ++ Sha.sha b ∧ werr (wBody L) = 0) := ⟨by rw [wrS_eq, hb]; exact ⟨rfl, rfl⟩⟩
  have HRD : Keep (∀ W : World, Kc W → Calls Tryz.prog 11 #[.string (ba (b ++ Sha.sha b))] W fun e w' => ∃ v, e = .returned (.tuple #[v, .int .i64 0]) ∧ Rw w' W.heap.size v L ∧ W.grownBy w' none) := ⟨fun W hk => by
    have h1 := read_c (b ++ Sha.sha b) W hk (by rw [List.length_append, sha_len]; omega)
    rw [rd_wr Sha.sha sha_len L hok (by rw [hE.len]; omega) b hb] at h1
    exact h1⟩
  have hss : (ba (b ++ Sha.sha b)).size = b.length + 32 := by rw [ba_size, List.length_append, sha_len]
  obtain ⟨SB, hSB⟩ : ∃ q, ba (b ++ Sha.sha b) = q := ⟨_, rfl⟩
  have HSV : Keep (ba (wrS Sha.sha L) = SB) := ⟨by rw [HWV.out.1]; exact hSB⟩
  rw [hSB] at HRD hss
  have hs1 : SB.size ≤ 134217900 := by omega
  have hs0 : 32 ≤ SB.size := by omega
  have HEV : Keep (werr (wBody L) = 0) := ⟨HWV.out.2⟩
  have HSL := Keep.mk (hMB)
  clear hal hE hz hok hwk hT hMB hb HWV hSB hss hbl
  go_enter Tryz.func3, Tryz.ntmps3
  go_wp2_with fail
  refine wp_region_held_drew (S := fun W => Has W w.heap.size [iv at_, .int .u8 by_.toNat, .string MB] 24 ∧ w.grownBy W none) (by kernel_rfl) ⟨(Has.newA w #[iv at_, .int .u8 by_.toNat, .string MB] 24).kept (gr_drew _ none) (by simp), (World.grownBy_alloc _ _ _).trans (gr_drew _ _)⟩ (fun hHeld => ?_)
  refine wpAnyH_take (i := 0) (oi := _) (v := ?_) rfl (by kernel_rfl) (by kernel_rfl) (by kernel_rfl) (fun _ _ _ h => h) (Or.inl ⟨by rfl, ?_⟩) (by assumption) ?_
  rotate_left
  · (intro w hSw; go_simp; first | done | (with_reducible rfl))
  simp only [Act.put, List.getElem_toArray, List.getElem_cons_zero, List.setIfInBounds_toArray, List.set_cons_zero, List.set_cons_succ]
  refine wpAnyH_take (i := 1) (oi := _) (v := ?_) rfl (by kernel_rfl) (by kernel_rfl) (by kernel_rfl) (fun _ _ _ h => h) (Or.inl ⟨by rfl, ?_⟩) (by assumption) ?_
  rotate_left
  · (intro w hSw; have cc0 := hSw.1.cellv 0 _ rfl; have cc1 := hSw.1.cellv 1 _ rfl; have cc2 := hSw.1.cellv 2 _ rfl; go_simp; first | done | (with_reducible rfl))
  simp only [Act.put, List.getElem_toArray, List.getElem_cons_succ, List.getElem_cons_zero, List.setIfInBounds_toArray, List.set_cons_zero, List.set_cons_succ]
  refine wpAnyH_take (i := 2) (oi := _) (v := ?_) rfl (by kernel_rfl) (by kernel_rfl) (by kernel_rfl) (fun _ _ _ h => h) (Or.inl ⟨by rfl, ?_⟩) (by assumption) ?_
  rotate_left
  · (intro w hSw; go_simp; first | done | (with_reducible rfl))
  simp only [Act.put, List.getElem_toArray, List.getElem_cons_succ, List.getElem_cons_zero, List.setIfInBounds_toArray, List.set_cons_zero, List.set_cons_succ]
  refine wpAnyH_take (i := 3) (oi := _) (v := ?_) rfl (by kernel_rfl) (by kernel_rfl) (by kernel_rfl) (fun _ _ _ h => h) (Or.inl ⟨by rfl, ?_⟩) (by assumption) ?_
  rotate_left
  · (intro w hSw; have cc0 := hSw.1.cellv 0 _ rfl; have cc1 := hSw.1.cellv 1 _ rfl; have cc2 := hSw.1.cellv 2 _ rfl; go_simp; first | done | (with_reducible rfl))
  simp only [Act.put, List.getElem_toArray, List.getElem_cons_succ, List.getElem_cons_zero, List.setIfInBounds_toArray, List.set_cons_zero, List.set_cons_succ]
  refine wpAnyH_take (i := 4) (oi := _) (v := ?_) rfl (by kernel_rfl) (by kernel_rfl) (by kernel_rfl) (fun _ _ _ h => h) (Or.inl ⟨by rfl, ?_⟩) (by assumption) ?_
  rotate_left
  · (intro w hSw; go_simp; first | done | (with_reducible rfl))
  simp only [Act.put, List.getElem_toArray, List.getElem_cons_succ, List.getElem_cons_zero, List.setIfInBounds_toArray, List.set_cons_zero, List.set_cons_succ]
  refine wpAnyH_take (i := 5) (oi := _) (v := ?_) rfl (by kernel_rfl) (by kernel_rfl) (by kernel_rfl) (fun _ _ _ h => h) (Or.inl ⟨by rfl, ?_⟩) (by assumption) ?_
  rotate_left
  · (intro w hSw; have cc0 := hSw.1.cellv 0 _ rfl; have cc1 := hSw.1.cellv 1 _ rfl; have cc2 := hSw.1.cellv 2 _ rfl; go_simp; first | done | (with_reducible rfl))
  simp only [Act.put, List.getElem_toArray, List.getElem_cons_succ, List.getElem_cons_zero, List.setIfInBounds_toArray, List.set_cons_zero, List.set_cons_succ]
  refine wpAnyH_take (i := 6) (oi := _) (v := ?_) rfl (by kernel_rfl) (by kernel_rfl) (by kernel_rfl) (fun _ _ _ h => h) (Or.inl ⟨by rfl, ?_⟩) (by assumption) ?_
  rotate_left
  · (intro w hSw; go_simp; first | done | (with_reducible rfl))
  simp only [Act.put, List.getElem_toArray, List.getElem_cons_succ, List.getElem_cons_zero, List.setIfInBounds_toArray, List.set_cons_zero, List.set_cons_succ]
  refine wpAnyH_take (i := 7) (oi := _) (v := ?_) rfl (by kernel_rfl) (by kernel_rfl) (by kernel_rfl) (fun _ _ _ h => h) (Or.inl ⟨by rfl, ?_⟩) (by assumption) ?_
  rotate_left
  · (intro w hSw; go_simp; first | done | (with_reducible rfl))
  simp only [Act.put, List.getElem_toArray, List.getElem_cons_succ, List.getElem_cons_zero, List.setIfInBounds_toArray, List.set_cons_zero, List.set_cons_succ]
  refine wpAnyH_take (i := 8) (oi := _) (v := ?_) rfl (by kernel_rfl) (by kernel_rfl) (by kernel_rfl) (fun _ _ _ h => h) (Or.inl ⟨by rfl, ?_⟩) (by assumption) ?_
  rotate_left
  · (intro w hSw; go_simp; first | done | (with_reducible rfl))
  simp only [Act.put, List.getElem_toArray, List.getElem_cons_succ, List.getElem_cons_zero, List.setIfInBounds_toArray, List.set_cons_zero, List.set_cons_succ]
  refine wpAnyH_done (by kernel_rfl) ?_ _

  have HG0 := Keep.mk hHeld.2
  generalize World.drew _ = wd at hHeld HG0 ⊢
  clear hHeld
  go_wp2_with fail
  refine (HA.out _ (HW.out.kept HG0.out)).mono ?_
  rintro e w1 ⟨rfl, g1⟩
  have HG1 := Keep.mk (HG0.out.trans g1)
  clear g1 HG0 HA
  go_wp2_with fail
  refine (lend_c a n c L _ (HE.out.1.kept HG1.out) HE.out.2 hn).mono ?_
  rintro e w2 ⟨g, q, rfl, g2, es2⟩
  have HG2 := Keep.mk (HG1.out.trans g2)
  have HMI : Keep (Es w2 (some ⟨g, 0, none⟩) (n + 2) q (L ++ [m77, m78]) ∧ Es w2 (some ⟨g, 0, none⟩) n q L) := ⟨es2, by
    have := es2.sub (m := n) (by omega)
    rwa [List.take_append_of_le_length (by rw [HLN.out]; exact Nat.le_refl _), List.take_of_length_le (by rw [HLN.out]; exact Nat.le_refl _)] at this⟩
  clear g2 es2 HG1
  go_wp2_with fail
  refine (write_c _ n q L _ HMI.out.2 HO.out (HW.out.kept HG2.out).k (by omega) (by have := HT.out; omega)).mono ?_
  rintro e w3 ⟨rfl, g3⟩
  rw [HSV.out, HEV.out]
  have HG3 := Keep.mk (HG2.out.trans g3)
  have HM3 := Keep.mk (HMI.out.1.kept g3)
  clear g3 HG2 HMI
  go_wp2_with fail
  refine (rwrite_c a n c L _ (HE.out.1.kept HG3.out) HO.out (HW.out.kept HG3.out).r (Nat.le_trans (by decide) (HW.out.kept HG3.out).h) (by omega) (by have := HT.out; omega)).mono ?_
  rintro e w4 ⟨rfl, g4⟩
  rw [HSV.out, HEV.out]
  have HG4 := Keep.mk (HG3.out.trans g4)
  have HM4 := Keep.mk (HM3.out.kept g4)
  clear g4 HG3 HM3
  go_wp2_with fail
  refine (kept_c g n q a c L _ HM4.out (HE.out.1.kept HG4.out) hn).mono ?_
  rintro e w5 ⟨rfl, g5⟩
  have HG5 := Keep.mk (HG4.out.trans g5)
  clear g5 HG4 HM4
  go_wp2_with fail
  refine (HRD.out _ (HW.out.kept HG5.out).k).mono ?_
  rintro e w6 ⟨v6, rfl, r6, g6⟩
  have HG6 := Keep.mk (HG5.out.trans g6)
  have HR6 : Keep (Rw w6 w.heap.size v6 L) := ⟨r6.base HG5.out.size⟩
  clear g6 r6 HG5
  go_wp2_with fail
  refine (HRD.out _ (HW.out.kept HG6.out).k).mono ?_
  rintro e w7 ⟨v7, rfl, r7, g7⟩
  have HOV : Keep (Ov w w7 v6 w6.heap.size v7 L 0) := ⟨by rw [List.replicate_zero, List.nil_append, List.drop_zero]; exact HR6.out.kept g7, r7, fun g hg => (HR6.out.own hg).2, HG6.out.trans g7⟩
  obtain ⟨a6, c6, e6, es6, _⟩ := (HR6.out.kept g7).es
  obtain ⟨a7, c7, e7, es7, _⟩ := r7.es
  rw [HLN.out] at e6 es6 e7 es7
  subst e6 e7
  have HS7 := Keep.mk (And.intro es6 es7)
  clear g7 r7 HG6 HR6 es6 es7 HRD
  go_wp2_with fail
  refine (same_c a6 a n c6 c L _ HS7.out.1 (HE.out.1.kept HOV.out.gr) (by omega)).mono ?_
  rintro e w8 ⟨rfl, g8⟩
  have HO8 : Keep (Ov w w8 (.slice a6 n c6) w6.heap.size (.slice a7 n c7) L 0) := ⟨HOV.out.k.kept g8, HOV.out.a.kept g8, HOV.out.lt, HOV.out.gr.trans g8⟩
  clear g8 HS7 HOV
  generalize w6.heap.size = B6 at HO8
  go_wp2_with fail
  go_loopw [17] (fun t w' => ∃ i : Nat, i ≤ n ∧ t = .int .i64 i ∧ Keep (Ov w w' (.slice a6 n c6) B6 (.slice a7 n c7) L i)) (fun t _ => n - (intOf t).toNat)
  case atStart => exact ⟨0, by omega, rfl, HO8⟩
  case round =>
    obtain ⟨i, hi, rfl, HI⟩ := hrel
    by_cases hlt : i < n
    · obtain ⟨gk, rfl⟩ := HI.out.form (by rw [HLN.out]; exact hlt)
      obtain ⟨th, ov⟩ := HI.out.step (by rw [HLN.out]; exact hlt)
      have HTH := Keep.mk th
      have HOV := Keep.mk ov
      clear th ov
      go_wp2_with (
        (show wpList _ _ _ ({ dst := _, op := Op.store 35 _ _, type := _, pos := _, after := _, guard := _ } :: _) _ _
         refine wpList_store_mid rfl 35 _ _ rfl gk (i * 8) (en m5).toArray rfl rfl HTH.out (info35 m5) (one35 m5) ?_))
      exact ⟨⟨i + 1, by omega, by go_num, HOV⟩, by simp only [intOf]; omega⟩
    · obtain rfl : i = n := by omega
      have HOE : Keep (Ov w wr (.slice a6 i c6) B6 (.slice a7 i c7) L L.length) := ⟨by have := HI.out; rwa [← HLN.out] at this ⊢⟩
      obtain ⟨g9, c9, w9, r9, cl9, rw9, gr9⟩ := HOE.out.app HOE.out.gr.size (by rw [HLN.out]; omega)
      rw [HLN.out] at r9 cl9
      have AP := Keep.mk r9
      have HC9 := Keep.mk (And.intro cl9 gr9)
      obtain ⟨a9, c9', e9, es9, _⟩ := rw9.es
      rw [HLN.out] at e9 es9
      injection e9 with z1 z2 z3
      subst z1 z3
      have HS9 := Keep.mk es9
      clear r9 cl9 rw9 gr9 es9 HOE HI hlt hi HO8 z2
      go_wp2_with (
        (show wpList _ _ _ ({ dst := some 86, op := Op.call { callee := Callee.builtin Builtin.append, args := _, argTypes := _ }, type := _, pos := _, after := _, guard := _ } :: _) _ _
         refine wpList_append_run2 _ rfl _ _ 22 22 rfl _ _ rfl rfl AP.out ?_))
      refine (same_c a7 a i c7 c L _ HS9.out (HE.out.1.kept HC9.out.2) (by omega)).mono ?_
      rintro e w10 ⟨rfl, g10⟩
      have cl : w10.cell? ⟨g9, i * 8, none⟩ = some (iv (-5)) := g10.cell HC9.out.1 (by simp)
      have HG10 := Keep.mk (HC9.out.2.trans g10)
      clear g10 HC9 HS9 AP
      have hi1 : IntKind.i64.wrap ((i : Int) + 1 - 1) = (i : Int) := by rw [wi _ (by omega) (by omega)]; omega
      have hpos : (0 : Int) < (SB.size : Int) := by omega
      by_cases hneg : at_.tmod (SB.size : Int) < 0
      · have hb1 := Int.tmod_lt_of_pos at_ hpos
        have hb2 := Int.tmod_lt_of_pos (-at_) hpos; rw [Int.neg_tmod] at hb2
        obtain ⟨kx, hkx⟩ : ∃ kx : Nat, at_.tmod (SB.size : Int) + (SB.size : Int) = (kx : Int) := ⟨(at_.tmod (SB.size : Int) + (SB.size : Int)).toNat, by omega⟩
        have hkl : kx < SB.size := by omega
        have hki : (kx : Int) < (SB.size : Int) := by omega
        have hcv := cvt SB
        obtain ⟨z, hz⟩ : ∃ z, (Go.Proofs.YtjbkoablleneeaaGreatDoor.sl SB)[kx]? = some z := ⟨_, List.getElem?_eq_getElem (by rw [Go.Proofs.YtjbkoablleneeaaGreatDoor.sl_len]; exact hkl)⟩
        have hcz : (Lib.bytesWorld w10 5 SB).cell? ⟨w10.heap.size, kx, none⟩ = some (.int .u8 z.toNat) := bytes_cells w10 SB kx z hz
        have hfz := bytes_frozen w10 SB kx hkl
        have hxr := c_xor z by_
        obtain ⟨v, hv⟩ : ∃ v, z ^^^ by_ = v := ⟨_, rfl⟩
        rw [hv] at hxr
        obtain ⟨hby, hgr⟩ := row_set w10 SB kx v (grownCap w10 SB.size 0 5) (grownCap_ge w10 SB.size 0 5) hkl
        have hback := cvt_back _ _ _ _ _ hby (by simp)
        have HG11 : Keep (w.grownBy ((Lib.bytesWorld w10 5 SB).setCell ⟨w10.heap.size, kx, none⟩ (.int .u8 v.toNat)) none) := ⟨HG10.out.trans hgr⟩
        have hxs : (⟨((Go.Proofs.YtjbkoablleneeaaGreatDoor.sl SB).set kx v).toArray⟩ : ByteArray).size = SB.size := by rw [← Go.Proofs.YtjbkoablleneeaaGreatDoor.sl_len, Go.Proofs.YtjbkoablleneeaaGreatDoor.sl_mk, List.length_set, Go.Proofs.YtjbkoablleneeaaGreatDoor.sl_len]
        generalize (⟨((Go.Proofs.YtjbkoablleneeaaGreatDoor.sl SB).set kx v).toArray⟩ : ByteArray) = XS at hback hxs
        have hex : (SB.extract 0 kx).size = kx := by rw [ext_sl, ba_size, List.drop_zero, List.length_take, sl_len]; omega
        have hzl := z.toNat_lt
        clear hby hgr hz hv HG10
        go_wp2_with fail
        refine (reads_b _ _ (HW.out.kept HG11.out).k (HW.out.kept HG11.out).r (Nat.le_trans (by decide) (HW.out.kept HG11.out).h) (by rw [hxs]; omega)).mono ?_
        rintro e p12 ⟨rfl, g12⟩
        have HG12 := Keep.mk (HG11.out.trans g12)
        clear g12 HG11 hback hcz hfz hxr
        go_wp2_with fail
        refine (reads_b _ _ (HW.out.kept HG12.out).k (HW.out.kept HG12.out).r (Nat.le_trans (by decide) (HW.out.kept HG12.out).h) (by rw [hex]; omega)).mono ?_
        rintro e p13 ⟨rfl, g13⟩
        have HG13 := Keep.mk (HG12.out.trans g13)
        clear g13 HG12
        go_wp2_with fail
        refine (resum_c _ _ (HW.out.kept HG13.out).r (Nat.le_trans (by decide) (HW.out.kept HG13.out).h) (by rw [hex]; omega)).mono ?_
        rintro e p14 ⟨rfl, g14⟩
        have HG14 := Keep.mk (HG13.out.trans g14)
        clear g14 HG13
        go_wp2_with fail
        refine (reads_b _ _ (HW.out.kept HG14.out).k (HW.out.kept HG14.out).r (Nat.le_trans (by decide) (HW.out.kept HG14.out).h) (by rw [app_size, shaB_size, hex]; omega)).mono ?_
        rintro e p15 ⟨rfl, g15⟩
        have HG15 := Keep.mk (HG14.out.trans g15)
        clear g15 HG14
        go_wp2_with fail
        refine (reads_b _ _ (HW.out.kept HG15.out).k (HW.out.kept HG15.out).r (Nat.le_trans (by decide) (HW.out.kept HG15.out).h) (by (repeat rw [app_size]); (try rw [shaB_size]); (repeat rw [app_size]); (try rw [show (ByteArray.mk #[74, 66, 48, 49]).size = 4 from rfl]); (try rw [show (ByteArray.mk #[]).size = 0 from rfl]); omega)).mono ?_
        rintro e p21 ⟨rfl, g21⟩
        have HG21 := Keep.mk (HG15.out.trans g21)
        clear g21 HG15
        go_wp2_with fail
        refine (reads_b _ _ (HW.out.kept HG21.out).k (HW.out.kept HG21.out).r (Nat.le_trans (by decide) (HW.out.kept HG21.out).h) (by omega)).mono ?_
        rintro e p22 ⟨rfl, g22⟩
        have HG22 := Keep.mk (HG21.out.trans g22)
        clear g22 HG21
        go_wp2_with fail
        refine (resum_c _ _ (HW.out.kept HG22.out).r (Nat.le_trans (by decide) (HW.out.kept HG22.out).h) (by omega)).mono ?_
        rintro e p23 ⟨rfl, g23⟩
        have HG23 := Keep.mk (HG22.out.trans g23)
        clear g23 HG22
        go_wp2_with fail
        refine (reads_b _ _ (HW.out.kept HG23.out).k (HW.out.kept HG23.out).r (Nat.le_trans (by decide) (HW.out.kept HG23.out).h) (by (repeat rw [app_size]); (try rw [shaB_size]); (repeat rw [app_size]); (try rw [show (ByteArray.mk #[74, 66, 48, 49]).size = 4 from rfl]); (try rw [show (ByteArray.mk #[]).size = 0 from rfl]); omega)).mono ?_
        rintro e p24 ⟨rfl, g24⟩
        have HG24 := Keep.mk (HG23.out.trans g24)
        clear g24 HG23
        go_wp2_with fail
        refine (resum_c _ _ (HW.out.kept HG24.out).r (Nat.le_trans (by decide) (HW.out.kept HG24.out).h) (by (repeat rw [app_size]); (try rw [shaB_size]); (repeat rw [app_size]); (try rw [show (ByteArray.mk #[74, 66, 48, 49]).size = 4 from rfl]); (try rw [show (ByteArray.mk #[]).size = 0 from rfl]); omega)).mono ?_
        rintro e p25 ⟨rfl, g25⟩
        have HG25 := Keep.mk (HG24.out.trans g25)
        clear g25 HG24
        go_wp2_with fail
        refine (reads_b _ _ (HW.out.kept HG25.out).k (HW.out.kept HG25.out).r (Nat.le_trans (by decide) (HW.out.kept HG25.out).h) (by (repeat rw [app_size]); (try rw [shaB_size]); (repeat rw [app_size]); (try rw [show (ByteArray.mk #[74, 66, 48, 49]).size = 4 from rfl]); (try rw [show (ByteArray.mk #[]).size = 0 from rfl]); omega)).mono ?_
        rintro e p26 ⟨rfl, g26⟩
        have HG26 := Keep.mk (HG25.out.trans g26)
        clear g26 HG25
        go_wp2_with fail
        go_ret
        exact ⟨rfl, HG26.out⟩
      · have hb1 := Int.tmod_lt_of_pos at_ hpos
        have hb2 : 0 ≤ at_.tmod (SB.size : Int) := by omega
        obtain ⟨kx, hkx⟩ : ∃ kx : Nat, at_.tmod (SB.size : Int) = (kx : Int) := ⟨(at_.tmod (SB.size : Int)).toNat, by omega⟩
        have hkl : kx < SB.size := by omega
        have hki : (kx : Int) < (SB.size : Int) := by omega
        have hcv := cvt SB
        obtain ⟨z, hz⟩ : ∃ z, (Go.Proofs.YtjbkoablleneeaaGreatDoor.sl SB)[kx]? = some z := ⟨_, List.getElem?_eq_getElem (by rw [Go.Proofs.YtjbkoablleneeaaGreatDoor.sl_len]; exact hkl)⟩
        have hcz : (Lib.bytesWorld w10 5 SB).cell? ⟨w10.heap.size, kx, none⟩ = some (.int .u8 z.toNat) := bytes_cells w10 SB kx z hz
        have hfz := bytes_frozen w10 SB kx hkl
        have hxr := c_xor z by_
        obtain ⟨v, hv⟩ : ∃ v, z ^^^ by_ = v := ⟨_, rfl⟩
        rw [hv] at hxr
        obtain ⟨hby, hgr⟩ := row_set w10 SB kx v (grownCap w10 SB.size 0 5) (grownCap_ge w10 SB.size 0 5) hkl
        have hback := cvt_back _ _ _ _ _ hby (by simp)
        have HG11 : Keep (w.grownBy ((Lib.bytesWorld w10 5 SB).setCell ⟨w10.heap.size, kx, none⟩ (.int .u8 v.toNat)) none) := ⟨HG10.out.trans hgr⟩
        have hxs : (⟨((Go.Proofs.YtjbkoablleneeaaGreatDoor.sl SB).set kx v).toArray⟩ : ByteArray).size = SB.size := by rw [← Go.Proofs.YtjbkoablleneeaaGreatDoor.sl_len, Go.Proofs.YtjbkoablleneeaaGreatDoor.sl_mk, List.length_set, Go.Proofs.YtjbkoablleneeaaGreatDoor.sl_len]
        generalize (⟨((Go.Proofs.YtjbkoablleneeaaGreatDoor.sl SB).set kx v).toArray⟩ : ByteArray) = XS at hback hxs
        have hex : (SB.extract 0 kx).size = kx := by rw [ext_sl, ba_size, List.drop_zero, List.length_take, sl_len]; omega
        have hzl := z.toNat_lt
        clear hby hgr hz hv HG10
        go_wp2_with fail
        refine (reads_b _ _ (HW.out.kept HG11.out).k (HW.out.kept HG11.out).r (Nat.le_trans (by decide) (HW.out.kept HG11.out).h) (by rw [hxs]; omega)).mono ?_
        rintro e p12 ⟨rfl, g12⟩
        have HG12 := Keep.mk (HG11.out.trans g12)
        clear g12 HG11 hback hcz hfz hxr
        go_wp2_with fail
        refine (reads_b _ _ (HW.out.kept HG12.out).k (HW.out.kept HG12.out).r (Nat.le_trans (by decide) (HW.out.kept HG12.out).h) (by rw [hex]; omega)).mono ?_
        rintro e p13 ⟨rfl, g13⟩
        have HG13 := Keep.mk (HG12.out.trans g13)
        clear g13 HG12
        go_wp2_with fail
        refine (resum_c _ _ (HW.out.kept HG13.out).r (Nat.le_trans (by decide) (HW.out.kept HG13.out).h) (by rw [hex]; omega)).mono ?_
        rintro e p14 ⟨rfl, g14⟩
        have HG14 := Keep.mk (HG13.out.trans g14)
        clear g14 HG13
        go_wp2_with fail
        refine (reads_b _ _ (HW.out.kept HG14.out).k (HW.out.kept HG14.out).r (Nat.le_trans (by decide) (HW.out.kept HG14.out).h) (by rw [app_size, shaB_size, hex]; omega)).mono ?_
        rintro e p15 ⟨rfl, g15⟩
        have HG15 := Keep.mk (HG14.out.trans g15)
        clear g15 HG14
        go_wp2_with fail
        refine (reads_b _ _ (HW.out.kept HG15.out).k (HW.out.kept HG15.out).r (Nat.le_trans (by decide) (HW.out.kept HG15.out).h) (by (repeat rw [app_size]); (try rw [shaB_size]); (repeat rw [app_size]); (try rw [show (ByteArray.mk #[74, 66, 48, 49]).size = 4 from rfl]); (try rw [show (ByteArray.mk #[]).size = 0 from rfl]); omega)).mono ?_
        rintro e p21 ⟨rfl, g21⟩
        have HG21 := Keep.mk (HG15.out.trans g21)
        clear g21 HG15
        go_wp2_with fail
        refine (reads_b _ _ (HW.out.kept HG21.out).k (HW.out.kept HG21.out).r (Nat.le_trans (by decide) (HW.out.kept HG21.out).h) (by omega)).mono ?_
        rintro e p22 ⟨rfl, g22⟩
        have HG22 := Keep.mk (HG21.out.trans g22)
        clear g22 HG21
        go_wp2_with fail
        refine (resum_c _ _ (HW.out.kept HG22.out).r (Nat.le_trans (by decide) (HW.out.kept HG22.out).h) (by omega)).mono ?_
        rintro e p23 ⟨rfl, g23⟩
        have HG23 := Keep.mk (HG22.out.trans g23)
        clear g23 HG22
        go_wp2_with fail
        refine (reads_b _ _ (HW.out.kept HG23.out).k (HW.out.kept HG23.out).r (Nat.le_trans (by decide) (HW.out.kept HG23.out).h) (by (repeat rw [app_size]); (try rw [shaB_size]); (repeat rw [app_size]); (try rw [show (ByteArray.mk #[74, 66, 48, 49]).size = 4 from rfl]); (try rw [show (ByteArray.mk #[]).size = 0 from rfl]); omega)).mono ?_
        rintro e p24 ⟨rfl, g24⟩
        have HG24 := Keep.mk (HG23.out.trans g24)
        clear g24 HG23
        go_wp2_with fail
        refine (resum_c _ _ (HW.out.kept HG24.out).r (Nat.le_trans (by decide) (HW.out.kept HG24.out).h) (by (repeat rw [app_size]); (try rw [shaB_size]); (repeat rw [app_size]); (try rw [show (ByteArray.mk #[74, 66, 48, 49]).size = 4 from rfl]); (try rw [show (ByteArray.mk #[]).size = 0 from rfl]); omega)).mono ?_
        rintro e p25 ⟨rfl, g25⟩
        have HG25 := Keep.mk (HG24.out.trans g25)
        clear g25 HG24
        go_wp2_with fail
        refine (reads_b _ _ (HW.out.kept HG25.out).k (HW.out.kept HG25.out).r (Nat.le_trans (by decide) (HW.out.kept HG25.out).h) (by (repeat rw [app_size]); (try rw [shaB_size]); (repeat rw [app_size]); (try rw [show (ByteArray.mk #[74, 66, 48, 49]).size = 4 from rfl]); (try rw [show (ByteArray.mk #[]).size = 0 from rfl]); omega)).mono ?_
        rintro e p26 ⟨rfl, g26⟩
        have HG26 := Keep.mk (HG25.out.trans g26)
        clear g26 HG25
        go_wp2_with fail
        go_ret
        exact ⟨rfl, HG26.out⟩
end Go.Proofs.YtjbkoablleneeaaGreatDoor.Pk

