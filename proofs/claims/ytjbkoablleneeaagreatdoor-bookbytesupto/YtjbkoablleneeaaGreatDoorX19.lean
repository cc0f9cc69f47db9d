import Derived.Test.YtjbkoablleneeaaGreatDoorX18
/- the reference's Read -/
namespace Go.Proofs.YtjbkoablleneeaaGreatDoor.Pk
open Go Go.RowKit

theorem val_lt8 {x : List UInt8} (h : x.length ≤ 8) : val x < 18446744073709551616 := val8 x h
theorem val_lt1 {x : List UInt8} (h : x.length ≤ 1) : val x < 256 := by
  have h1 := val_lt x
  have h3 : 256 ^ x.length ≤ 256 ^ 1 := Nat.pow_le_pow_right (by omega) h
  omega
theorem val_lt2 {x : List UInt8} (h : x.length ≤ 2) : val x < 65536 := by
  have h1 := val_lt x
  have h3 : 256 ^ x.length ≤ 256 ^ 2 := Nat.pow_le_pow_right (by omega) h
  omega
theorem val_lt4 {x : List UInt8} (h : x.length ≤ 4) : val x < 4294967296 := by
  have h1 := val_lt x
  have h3 : 256 ^ x.length ≤ 256 ^ 4 := Nat.pow_le_pow_right (by omega) h
  omega
/-- what is known between the rounds -/
def Kn (R : List En × Int) (N : Nat) (S : List UInt8) (at_ : Nat) (bad : Bool) (L : List En) : Prop := at_ ≤ S.length ∧ L.length ≤ N ∧ if bad = true then R = ([], 50) else rFin (rLoop (N - L.length) (S.drop at_, 0) L) = R
theorem Kn.step {R : List En × Int} {N : Nat} {S : List UInt8} {a0 a1 a2 a3 a4 a5 a6 a7 a8 a9 a10 a11 : Nat} {b1 b2 b3 b4 b5 b6 b7 b8 b9 b10 b11 : Bool} {x1 x2 x3 x4 x5 x6 x7 x8 x9 x10 x11 : List UInt8} {L : List En} (h : Kn R N S a0 false L) (hl : L.length < N)
    (e1 : qTake S a0 false 1 = (x1, a1, b1)) (e2 : qTake S a1 b1 8 = (x2, a2, b2)) (e3 : qTake S a2 b2 8 = (x3, a3, b3)) (e4 : qTake S a3 b3 1 = (x4, a4, b4)) (e5 : qTake S a4 b4 1 = (x5, a5, b5)) (e6 : qTake S a5 b5 (val x5) = (x6, a6, b6)) (e7 : qTake S a6 b6 2 = (x7, a7, b7)) (e8 : qTake S a7 b7 (val x7) = (x8, a8, b8)) (e9 : qTake S a8 b8 8 = (x9, a9, b9)) (e10 : qTake S a9 b9 2 = (x10, a10, b10)) (e11 : qTake S a10 b10 (val x10) = (x11, a11, b11)) :
    Kn R N S a11 b11 (L ++ [⟨(val x1 : Nat), val x2, val x3, (val x4 : Nat), x6, x8, val x9, x11⟩]) := by
  obtain ⟨h1, h2, h3⟩ := h
  have h3 : rFin (rLoop (N - L.length) (S.drop a0, 0) L) = R := h3
  obtain ⟨q1, q2⟩ := qEnt_rel (S := S) (a0 := a0) (st := (S.drop a0, 0)) ⟨h1, rfl⟩ e1 e2 e3 e4 e5 e6 e7 e8 e9 e10 e11
  rw [show N - L.length = (N - (L.length + 1)) + 1 by omega, rLoop] at h3
  refine ⟨q1.1, by simp; omega, ?_⟩
  cases b11 with
  | true =>
    have q3 : (rEnt (S.drop a0, 0)).2 = ([], 50) := q1.2
    rw [q3, if_pos (show rDone ([], 50) = 50 from rfl)] at h3
    exact h3.symm
  | false =>
    have q3 : (rEnt (S.drop a0, 0)).2 = (S.drop a11, 0) := q1.2
    rw [q3, if_neg (rDone_zero _), q2 rfl] at h3
    show rFin (rLoop (N - (L ++ [_]).length) _ _) = R
    rw [List.length_append, List.length_singleton]
    exact h3
set_option maxRecDepth 100000 in
set_option maxHeartbeats 16000000 in
theorem rread_c (t : List UInt8) (w : World) (hk : RK w) (h4 : 4 ≤ w.heap.size) (ht : t.length ≤ 4294967000) :
    Calls Tryz.prog 39 #[.string (ba t)] w fun e w' => ∃ v, e = .returned (.tuple #[v, .int .i64 (rdS Sha.sha t).2]) ∧ Rw w' w.heap.size v (rdS Sha.sha t).1 ∧ w.grownBy w' none := by
  have HK := Keep.mk hk
  have hs := ba_size t
  unfold rdS
  by_cases h40 : t.length < 40
  · rw [if_pos h40]
    generalize ba t = T at hs ⊢
    have h2 : (T.size : Int) < 40 := by omega
    clear h40
    go_enter Tryz.func39, Tryz.ntmps39
    go_wp2
    go_ret2
    exact ⟨_, rfl, Rw.nil _ _, World.grownBy.refl _ _⟩
  rw [if_neg h40]
  obtain ⟨m, hm⟩ : ∃ m, t.length = m + 32 := ⟨t.length - 32, by omega⟩
  have h1 : (ba t).extract 0 m = ba (t.take (t.length - 32)) := by rw [ext_ba, List.drop_zero, hm, Nat.add_sub_cancel]
  have h2 : (ba t).extract m (m + 32) = ba (t.drop (t.length - 32)) := by rw [ext_ba, ← hm, List.take_length, hm, Nat.add_sub_cancel]
  have hw : IntKind.i64.wrap (m : Int) = (m : Int) := by rw [wi _ (by omega) (by omega)]
  have hc : (0 : Int) ≤ (m : Int) ∧ (m : Int) ≤ (m : Int) + 32 := by omega
  obtain ⟨b, hb⟩ : ∃ b, t.take (t.length - 32) = b := ⟨_, rfl⟩
  obtain ⟨u, hu⟩ : ∃ u, t.drop (t.length - 32) = u := ⟨_, rfl⟩
  rw [hb] at h1 ⊢
  rw [hu] at h2 ⊢
  have hbl : b.length = m := by rw [← hb, List.length_take]; omega
  have hn : ¬ (((m + 32 : Nat) : Int) < 40) := by omega
  rw [hm] at hs
  have HEQ := Keep.mk (eqS (Sha.sha b) u)
  have HEM : Keep (((ba b).extract 0 4).toList = [74, 66, 48, 49] ↔ b.take 4 = magic) := ⟨by
    have h1 := eqS (b.take 4) magic
    rw [ext_ba, List.drop_zero]
    rw [Bool.eq_iff_iff, beq_iff_eq, decide_eq_true_iff, show (ba magic).toList = [74, 66, 48, 49] by kernel_rfl] at h1
    exact h1⟩
  have hbs := ba_size b
  have HBA := Keep.mk (Eq.refl (ba b))
  have hc1 := cvt (ba b)
  have HSL : Keep (Go.Proofs.YtjbkoablleneeaaGreatDoor.sl (ba b) = b) := ⟨sl_mk b⟩
  have HP : Keep (Parts ((Lib.bytesWorld w 5 (ba b)).alloc (.cells #[.slice (some ⟨w.heap.size, 0, none⟩) (ba b).size (grownCap w (ba b).size 0 5)] 36)) (some ⟨(Lib.bytesWorld w 5 (ba b)).heap.size, 0, none⟩) 1 [b] ∧ w.grownBy ((Lib.bytesWorld w 5 (ba b)).alloc (.cells #[.slice (some ⟨w.heap.size, 0, none⟩) (ba b).size (grownCap w (ba b).size 0 5)] 36)) none) :=
    ⟨by have := parts_one _ _ _ _ _ (bytes_of w (ba b) _ (grownCap_ge w (ba b).size 0 5)); rw [HSL.out] at this; exact this, (gr_bytes w (ba b)).trans (World.grownBy_alloc _ _ _)⟩
  have HL : Keep ([b].flatten = b ∧ b.length ≤ 4294967296 ∧ (Sha.sha b).length = 32) := ⟨by simp, by omega, sha_len _⟩
  have hbm : b.length ≤ 4294967000 := by omega
  have h8 : 8 ≤ b.length := by omega
  obtain ⟨R, hR⟩ : ∃ q, (if b.take 4 = magic ∧ Sha.sha b = u then rAll (b.drop 4) else ([], 190)) = q := ⟨_, rfl⟩
  rw [hR]
  have HR := Keep.mk hR
  clear hb hu h40 hk hm hR
  generalize ba t = T at h1 h2 hs ⊢
  generalize ba u = UB at h2 HEQ
  generalize hBB : ba b = BB at h1 hbs hc1 HP HBA HEM
  rw [hbl] at hbs
  rw [hbs] at HP
  simp only [hbs] at hc1
  go_enter Tryz.func39, Tryz.ntmps39
  go_wp2_with fail
  refine (rof_any _ 1 1 [b] _ HP.out.1 (some_nil _ _ _ _) (HK.out.kept HP.out.2) (Nat.le_trans h4 HP.out.2.size) (by decide) (by rw [HL.out.1]; exact HL.out.2.1)).mono ?_
  rintro e w2 ⟨rfl, g2⟩
  have H2 : Keep (w.grownBy w2 none) := ⟨HP.out.2.trans g2⟩
  rw [HL.out.1]
  have HS3 : Keep ((Sha.sha b).length = 32) := ⟨HL.out.2.2⟩
  generalize hs4 : Sha.sha b = S4 at HS3 HEQ ⊢
  have HS4 : Keep (Sha.sha b = S4) := ⟨hs4⟩
  clear g2 hs4 HP HL hc1
  go_wp2_with (
    (refine wpList_store_mid rfl 76 _ _ rfl _ _ _ rfl rfl ((Go.Proofs.YtjbkoablleneeaaGreatDoor.Has.newA w2 _ 76).there 0 _ (by rw [List.size_toArray, List.length_map, HS3.out]; decide)) (info36 S4 HS3.out) (bytes_one _) ?_
     generalize hw6 : World.setCells _ _ _ _ = w6
     obtain ⟨h6, g6⟩ := sumVar w2 _ rfl S4 HS3.out w6 hw6
     have H6 : Keep (w.grownBy w6 none ∧ Go.Proofs.YtjbkoablleneeaaGreatDoor.Has w6 w2.heap.size (S4.map bv) 76) := ⟨H2.out.trans g6, h6⟩
     clear h6 g6 hw6))
  have hcv : (convert 36 9 (.slice (some ⟨w2.heap.size, 0, none⟩) 32 32)).run Tryz.prog w6.drew = .ok (.string (ba S4)) w6.drew := str_back w6.drew w2.heap.size S4 HS3.out H6.out.2
  have HG : Keep (w.grownBy w6.drew none) := ⟨H6.out.1.trans (gr_drew _ _)⟩
  have hb4 : (0 : Int) ≤ 4 ∧ (4 : Int) ≤ (m : Int) := by omega
  generalize hSB : ba S4 = SB at HEQ hcv
  clear hSB
  by_cases hmg : b.take 4 = magic
  · have hq4 : (BB.extract 0 4).toList = [74, 66, 48, 49] := HEM.out.2 hmg
    refine wp_region_held_drew (S := fun W => W = w6.drew) (by kernel_rfl) rfl (fun hHeld => ?_)
    refine wpAnyH_take (i := 0) (oi := _) (v := ?_) rfl (by kernel_rfl) (by kernel_rfl) (by kernel_rfl) (fun _ _ _ h => h) (Or.inl ⟨by rfl, ?_⟩) (by assumption) ?_
    rotate_left
    · (intro w hSw; go_simp; first | done | (with_reducible rfl))
    simp only [Act.put, List.getElem_toArray, List.getElem_cons_zero, List.setIfInBounds_toArray, List.set_cons_zero, List.set_cons_succ]
    refine wpAnyH_take (i := 1) (oi := _) (v := ?_) rfl (by kernel_rfl) (by kernel_rfl) (by kernel_rfl) (fun _ _ _ h => h) (Or.inl ⟨by rfl, ?_⟩) (by assumption) ?_
    rotate_left
    · (intro w hSw; go_simp; first | done | (with_reducible rfl))
    simp only [Act.put, List.getElem_toArray, List.getElem_cons_succ, List.getElem_cons_zero, List.setIfInBounds_toArray, List.set_cons_zero, List.set_cons_succ]
    refine wpAnyH_take (i := 2) (oi := _) (v := .bool false) rfl (by kernel_rfl) (by kernel_rfl) (by kernel_rfl) (fun _ _ _ h => h) (Or.inl ⟨by rfl, ?_⟩) (by assumption) ?_
    · (intro w hSw; go_simp; first | done | (simp; done) | trace_state)
    simp only [Act.put, List.getElem_toArray, List.getElem_cons_succ, List.getElem_cons_zero, List.setIfInBounds_toArray, List.set_cons_zero, List.set_cons_succ]
    refine wpAnyH_take (i := 3) (oi := _) (v := ?_) rfl (by kernel_rfl) (by kernel_rfl) (by kernel_rfl) (fun _ _ _ h => h) (Or.inl ⟨by rfl, ?_⟩) (by assumption) ?_
    rotate_left
    · (intro w hSw; go_simp; first | done | (with_reducible rfl))
    simp only [Act.put, List.getElem_toArray, List.getElem_cons_succ, List.getElem_cons_zero, List.setIfInBounds_toArray, List.set_cons_zero, List.set_cons_succ]
    refine wpAnyH_take (i := 4) (oi := _) (v := ?_) rfl (by kernel_rfl) (by kernel_rfl) (by kernel_rfl) (fun _ _ _ h => h) (Or.inl ⟨by rfl, ?_⟩) (by assumption) ?_
    rotate_left
    · (intro w hSw; go_simp; first | done | (with_reducible rfl))
    simp only [Act.put, List.getElem_toArray, List.getElem_cons_succ, List.getElem_cons_zero, List.setIfInBounds_toArray, List.set_cons_zero, List.set_cons_succ]
    refine wpAnyH_take (i := 5) (oi := _) (v := ?_) rfl (by kernel_rfl) (by kernel_rfl) (by kernel_rfl) (fun _ _ _ h => h) (Or.inl ⟨by rfl, ?_⟩) (by assumption) ?_
    rotate_left
    · (intro w hSw; go_simp; first | done | (with_reducible rfl))
    simp only [Act.put, List.getElem_toArray, List.getElem_cons_succ, List.getElem_cons_zero, List.setIfInBounds_toArray, List.set_cons_zero, List.set_cons_succ]
    refine wpAnyH_take (i := 6) (oi := _) (v := ?_) rfl (by kernel_rfl) (by kernel_rfl) (by kernel_rfl) (fun _ _ _ h => h) (Or.inl ⟨by rfl, ?_⟩) (by assumption) ?_
    rotate_left
    · (intro w hSw; go_simp; first | done | (with_reducible rfl))
    simp only [Act.put, List.getElem_toArray, List.getElem_cons_succ, List.getElem_cons_zero, List.setIfInBounds_toArray, List.set_cons_zero, List.set_cons_succ]
    refine wpAnyH_take (i := 7) (oi := _) (v := ?_) rfl (by kernel_rfl) (by kernel_rfl) (by kernel_rfl) (fun _ _ _ h => h) (Or.inl ⟨by rfl, ?_⟩) (by assumption) ?_
    rotate_left
    · (intro w hSw; go_simp; first | done | (with_reducible rfl))
    simp only [Act.put, List.getElem_toArray, List.getElem_cons_succ, List.getElem_cons_zero, List.setIfInBounds_toArray, List.set_cons_zero, List.set_cons_succ]
    refine wpAnyH_take (i := 8) (oi := _) (v := ?_) rfl (by kernel_rfl) (by kernel_rfl) (by kernel_rfl) (fun _ _ _ h => h) (Or.inl ⟨by rfl, ?_⟩) (by assumption) ?_
    rotate_left
    · (intro w hSw; go_simp; first | done | (with_reducible rfl))
    simp only [Act.put, List.getElem_toArray, List.getElem_cons_succ, List.getElem_cons_zero, List.setIfInBounds_toArray, List.set_cons_zero, List.set_cons_succ]
    refine wpAnyH_take (i := 9) (oi := _) (v := ?_) rfl (by kernel_rfl) (by kernel_rfl) (by kernel_rfl) (fun _ _ _ h => h) (Or.inl ⟨by rfl, ?_⟩) (by assumption) ?_
    rotate_left
    · (intro w hSw; go_simp; first | done | (with_reducible rfl))
    simp only [Act.put, List.getElem_toArray, List.getElem_cons_succ, List.getElem_cons_zero, List.setIfInBounds_toArray, List.set_cons_zero, List.set_cons_succ]
    refine wpAnyH_take (i := 10) (oi := _) (v := ?_) rfl (by kernel_rfl) (by kernel_rfl) (by kernel_rfl) (fun _ _ _ h => h) (Or.inl ⟨by rfl, ?_⟩) (by assumption) ?_
    rotate_left
    · (intro w hSw; go_simp; first | done | (with_reducible rfl))
    simp only [Act.put, List.getElem_toArray, List.getElem_cons_succ, List.getElem_cons_zero, List.setIfInBounds_toArray, List.set_cons_zero, List.set_cons_succ]
    refine wpAnyH_take (i := 11) (oi := _) (v := ?_) rfl (by kernel_rfl) (by kernel_rfl) (by kernel_rfl) (fun _ _ _ h => h) (Or.inl ⟨by rfl, ?_⟩) (by assumption) ?_
    rotate_left
    · (intro w hSw; go_simp; first | done | (with_reducible rfl))
    simp only [Act.put, List.getElem_toArray, List.getElem_cons_succ, List.getElem_cons_zero, List.setIfInBounds_toArray, List.set_cons_zero, List.set_cons_succ]
    refine wpAnyH_take (i := 12) (oi := _) (v := ?_) rfl (by kernel_rfl) (by kernel_rfl) (by kernel_rfl) (fun _ _ _ h => h) (Or.inl ⟨by rfl, ?_⟩) (by assumption) ?_
    rotate_left
    · (intro w hSw; go_simp; first | done | (with_reducible rfl))
    simp only [Act.put, List.getElem_toArray, List.getElem_cons_succ, List.getElem_cons_zero, List.setIfInBounds_toArray, List.set_cons_zero, List.set_cons_succ]
    refine wpAnyH_done (by kernel_rfl) ?_ _

    have HMG := Keep.mk hmg
    clear hHeld hmg hq4 HEM HK hw hc
    generalize hwd : w6.drew = wd at HG hcv ⊢
    clear hcv hwd
    by_cases hq : S4 = u
    rotate_left
    · have heq : (SB.toList == UB.toList) = false := by rw [HEQ.out]; exact decide_eq_false hq
      have HE : Keep (R = ([], 190)) := ⟨by rw [← HR.out, if_neg (fun q => hq (by rw [← HS4.out]; exact q.2))]⟩
      clear HR hq
      simp only [heq, Bool.not_false]
      go_wp2
      go_ret2
      exact ⟨_, by rw [HE.out]; rfl, by rw [HE.out]; exact Rw.nil _ _, HG.out⟩
    have heq : (SB.toList == UB.toList) = true := by rw [HEQ.out]; exact decide_eq_true hq
    have HE : Keep (rAll (b.drop 4) = R) := ⟨by rw [← HR.out, if_pos ⟨HMG.out, by rw [HS4.out]; exact hq⟩]⟩
    have hqt : qTake b 4 false 4 = ((b.drop 4).take 4, 8, false) := by unfold qTake; rw [if_pos (by omega)]
    have HX4 : Keep (((b.drop 4).take 4).length ≤ 4 ∧ rNum (b.drop 4, 0) 4 = (val ((b.drop 4).take 4), (b.drop 8, 0))) := ⟨by simp; omega, by
      rw [rNum_eq _ 4 4 rfl (by omega) (by omega)]
      unfold rTake
      rw [if_neg (by omega), if_neg (by simp; omega)]
      show (val ((b.drop 4).take 4), ((b.drop 4).drop 4, (0 : Int))) = _
      rw [List.drop_drop]⟩
    obtain ⟨N, hN⟩ : ∃ q, val ((b.drop 4).take 4) = q := ⟨_, rfl⟩
    have hN4 : N < 4294967296 := by rw [← hN]; exact val_lt4 HX4.out.1
    have HKN : Keep (Kn R N b 8 false []) := ⟨by omega, by simp, by
      show rFin (rLoop (N - 0) (b.drop 8, 0) []) = R
      rw [← HE.out, rAll, HX4.out.2, hN]; rfl⟩
    have HRD : Keep (∀ W : World, RdA (W.alloc (.cells #[.string BB, .int .i64 4, .bool false] 151)) W.heap.size b 4 false) := ⟨fun W => by
      unfold RdA
      rw [hBB]
      exact Has.newA W #[.string BB, .int .i64 4, .bool false] 151⟩
    obtain ⟨d35, U35, Q35⟩ := under35
    clear HR HMG HS4 hq HEQ HE HS3 H6 H2 HSL
    simp only [heq, Bool.not_true]
    clear heq
    go_wp2_with fail
    refine (rtk_c _ b 4 false 4 _ (HRD.out wd) (by omega) (by omega) (by omega)).mono ?_
    rintro e w7 ⟨rfl, r7, g7⟩
    rw [hqt] at r7 ⊢
    dsimp only at r7 ⊢
    have H7 : Keep (Qr w w7 wd.heap.size b 8 false (.slice none 0 0) []) := ⟨r7, Rw.nil _ _, gr_new (HG.out.trans (World.grownBy_alloc _ _ _)) g7 HG.out.size, HG.out.size⟩
    clear r7 g7 HRD hqt
    generalize wd.heap.size = rb at H7 ⊢
    go_wp2_with fail
    refine (number_c _ _ (Nat.le_trans HX4.out.1 (by decide))).mono ?_
    rintro e w8 ⟨rfl, rfl⟩
    rw [hN]
    clear HX4 hN
    go_wp2_with fail
    go_loopw [8] (fun lv w' => ∃ (a : Option Addr) (c : Nat) (L : List En) (at_ : Nat) (bad : Bool), lv = .slice a L.length c ∧ Keep (Qr w w' rb b at_ bad (.slice a L.length c) L ∧ Kn R N b at_ bad L)) (fun lv _ => N - sln lv)
    case atStart => exact ⟨none, 0, [], 8, false, rfl, ⟨H7.out, HKN.out⟩⟩
    case round =>
      obtain ⟨a, c, L, at_, bad, rfl, HI⟩ := hrel
      have hLN : L.length ≤ N := HI.out.2.2.1
      have c2 := HI.out.1.r.cellv 2 _ rfl
      have c1 := HI.out.1.r.cellv 1 _ rfl
      have hat : at_ ≤ b.length := HI.out.2.1
      by_cases hl : L.length < N
      · cases bad with
        | true =>
          have HE : Keep (R = ([], 50)) := ⟨HI.out.2.2.2⟩
          go_wp2
          go_ret2
          exact ⟨_, by rw [HE.out]; rfl, by rw [HE.out]; exact Rw.nil _ _, HI.out.1.g⟩
        | false =>
          have HKn := Keep.mk HI.out.2
          have HQ0 := Keep.mk (HI.out.1.box #[Value.int IntKind.i64 0, Value.int IntKind.u64 0, Value.int IntKind.u64 0, Value.int IntKind.i64 0, Value.string { data := #[] }, Value.string { data := #[] }, Value.int IntKind.u64 0, Value.string { data := #[] }])
          have HLI := Keep.mk HI.out.1.g.size
          clear HI H7 HKN
          go_wp2_with fail
          clear c1 c2
          refine (rtk_c rb b at_ false 1 _ HQ0.out.r (by omega) (by omega) (by omega)).mono ?_
          rintro e p1 ⟨rfl, r1, g1⟩
          rcases e1 : qTake b at_ false 1 with ⟨x1, a1, b1⟩
          rw [e1] at r1
          dsimp only at r1 ⊢
          obtain ⟨la1, lx1⟩ := qTake_len (by omega) e1
          have HQ1 := Keep.mk (HQ0.out.take r1 g1)
          have E1 := Keep.mk e1
          clear r1 g1 e1 HQ0
          go_wp2_with fail
          refine (number_c x1 _ (by omega)).mono ?_
          rintro e q1 ⟨rfl, rfl⟩
          have hv1 := val_lt1 lx1
          have hx0 := HQ1.out.x.cellv 0 _ rfl
          have fx0 := HQ1.out.x.frozen 0
          have HP0 := Keep.mk (HQ1.out.put 0 (Value.int IntKind.i64 (val x1 : Nat)))
          clear HQ1
          go_wp2_with fail
          clear hx0 fx0
          refine (rtk_c rb b a1 b1 8 _ HP0.out.r (by omega) (by omega) (by omega)).mono ?_
          rintro e p2 ⟨rfl, r2, g2⟩
          rcases e2 : qTake b a1 b1 8 with ⟨x2, a2, b2⟩
          rw [e2] at r2
          dsimp only at r2 ⊢
          obtain ⟨la2, lx2⟩ := qTake_len (by omega) e2
          have HQ2 := Keep.mk (HP0.out.take r2 g2)
          have E2 := Keep.mk e2
          clear r2 g2 e2 HP0
          go_wp2_with fail
          refine (number_c x2 _ (by omega)).mono ?_
          rintro e q2 ⟨rfl, rfl⟩
          have hv2 := val_lt8 lx2
          have hx1 := HQ2.out.x.cellv 1 _ rfl
          have fx1 := HQ2.out.x.frozen 1
          have HP1 := Keep.mk (HQ2.out.put 1 (Value.int IntKind.u64 (val x2 : Nat)))
          clear HQ2
          go_wp2_with fail
          clear hx1 fx1
          refine (rtk_c rb b a2 b2 8 _ HP1.out.r (by omega) (by omega) (by omega)).mono ?_
          rintro e p3 ⟨rfl, r3, g3⟩
          rcases e3 : qTake b a2 b2 8 with ⟨x3, a3, b3⟩
          rw [e3] at r3
          dsimp only at r3 ⊢
          obtain ⟨la3, lx3⟩ := qTake_len (by omega) e3
          have HQ3 := Keep.mk (HP1.out.take r3 g3)
          have E3 := Keep.mk e3
          clear r3 g3 e3 HP1
          go_wp2_with fail
          refine (number_c x3 _ (by omega)).mono ?_
          rintro e q3 ⟨rfl, rfl⟩
          have hv3 := val_lt8 lx3
          have hx2 := HQ3.out.x.cellv 2 _ rfl
          have fx2 := HQ3.out.x.frozen 2
          have HP2 := Keep.mk (HQ3.out.put 2 (Value.int IntKind.u64 (val x3 : Nat)))
          clear HQ3
          go_wp2_with fail
          clear hx2 fx2
          refine (rtk_c rb b a3 b3 1 _ HP2.out.r (by omega) (by omega) (by omega)).mono ?_
          rintro e p4 ⟨rfl, r4, g4⟩
          rcases e4 : qTake b a3 b3 1 with ⟨x4, a4, b4⟩
          rw [e4] at r4
          dsimp only at r4 ⊢
          obtain ⟨la4, lx4⟩ := qTake_len (by omega) e4
          have HQ4 := Keep.mk (HP2.out.take r4 g4)
          have E4 := Keep.mk e4
          clear r4 g4 e4 HP2
          go_wp2_with fail
          refine (number_c x4 _ (by omega)).mono ?_
          rintro e q4 ⟨rfl, rfl⟩
          have hv4 := val_lt1 lx4
          have hx3 := HQ4.out.x.cellv 3 _ rfl
          have fx3 := HQ4.out.x.frozen 3
          have HP3 := Keep.mk (HQ4.out.put 3 (Value.int IntKind.i64 (val x4 : Nat)))
          clear HQ4
          go_wp2_with fail
          clear hx3 fx3
          refine (rtk_c rb b a4 b4 1 _ HP3.out.r (by omega) (by omega) (by omega)).mono ?_
          rintro e p5 ⟨rfl, r5, g5⟩
          rcases e5 : qTake b a4 b4 1 with ⟨x5, a5, b5⟩
          rw [e5] at r5
          dsimp only at r5 ⊢
          obtain ⟨la5, lx5⟩ := qTake_len (by omega) e5
          have HQ5 := Keep.mk (HP3.out.take r5 g5)
          have E5 := Keep.mk e5
          clear r5 g5 e5 HP3
          go_wp2_with fail
          refine (number_c x5 _ (by omega)).mono ?_
          rintro e q5 ⟨rfl, rfl⟩
          have hv5 := val_lt1 lx5
          go_wp2_with fail
          refine (rtk_c rb b a5 b5 (val x5) _ HQ5.out.r (by omega) (by omega) (by omega)).mono ?_
          rintro e p6 ⟨rfl, r6, g6⟩
          rcases e6 : qTake b a5 b5 (val x5) with ⟨x6, a6, b6⟩
          rw [e6] at r6
          dsimp only at r6 ⊢
          obtain ⟨la6, lx6⟩ := qTake_len (by omega) e6
          have HQ6 := Keep.mk (HQ5.out.take r6 g6)
          have E6 := Keep.mk e6
          clear r6 g6 e6 HQ5
          have hx4 := HQ6.out.x.cellv 4 _ rfl
          have fx4 := HQ6.out.x.frozen 4
          have HP4 := Keep.mk (HQ6.out.put 4 (Value.string (ba x6)))
          clear HQ6
          go_wp2_with fail
          clear hx4 fx4
          refine (rtk_c rb b a6 b6 2 _ HP4.out.r (by omega) (by omega) (by omega)).mono ?_
          rintro e p7 ⟨rfl, r7, g7⟩
          rcases e7 : qTake b a6 b6 2 with ⟨x7, a7, b7⟩
          rw [e7] at r7
          dsimp only at r7 ⊢
          obtain ⟨la7, lx7⟩ := qTake_len (by omega) e7
          have HQ7 := Keep.mk (HP4.out.take r7 g7)
          have E7 := Keep.mk e7
          clear r7 g7 e7 HP4
          go_wp2_with fail
          refine (number_c x7 _ (by omega)).mono ?_
          rintro e q7 ⟨rfl, rfl⟩
          have hv7 := val_lt2 lx7
          go_wp2_with fail
          refine (rtk_c rb b a7 b7 (val x7) _ HQ7.out.r (by omega) (by omega) (by omega)).mono ?_
          rintro e p8 ⟨rfl, r8, g8⟩
          rcases e8 : qTake b a7 b7 (val x7) with ⟨x8, a8, b8⟩
          rw [e8] at r8
          dsimp only at r8 ⊢
          obtain ⟨la8, lx8⟩ := qTake_len (by omega) e8
          have HQ8 := Keep.mk (HQ7.out.take r8 g8)
          have E8 := Keep.mk e8
          clear r8 g8 e8 HQ7
          have hx5 := HQ8.out.x.cellv 5 _ rfl
          have fx5 := HQ8.out.x.frozen 5
          have HP5 := Keep.mk (HQ8.out.put 5 (Value.string (ba x8)))
          clear HQ8
          go_wp2_with fail
          clear hx5 fx5
          refine (rtk_c rb b a8 b8 8 _ HP5.out.r (by omega) (by omega) (by omega)).mono ?_
          rintro e p9 ⟨rfl, r9, g9⟩
          rcases e9 : qTake b a8 b8 8 with ⟨x9, a9, b9⟩
          rw [e9] at r9
          dsimp only at r9 ⊢
          obtain ⟨la9, lx9⟩ := qTake_len (by omega) e9
          have HQ9 := Keep.mk (HP5.out.take r9 g9)
          have E9 := Keep.mk e9
          clear r9 g9 e9 HP5
          go_wp2_with fail
          refine (number_c x9 _ (by omega)).mono ?_
          rintro e q9 ⟨rfl, rfl⟩
          have hv9 := val_lt8 lx9
          have hx6 := HQ9.out.x.cellv 6 _ rfl
          have fx6 := HQ9.out.x.frozen 6
          have HP6 := Keep.mk (HQ9.out.put 6 (Value.int IntKind.u64 (val x9 : Nat)))
          clear HQ9
          go_wp2_with fail
          clear hx6 fx6
          refine (rtk_c rb b a9 b9 2 _ HP6.out.r (by omega) (by omega) (by omega)).mono ?_
          rintro e p10 ⟨rfl, r10, g10⟩
          rcases e10 : qTake b a9 b9 2 with ⟨x10, a10, b10⟩
          rw [e10] at r10
          dsimp only at r10 ⊢
          obtain ⟨la10, lx10⟩ := qTake_len (by omega) e10
          have HQ10 := Keep.mk (HP6.out.take r10 g10)
          have E10 := Keep.mk e10
          clear r10 g10 e10 HP6
          go_wp2_with fail
          refine (number_c x10 _ (by omega)).mono ?_
          rintro e q10 ⟨rfl, rfl⟩
          have hv10 := val_lt2 lx10
          go_wp2_with fail
          refine (rtk_c rb b a10 b10 (val x10) _ HQ10.out.r (by omega) (by omega) (by omega)).mono ?_
          rintro e p11 ⟨rfl, r11, g11⟩
          rcases e11 : qTake b a10 b10 (val x10) with ⟨x11, a11, b11⟩
          rw [e11] at r11
          dsimp only at r11 ⊢
          obtain ⟨la11, lx11⟩ := qTake_len (by omega) e11
          have HQ11 := Keep.mk (HQ10.out.take r11 g11)
          have E11 := Keep.mk e11
          clear r11 g11 e11 HQ10
          have hx7 := HQ11.out.x.cellv 7 _ rfl
          have fx7 := HQ11.out.x.frozen 7
          have HP7 := Keep.mk (HQ11.out.put 7 (Value.string (ba x11)))
          clear HQ11
          have HKS := Keep.mk (HKn.out.step hl E1.out E2.out E3.out E4.out E5.out E6.out E7.out E8.out E9.out E10.out E11.out)
          obtain ⟨x, hx⟩ : ∃ x : En, (⟨(val x1 : Nat), val x2, val x3, (val x4 : Nat), x6, x8, val x9, x11⟩ : En) = x := ⟨_, rfl⟩
          obtain ⟨W9, hW9⟩ : ∃ q, p11.setCell ⟨wr.heap.size, 7, none⟩ (Value.string (ba x11)) = q := ⟨_, rfl⟩
          rw [hW9] at HP7
          have HPX : Keep (Qt w W9 rb b a11 b11 wr.heap.size (en x) (.slice a L.length c) L) := ⟨by rw [← hx]; exact HP7.out⟩
          rw [hx] at HKS
          obtain ⟨g8, c8, w8, r8, q8, gr8⟩ := app35 x HPX.out.row HPX.out.g.size (by omega)
          have H8 : Keep (Qr w w8 rb b a11 b11 (.slice (some ⟨g8, 0, none⟩) (L.length + 1) c8) (L ++ [x])) := ⟨HPX.out.app q8 gr8⟩
          have AP := Keep.mk r8
          have HRG := Keep.mk HPX.out.x.range
          have HSZ : Keep ((en x).length = 8 ∧ (Tryz.prog.info? 35).map (·.size) = some (en x).length) := ⟨rfl, size35⟩
          clear HPX HP7 q8 gr8 r8 hx HKn E1 E2 E3 E4 E5 E6 E7 E8 E9 E10 E11
          generalize en x = cs at AP HRG HSZ
          go_wp2_with (first
            | (show wpList _ _ _ ({ dst := _, op := Op.load 35 _, type := _, pos := _, after := _, guard := _ } :: _) _ _
               refine wpList_load_mid rfl 35 _ rfl _ _ rfl cs _ HRG.out U35 Q35 HSZ.out.2 ?_)
            | (show wpList _ _ _ ({ dst := _, op := Op.buildSlice 22 _ _, type := _, pos := _, after := _, guard := _ } :: _) _ _
               refine wpList_bs_run rfl (.tmp 97) 22 rfl _ rfl (bs8_run _ cs HSZ.out.1) ?_)
            | (show wpList _ _ _ ({ dst := _, op := Op.call { callee := Callee.builtin Builtin.append, args := _, argTypes := _ }, type := _, pos := _, after := _, guard := _ } :: _) _ _
               refine wpList_append_run2 _ rfl (.tmp 96) (.tmp 98) 22 22 rfl _ _ rfl rfl AP.out ?_))
          have hL1 : (L ++ [x]).length = L.length + 1 := by simp
          exact ⟨⟨some ⟨g8, 0, none⟩, c8, L ++ [x], a11, b11, by rw [hL1], ⟨by rw [hL1]; exact H8.out, HKS.out⟩⟩, by simp only [sln]; omega⟩
      · cases bad with
        | true =>
          have HE : Keep (R = ([], 50)) := ⟨HI.out.2.2.2⟩
          go_wp2
          go_ret2
          exact ⟨_, by rw [HE.out]; rfl, by rw [HE.out]; exact Rw.nil _ _, HI.out.1.g⟩
        | false =>
          have HF : Keep (rFin (some (L, (b.drop at_, 0))) = R) := ⟨by
            have := HI.out.2.2.2
            rw [show N - L.length = 0 by omega] at this
            exact this⟩
          by_cases hab : at_ < b.length
          · have HE : Keep (R = ([], 51)) := ⟨by
              rw [← HF.out]
              have hd : rDone (b.drop at_, 0) = 51 := by unfold rDone; rw [if_pos (by simp; omega)]
              rw [rFin_bad _ L _ rfl (by rw [hd]; decide), hd]⟩
            have hai : (at_ : Int) < (m : Int) := by omega
            go_wp2
            go_ret2
            exact ⟨_, by rw [HE.out]; rfl, by rw [HE.out]; exact Rw.nil _ _, HI.out.1.g⟩
          · have HE : Keep (R = (L, 0)) := ⟨by
              rw [← HF.out]
              have hd : rDone (b.drop at_, 0) = 0 := by unfold rDone; rw [if_neg (by simp; omega)]
              rw [rFin_eq _ L _ rfl hd]⟩
            have hai : ¬ (at_ : Int) < (m : Int) := by omega
            go_wp2
            go_ret2
            exact ⟨_, by rw [HE.out]; rfl, by rw [HE.out]; exact HI.out.1.row, HI.out.1.g⟩
  · have hq4 : ¬ (BB.extract 0 4).toList = [74, 66, 48, 49] := fun q => hmg (HEM.out.1 q)
    have HE : Keep (R = ([], 190)) := ⟨by rw [← HR.out, if_neg (fun q => hmg q.1)]⟩
    refine wp_region_held_drew (S := fun W => W = w6.drew) (by kernel_rfl) rfl (fun hHeld => ?_)
    refine wpAnyH_take (i := 0) (oi := _) (v := ?_) rfl (by kernel_rfl) (by kernel_rfl) (by kernel_rfl) (fun _ _ _ h => h) (Or.inl ⟨by rfl, ?_⟩) (by assumption) ?_
    rotate_left
    · (intro w hSw; go_simp; first | done | (with_reducible rfl))
    simp only [Act.put, List.getElem_toArray, List.getElem_cons_zero, List.setIfInBounds_toArray, List.set_cons_zero, List.set_cons_succ]
    refine wpAnyH_take (i := 1) (oi := _) (v := ?_) rfl (by kernel_rfl) (by kernel_rfl) (by kernel_rfl) (fun _ _ _ h => h) (Or.inl ⟨by rfl, ?_⟩) (by assumption) ?_
    rotate_left
    · (intro w hSw; go_simp; first | done | (with_reducible rfl))
    simp only [Act.put, List.getElem_toArray, List.getElem_cons_succ, List.getElem_cons_zero, List.setIfInBounds_toArray, List.set_cons_zero, List.set_cons_succ]
    refine wpAnyH_take (i := 2) (oi := _) (v := .bool true) rfl (by kernel_rfl) (by kernel_rfl) (by kernel_rfl) (fun _ _ _ h => h) (Or.inl ⟨by rfl, ?_⟩) (by assumption) ?_
    · (intro w hSw; go_simp; first | done | (simp; done) | trace_state)
    simp only [Act.put, List.getElem_toArray, List.getElem_cons_succ, List.getElem_cons_zero, List.setIfInBounds_toArray, List.set_cons_zero, List.set_cons_succ]
    refine wpAnyH_take (i := 3) (oi := _) (v := ?_) rfl (by kernel_rfl) (by kernel_rfl) (by kernel_rfl) (fun _ _ _ h => h) (Or.inl ⟨by rfl, ?_⟩) (by assumption) ?_
    rotate_left
    · (intro w hSw; go_simp; first | done | (with_reducible rfl))
    simp only [Act.put, List.getElem_toArray, List.getElem_cons_succ, List.getElem_cons_zero, List.setIfInBounds_toArray, List.set_cons_zero, List.set_cons_succ]
    refine wpAnyH_take (i := 4) (oi := _) (v := undef) rfl (by kernel_rfl) (by kernel_rfl) (by kernel_rfl) (fun _ _ _ h => h) (Or.inr ⟨by rfl, rfl⟩) (by assumption) ?_
    simp only [Act.put, List.getElem_toArray, List.getElem_cons_succ, List.getElem_cons_zero, List.setIfInBounds_toArray, List.set_cons_zero, List.set_cons_succ]
    refine wpAnyH_take (i := 5) (oi := _) (v := undef) rfl (by kernel_rfl) (by kernel_rfl) (by kernel_rfl) (fun _ _ _ h => h) (Or.inr ⟨by rfl, rfl⟩) (by assumption) ?_
    simp only [Act.put, List.getElem_toArray, List.getElem_cons_succ, List.getElem_cons_zero, List.setIfInBounds_toArray, List.set_cons_zero, List.set_cons_succ]
    refine wpAnyH_take (i := 6) (oi := _) (v := undef) rfl (by kernel_rfl) (by kernel_rfl) (by kernel_rfl) (fun _ _ _ h => h) (Or.inr ⟨by rfl, rfl⟩) (by assumption) ?_
    simp only [Act.put, List.getElem_toArray, List.getElem_cons_succ, List.getElem_cons_zero, List.setIfInBounds_toArray, List.set_cons_zero, List.set_cons_succ]
    refine wpAnyH_take (i := 7) (oi := _) (v := undef) rfl (by kernel_rfl) (by kernel_rfl) (by kernel_rfl) (fun _ _ _ h => h) (Or.inr ⟨by rfl, rfl⟩) (by assumption) ?_
    simp only [Act.put, List.getElem_toArray, List.getElem_cons_succ, List.getElem_cons_zero, List.setIfInBounds_toArray, List.set_cons_zero, List.set_cons_succ]
    refine wpAnyH_take (i := 8) (oi := _) (v := undef) rfl (by kernel_rfl) (by kernel_rfl) (by kernel_rfl) (fun _ _ _ h => h) (Or.inr ⟨by rfl, rfl⟩) (by assumption) ?_
    simp only [Act.put, List.getElem_toArray, List.getElem_cons_succ, List.getElem_cons_zero, List.setIfInBounds_toArray, List.set_cons_zero, List.set_cons_succ]
    refine wpAnyH_take (i := 9) (oi := _) (v := undef) rfl (by kernel_rfl) (by kernel_rfl) (by kernel_rfl) (fun _ _ _ h => h) (Or.inr ⟨by rfl, rfl⟩) (by assumption) ?_
    simp only [Act.put, List.getElem_toArray, List.getElem_cons_succ, List.getElem_cons_zero, List.setIfInBounds_toArray, List.set_cons_zero, List.set_cons_succ]
    refine wpAnyH_take (i := 10) (oi := _) (v := undef) rfl (by kernel_rfl) (by kernel_rfl) (by kernel_rfl) (fun _ _ _ h => h) (Or.inr ⟨by rfl, rfl⟩) (by assumption) ?_
    simp only [Act.put, List.getElem_toArray, List.getElem_cons_succ, List.getElem_cons_zero, List.setIfInBounds_toArray, List.set_cons_zero, List.set_cons_succ]
    refine wpAnyH_take (i := 11) (oi := _) (v := undef) rfl (by kernel_rfl) (by kernel_rfl) (by kernel_rfl) (fun _ _ _ h => h) (Or.inr ⟨by rfl, rfl⟩) (by assumption) ?_
    simp only [Act.put, List.getElem_toArray, List.getElem_cons_succ, List.getElem_cons_zero, List.setIfInBounds_toArray, List.set_cons_zero, List.set_cons_succ]
    refine wpAnyH_take (i := 12) (oi := _) (v := ?_) rfl (by kernel_rfl) (by kernel_rfl) (by kernel_rfl) (fun _ _ _ h => h) (Or.inl ⟨by rfl, ?_⟩) (by assumption) ?_
    rotate_left
    · (intro w hSw; go_simp; first | done | (with_reducible rfl))
    simp only [Act.put, List.getElem_toArray, List.getElem_cons_succ, List.getElem_cons_zero, List.setIfInBounds_toArray, List.set_cons_zero, List.set_cons_succ]
    refine wpAnyH_done (by kernel_rfl) ?_ _

    go_wp2
    go_ret2
    exact ⟨_, by rw [HE.out]; rfl, by rw [HE.out]; exact Rw.nil _ _, HG.out⟩
end Go.Proofs.YtjbkoablleneeaaGreatDoor.Pk

