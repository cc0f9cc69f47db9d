import Derived.Test.YtiphnlfbgbemfaaGreatDoorX8
/- FrameLengths, a kind -/
namespace Go.Proofs.YtiphnlfbgbemfaaGreatDoor.Pk
open Go Go.RowKit

set_option maxHeartbeats 16000000 in
set_option maxRecDepth 100000 in
theorem lengths_6 (x y : Int) (c : UInt8) (w : World) (hk : Kc w) (hkx : u64 x % 9 = 6) (hbig : ¬ 1200 < 4 + u64 y % 1300) :
    Calls Tryz.prog 5 #[.int .i64 x, .int .i64 y, .int .u8 (c.toNat : Int)] w fun e w' => e = .returned (.bool true) ∧ w.grownBy w' none := by
  have hx : IntKind.u64.wrap x = (u64 x : Nat) := by rw [wu]; unfold u64; omega
  have hy : IntKind.u64.wrap y = (u64 y : Nat) := by rw [wu]; unfold u64; omega
  have HK := Keep.mk hk
  clear hk
  obtain ⟨k, hkk, hk8⟩ : ∃ k : Nat, ((u64 x : Nat) : Int) % 9 = (k : Int) ∧ k ≤ 8 := ⟨u64 x % 9, by omega, by omega⟩
  obtain ⟨n, hnn, hn13⟩ : ∃ n : Nat, ((u64 y : Nat) : Int) % 1300 = (n : Int) ∧ n < 1300 := ⟨u64 y % 1300, by omega, by omega⟩
  obtain ⟨S, hS⟩ : ∃ S, ba (lenL k n c) = S := ⟨_, rfl⟩
  obtain ⟨X1, hX1⟩ : ∃ X, ba [UInt8.ofNat k] = X := ⟨_, rfl⟩
  obtain ⟨X2, hX2⟩ : ∃ X, mgB ++ X1 = X := ⟨_, rfl⟩
  obtain ⟨X3, hX3⟩ : ∃ X, ba (List.replicate n c) = X := ⟨_, rfl⟩
  have z1 : X1.size = 1 := by rw [← hX1]; rfl
  have z2 : X2.size = 4 := by rw [← hX2, ByteArray.size_append, z1]; rfl
  have z3 : X3.size = n := by rw [← hX3, ba_size, List.length_replicate]
  have eS : X2 ++ X3 = S := by
    apply sl_inj
    rw [← hS, ← hX2, ← hX3, ← hX1, sl_app, sl_app]
    rw [show sl (ba [UInt8.ofNat k]) = [UInt8.ofNat k] from sl_mk _, show sl (ba (List.replicate n c)) = List.replicate n c from sl_mk _, show sl (ba (lenL k n c)) = lenL k n c from sl_mk _]
    rfl
  have b1 : ∀ W, (Op.stringOp .add { data := #[74, 48, 49] } X1).run Tryz.prog W = .ok (.string X2) W := fun W => by rw [← hX2]; exact addS mgB X1 (by rw [z1]; decide) W
  have b2 : ∀ W, (Op.stringOp .add X2 X3).run Tryz.prog W = .ok (.string S) W := fun W => by rw [← eS]; exact addS X2 X3 (by rw [z2, z3]; omega) W
  have HT : Keep (∀ W, Calls Tryz.prog 15 #[.int .u8 (c.toNat : Int), .int .i64 (n : Int)] W fun e w' => e = .returned (.string X3) ∧ W.grownBy w' none) := ⟨fun W => by rw [← hX3]; exact times_c c c.toNat rfl n (by omega) W⟩
  have HCV : Keep (∀ (W : World) (b : Nat), Has W b [.int .u8 (k : Int)] 5 → (convert 39 9 (.slice (some ⟨b, 0, none⟩) 1 1)).run Tryz.prog W = .ok (.string X1) W) := ⟨fun W b h => by rw [← hX1]; exact cvt_one k hk8 b W h⟩
  have sS : S.size = 4 + n := by rw [← hS, ba_size, lenL_len]
  have HSS : Keep (ba (lenL k n c) = S) := ⟨hS⟩
  have hw8 : IntKind.u8.wrap (k : Int) = (k : Int) := by simp [IntKind.wrap, show IntKind.u8.bits = 8 from rfl]; omega
  have HSZ := Keep.mk sS
  have i3 : (3 : Int) ≤ (S.size : Int) := by omega
  have i2 : (2 : Int) ≤ (S.size : Int) := by omega
  have i1 : (1 : Int) ≤ (S.size : Int) := by omega
  have slS : sl S = lenL k n c := by rw [← hS]; exact sl_mk _
  obtain ⟨Y3, hY3⟩ : ∃ Y, S.extract 0 3 = Y := ⟨_, rfl⟩
  obtain ⟨Y2, hY2⟩ : ∃ Y, S.extract 0 2 = Y := ⟨_, rfl⟩
  obtain ⟨Y1, hY1⟩ : ∃ Y, S.extract 1 S.size = Y := ⟨_, rfl⟩
  obtain ⟨Yj, hYj⟩ : ∃ Y, ({ data := #[106] } : ByteArray) ++ Y1 = Y := ⟨_, rfl⟩
  have s3 : sl Y3 = magic := by rw [← hY3, ext_to, slS]; exact sl_mk _
  have s2 : sl Y2 = [74, 48] := by rw [← hY2, ext_to, slS]; exact sl_mk _
  have s1 : sl Y1 = (lenL k n c).drop 1 := by rw [← hY1, slx, slS]
  have y1 : Y1.size = 3 + n := by rw [← sl_len, s1, List.length_drop, lenL_len]; omega
  have sj : sl Yj = 106 :: (lenL k n c).drop 1 := by rw [← hYj, sl_app, s1]; rfl
  have yj : Yj.size = 4 + n := by rw [← sl_len, sj, List.length_cons, List.length_drop, lenL_len]; omega
  have b3 : ∀ W, (Op.stringOp .add { data := #[106] } Y1).run Tryz.prog W = .ok (.string Yj) W := fun W => by rw [← hYj]; exact addS _ Y1 (by rw [y1]; show 1 + (3 + n) ≤ _; omega) W
  obtain ⟨E, hE⟩ : ∃ E, wantC k n c = E := ⟨_, rfl⟩
  obtain ⟨E4, hE4⟩ : ∃ E, (if 1200 < 4 + n then (72 : Int) else 70) = E := ⟨_, rfl⟩
  obtain ⟨D1, hD1⟩ : ∃ D, (dec (sl S)).1 = D := ⟨_, rfl⟩
  obtain ⟨D2, hD2⟩ : ∃ D, (dec (sl Y3)).1 = D := ⟨_, rfl⟩
  obtain ⟨D3, hD3⟩ : ∃ D, (dec (sl Y2)).1 = D := ⟨_, rfl⟩
  obtain ⟨D4, hD4⟩ : ∃ D, (dec (sl Yj)).1 = D := ⟨_, rfl⟩
  have HD1 : Keep (∀ W, Calls Tryz.prog 11 #[.string S] W fun e w' => e = .returned (.tuple #[.agg D1.cells.toArray, .int .i64 E]) ∧ W.grownBy w' none) := ⟨fun W => by have := decode_c S W (by omega); rw [hD1, slS, dec_len k n c hk8, hE] at this; exact this⟩
  have HD2 : Keep (∀ W, Calls Tryz.prog 11 #[.string Y3] W fun e w' => e = .returned (.tuple #[.agg D2.cells.toArray, .int .i64 71]) ∧ W.grownBy w' none) := ⟨fun W => by have := decode_c Y3 W (by rw [← sl_len, s3]; decide); rw [hD2, dec_three _ s3] at this; exact this⟩
  have HD3 : Keep (∀ W, Calls Tryz.prog 11 #[.string Y2] W fun e w' => e = .returned (.tuple #[.agg D3.cells.toArray, .int .i64 70]) ∧ W.grownBy w' none) := ⟨fun W => by have := decode_c Y2 W (by rw [← sl_len, s2]; decide); rw [hD3, s2, dec_two] at this; exact this⟩
  have HD4 : Keep (∀ W, Calls Tryz.prog 11 #[.string Yj] W fun e w' => e = .returned (.tuple #[.agg D4.cells.toArray, .int .i64 E4]) ∧ W.grownBy w' none) := ⟨fun W => by
    have := decode_c Yj W (by omega)
    rw [hD4, sj, dec_j _ (by simp [magic]), List.length_cons, List.length_drop, lenL_len, show 4 + n - 1 + 1 = 4 + n by omega, hE4] at this
    exact this⟩
  have HE : Keep (wantC k n c = E ∧ (if 1200 < 4 + n then (72 : Int) else 70) = E4) := ⟨hE, hE4⟩
  clear hX1 hX2 hX3 z1 z2 z3 eS hS sS slS s3 s2 s1 y1 sj yj hE hE4 hD1 hD2 hD3 hD4 hYj
  go_enter Tryz.func5, Tryz.ntmps5
  go_wp2_with fail
  refine (alive_c w HK.out).mono ?_
  rintro e w1 ⟨rfl, g1⟩
  have HG := Keep.mk g1
  clear g1
  go_upto_region 5 with fail
  rw [hkk, hnn]
  go_cut [7] (fun sv wx => sv = .string S ∧ Keep (w.grownBy wx none))
  case first =>
    have HG1 : Keep (w.grownBy w1.drew none) := ⟨HG.out.trans (gr_drew _ _)⟩
    refine wp_region_held_drew (S := fun w' => w.grownBy w' none) (by kernel_rfl) HG1.out (fun hHeld => ?_)
    refine wpAnyH_take (i := 0) (oi := _) (v := ?_) rfl (by kernel_rfl) (by kernel_rfl) (by kernel_rfl) (fun _ _ _ h => h) (Or.inl ⟨by rfl, ?_⟩) (by assumption) ?_
    rotate_left
    · (intro w hSw; go_simp; first | done | (with_reducible rfl))
    simp only [Act.put, List.getElem_toArray, List.getElem_cons_zero, List.setIfInBounds_toArray, List.set_cons_zero, List.set_cons_succ]
    refine wpAnyH_take (i := 1) (oi := _) (v := ?_) rfl (by kernel_rfl) (by kernel_rfl) (by kernel_rfl) (fun _ _ _ h => h) (Or.inl ⟨by rfl, ?_⟩) (by assumption) ?_
    rotate_left
    · (intro w hSw; go_simp; first | done | (with_reducible rfl))
    simp only [Act.put, List.getElem_toArray, List.getElem_cons_succ, List.getElem_cons_zero, List.setIfInBounds_toArray, List.set_cons_zero, List.set_cons_succ]
    refine wpAnyH_take (i := 5) (oi := _) (v := ?_) rfl (by kernel_rfl) (by kernel_rfl) (by kernel_rfl) (fun _ _ _ h => h) (Or.inl ⟨by rfl, ?_⟩) (by assumption) ?_
    rotate_left
    · (intro w hSw; go_simp; first | done | (with_reducible rfl))
    simp only [Act.put, List.getElem_toArray, List.getElem_cons_succ, List.getElem_cons_zero, List.setIfInBounds_toArray, List.set_cons_zero, List.set_cons_succ]
    refine wpAnyH_take (i := 6) (oi := _) (v := ?_) rfl (by kernel_rfl) (by kernel_rfl) (by kernel_rfl) (fun _ _ _ h => h) (Or.inl ⟨by rfl, ?_⟩) (by assumption) ?_
    rotate_left
    · (intro w hSw; go_simp; first | done | (with_reducible rfl))
    simp only [Act.put, List.getElem_toArray, List.getElem_cons_succ, List.getElem_cons_zero, List.setIfInBounds_toArray, List.set_cons_zero, List.set_cons_succ]
    refine wpAnyH_ready (rs := [2, 7]) (by kernel_rfl) (by simp) ?_
    refine AllReadyH.cons rfl (fun K hK => ?_) (AllReadyH.cons rfl (fun K hK => ?_) AllReadyH.nil)
    · go_simp
      obtain ⟨w2, hw2⟩ : ∃ q, (w1.alloc (.cells #[.int .u8 (k : Int)] 5)).drew = q := ⟨_, rfl⟩
      have h0 : Has w2 w1.heap.size [.int .u8 (k : Int)] 5 := by rw [← hw2]; exact (Has.newA w1 _ 5).kept (gr_drew _ none) (by simp)
      have g2 : w.grownBy w2 none := by rw [← hw2]; exact (HG.out.trans (World.grownBy_alloc _ _ _)).trans (gr_drew _ _)
      rw [hw2]
      obtain ⟨b0, hb0⟩ : ∃ q, w1.heap.size = q := ⟨_, rfl⟩
      rw [hb0] at h0 ⊢
      refine hK.out _ _ g2 (fun _ => ?_)
      clear hK K hHeld hw2
      refine wpAnyH_weaken (S' := fun w' => w.grownBy w' none ∧ w2.grownBy w' none) (fun w' h => h.1) _ _ _ _ ?_
      have hHeld : w.grownBy w2 none ∧ w2.grownBy w2 none := ⟨g2, World.grownBy.refl _ _⟩
      refine wpAnyH_take (i := 3) (oi := _) (v := ?_) rfl (by kernel_rfl) (by kernel_rfl) (by kernel_rfl) (fun _ _ _ h => h) (Or.inl ⟨by rfl, ?_⟩) (by assumption) ?_
      rotate_left
      · (intro w hSw; have x1 := HCV.out w b0 (h0.kept hSw.2 (by simp)); clear hSw; go_simp; first | done | (with_reducible rfl))
      simp only [Act.put, List.getElem_toArray, List.getElem_cons_succ, List.getElem_cons_zero, List.setIfInBounds_toArray, List.set_cons_zero, List.set_cons_succ]
      refine wpAnyH_take (i := 4) (oi := _) (v := ?_) rfl (by kernel_rfl) (by kernel_rfl) (by kernel_rfl) (fun _ _ _ h => h) (Or.inl ⟨by rfl, ?_⟩) (by assumption) ?_
      rotate_left
      · (intro w hSw; go_simp; first | done | (with_reducible rfl))
      simp only [Act.put, List.getElem_toArray, List.getElem_cons_succ, List.getElem_cons_zero, List.setIfInBounds_toArray, List.set_cons_zero, List.set_cons_succ]
      refine wpAnyH_ready (rs := [7]) (by kernel_rfl) (by simp) ?_
      refine AllReadyH.cons rfl (fun K hK => ?_) AllReadyH.nil
      go_simp
      refine (HT.out _).mono ?_
      rintro e wn ⟨rfl, gn⟩
      refine hK.out _ _ ⟨hHeld.1.trans gn, hHeld.2.trans gn⟩ (fun hHeld => ?_)
      clear hK K gn
      refine wpAnyH_take (i := 8) (oi := _) (v := ?_) rfl (by kernel_rfl) (by kernel_rfl) (by kernel_rfl) (fun _ _ _ h => h) (Or.inl ⟨by rfl, ?_⟩) (by assumption) ?_
      rotate_left
      · (intro w hSw; go_simp; first | done | (with_reducible rfl))
      simp only [Act.put, List.getElem_toArray, List.getElem_cons_succ, List.getElem_cons_zero, List.setIfInBounds_toArray, List.set_cons_zero, List.set_cons_succ]
      refine wpAnyH_take (i := 9) (oi := _) (v := ?_) rfl (by kernel_rfl) (by kernel_rfl) (by kernel_rfl) (fun _ _ _ h => h) (Or.inl ⟨by rfl, ?_⟩) (by assumption) ?_
      rotate_left
      · (intro w hSw; go_simp; first | done | (with_reducible rfl))
      simp only [Act.put, List.getElem_toArray, List.getElem_cons_succ, List.getElem_cons_zero, List.setIfInBounds_toArray, List.set_cons_zero, List.set_cons_succ]
      refine wpAnyH_done (by kernel_rfl) ?_ _
      have HF := Keep.mk hHeld.1
      clear hHeld
      go_wp2_with fail
      go_meet
      exact ⟨rfl, HF⟩
    · go_simp
      refine (HT.out _).mono ?_
      rintro e w5 ⟨rfl, gn⟩
      refine hK.out _ _ (hHeld.trans gn) (fun hHeld => ?_)
      clear hK K gn
      refine wpAnyH_ready (rs := [2]) (by kernel_rfl) (by simp) ?_
      refine AllReadyH.cons rfl (fun K hK => ?_) AllReadyH.nil
      go_simp
      obtain ⟨w2, hw2⟩ : ∃ q, w5.alloc (.cells #[.int .u8 (k : Int)] 5) = q := ⟨_, rfl⟩
      have h0 : Has w2 w5.heap.size [.int .u8 (k : Int)] 5 := by rw [← hw2]; exact Has.newA w5 _ 5
      have g2 : w.grownBy w2 none := by rw [← hw2]; exact hHeld.trans (World.grownBy_alloc _ _ _)
      rw [hw2]
      obtain ⟨b0, hb0⟩ : ∃ q, w5.heap.size = q := ⟨_, rfl⟩
      rw [hb0] at h0 ⊢
      refine hK.out _ _ g2 (fun _ => ?_)
      clear hK K hHeld hw2
      refine wpAnyH_weaken (S' := fun w' => w.grownBy w' none ∧ w2.grownBy w' none) (fun w' h => h.1) _ _ _ _ ?_
      have hHeld : w.grownBy w2 none ∧ w2.grownBy w2 none := ⟨g2, World.grownBy.refl _ _⟩
      refine wpAnyH_take (i := 3) (oi := _) (v := ?_) rfl (by kernel_rfl) (by kernel_rfl) (by kernel_rfl) (fun _ _ _ h => h) (Or.inl ⟨by rfl, ?_⟩) (by assumption) ?_
      rotate_left
      · (intro w hSw; have x1 := HCV.out w b0 (h0.kept hSw.2 (by simp)); clear hSw; go_simp; first | done | (with_reducible rfl))
      simp only [Act.put, List.getElem_toArray, List.getElem_cons_succ, List.getElem_cons_zero, List.setIfInBounds_toArray, List.set_cons_zero, List.set_cons_succ]
      refine wpAnyH_take (i := 4) (oi := _) (v := ?_) rfl (by kernel_rfl) (by kernel_rfl) (by kernel_rfl) (fun _ _ _ h => h) (Or.inl ⟨by rfl, ?_⟩) (by assumption) ?_
      rotate_left
      · (intro w hSw; go_simp; first | done | (with_reducible rfl))
      simp only [Act.put, List.getElem_toArray, List.getElem_cons_succ, List.getElem_cons_zero, List.setIfInBounds_toArray, List.set_cons_zero, List.set_cons_succ]
      refine wpAnyH_take (i := 8) (oi := _) (v := ?_) rfl (by kernel_rfl) (by kernel_rfl) (by kernel_rfl) (fun _ _ _ h => h) (Or.inl ⟨by rfl, ?_⟩) (by assumption) ?_
      rotate_left
      · (intro w hSw; go_simp; first | done | (with_reducible rfl))
      simp only [Act.put, List.getElem_toArray, List.getElem_cons_succ, List.getElem_cons_zero, List.setIfInBounds_toArray, List.set_cons_zero, List.set_cons_succ]
      refine wpAnyH_take (i := 9) (oi := _) (v := ?_) rfl (by kernel_rfl) (by kernel_rfl) (by kernel_rfl) (fun _ _ _ h => h) (Or.inl ⟨by rfl, ?_⟩) (by assumption) ?_
      rotate_left
      · (intro w hSw; go_simp; first | done | (with_reducible rfl))
      simp only [Act.put, List.getElem_toArray, List.getElem_cons_succ, List.getElem_cons_zero, List.setIfInBounds_toArray, List.set_cons_zero, List.set_cons_succ]
      refine wpAnyH_done (by kernel_rfl) ?_ _
      have HF := Keep.mk hHeld.1
      clear hHeld
      go_wp2_with fail
      go_meet
      exact ⟨rfl, HF⟩
  case rest =>
  have HG2 := hcut.2
  replace hcut := hcut.1
  subst hcut
  clear HG
  go_wp2_with fail
  refine (HD1.out _).mono ?_
  rintro e w21 ⟨rfl, gn⟩
  replace HG2 : Keep (w.grownBy w21 none) := ⟨HG2.out.trans gn⟩
  clear gn
  go_wp2_with (
    (refine store_dg w21 D1 rfl rfl rfl rfl rfl ?_
     intro w22 hs gs
     have HG3 : Keep (w.grownBy w22 none) := ⟨HG2.out.trans gs⟩
     clear hs gs HG2))
  have HG2 := HG3
  clear HG3
  refine (HD2.out _).mono ?_
  rintro e w23 ⟨rfl, gn⟩
  replace HG2 : Keep (w.grownBy w23 none) := ⟨HG2.out.trans gn⟩
  clear gn
  go_wp2_with (
    (refine store_dg w23 D2 rfl rfl rfl rfl rfl ?_
     intro w24 hs gs
     have HG3 : Keep (w.grownBy w24 none) := ⟨HG2.out.trans gs⟩
     clear hs gs HG2))
  have HG2 := HG3
  clear HG3
  refine (HD3.out _).mono ?_
  rintro e w25 ⟨rfl, gn⟩
  replace HG2 : Keep (w.grownBy w25 none) := ⟨HG2.out.trans gn⟩
  clear gn
  go_wp2_with (
    (refine store_dg w25 D3 rfl rfl rfl rfl rfl ?_
     intro w26 hs gs
     have HG3 : Keep (w.grownBy w26 none) := ⟨HG2.out.trans gs⟩
     clear hs gs HG2))
  have HG2 := HG3
  clear HG3
  refine (HD4.out _).mono ?_
  rintro e w27 ⟨rfl, gn⟩
  replace HG2 : Keep (w.grownBy w27 none) := ⟨HG2.out.trans gn⟩
  clear gn
  obtain ⟨hE, hE4⟩ := HE.out
  have hsz := HSZ.out
  have h12 : ¬ 1200 < 4 + n := by omega
  have hA : decide ((1200 : Int) < (S.size : Int)) = false := decide_eq_false (by omega)
  have hA2 : decide ((S.size : Int) ≤ 1200) = true := decide_eq_true (by omega)
  have hA3 : (S.size : Int) ≤ 1200 := by omega
  obtain rfl : E4 = 70 := by rw [← hE4, if_neg h12]
  rw [wantC, if_neg h12] at hE
  clear hE4 HE h12 HSZ hbig
  have hk1 : k = 6 := by omega
  have hki : (k : Int) = 6 := by omega
  rw [hki]
  rw [hk1] at hE
  rw [if_neg (by omega)] at hE
  by_cases hn : 48 ≤ n
  · have n4 : decide ((S.size : Int) < 52) = false := decide_eq_false (by omega)
    obtain rfl : E = 0 := by rw [← hE]; simp [codeL, hn]
    clear hE hsz hk1 hki hkk hkx hn hnn
    go_wp2_with (
        (refine store_dg w27 D4 rfl rfl rfl rfl rfl ?_
         intro w28 hs gs
         have HG3 : Keep (w.grownBy w28 none) := ⟨HG2.out.trans gs⟩
         clear hs gs HG2))
    go_ret
    exact ⟨rfl, HG3.out⟩
  · have n4 : decide ((S.size : Int) < 52) = true := decide_eq_true (by omega)
    obtain rfl : E = 72 := by rw [← hE]; simp [codeL, hn]
    clear hE hsz hk1 hki hkk hkx hn hnn
    go_wp2_with (
        (refine store_dg w27 D4 rfl rfl rfl rfl rfl ?_
         intro w28 hs gs
         have HG3 : Keep (w.grownBy w28 none) := ⟨HG2.out.trans gs⟩
         clear hs gs HG2))
    go_ret
    exact ⟨rfl, HG3.out⟩
end Go.Proofs.YtiphnlfbgbemfaaGreatDoor.Pk

