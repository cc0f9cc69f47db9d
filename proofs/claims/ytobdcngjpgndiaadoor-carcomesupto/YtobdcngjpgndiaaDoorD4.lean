/- the reference: Hit, more -/
import Derived.Test.YtobdcngjpgndiaaDoorD2
namespace Go.Proofs.YtobdcngjpgndiaaDoor.Bo
open Go Go.RowKit

set_option maxRecDepth 100000 in
set_option maxHeartbeats 8000000 in
theorem rhit_c (w : World) (c : Cr) (h : Int) (ok : CrOk c) (hh : In h) :
    Calls Tryd.prog 25 #[.agg (crv c).toArray, iv h] w fun e w' => e = .returned (.agg (crv (hitC c h)).toArray) ∧ w.grownBy w' none := by
  have HD : Keep ((0 < c.wa → hitC c h = c) ∧ (¬ 0 < c.wa → hitC c h = if max h 0 < c.he then { c with he := c.he - max h 0 } else { c with he := 0, wa := 40, sx := 0, sy := 0 })) := ⟨fun q => by unfold hitC; rw [if_pos q], fun q => by unfold hitC; rw [if_neg q]⟩
  generalize hitC c h = cf at HD ⊢
  have hhe := ok.he
  obtain ⟨du, hdu, hdr⟩ := underC
  have S3 := ((Sep.nil w).newBox (crv c).toArray 32).newBox zC14.toArray 32
  obtain ⟨W1, hW1⟩ : ∃ W1, w.alloc (.cells (crv c).toArray 32) = W1 := ⟨_, rfl⟩
  obtain ⟨xb, hxb⟩ : ∃ xb, w.heap.size = xb := ⟨_, rfl⟩
  rw [hW1, hxb] at S3
  obtain ⟨w5, hW3⟩ : ∃ W3, W1.alloc (.cells zC14.toArray 32) = W3 := ⟨_, rfl⟩
  obtain ⟨rb, hrb⟩ : ∃ rb, W1.heap.size = rb := ⟨_, rfl⟩
  rw [hW3, hrb] at S3
  change Sep w w5 [boxA rb zC14 32, boxA xb (crv c) 32] at S3
  have hsz : (crv c).toArray.size = 14 := rfl
  unfold zC14 crv zC at hW3
  change W1.alloc _ = w5 at hW3
  have HS6 := Keep.mk S3.swap
  have y11 : w5.cell? ⟨xb, 11, none⟩ = some (iv c.wa) := (S3.boxGet k1m).cellv 11 _ rfl
  clear S3
  by_cases hwr : 0 < c.wa
  · have HD1 := Keep.mk (HD.out.1 hwr)
    have hdec : decide (0 < c.wa) = true := decide_eq_true hwr
    go_enter Tryd.func25, Tryd.ntmps25
    have RNGe := Keep.mk (HS6.out.boxGet k0m).range
    have HRBe := Keep.mk (HS6.out.boxGet k1m)
    have HLe := Keep.mk (crv_one c)
    go_wp2_with (first
      | (show wpList _ _ _ ({ dst := _, op := Op.load 32 _, type := _, pos := _, after := _, guard := _ } :: _) _ _
         refine wpList_load_mid rfl 32 _ rfl _ _ rfl _ _ RNGe.out hdu hdr (infoC' c) ?_)
      | (show wpList _ _ _ ({ dst := _, op := Op.store 32 _ _, type := _, pos := _, after := _, guard := _ } :: _) _ _
         refine store_at _ rb 0 zC14 (crv c) 32 32 rfl rfl rfl rfl HRBe.out (Nat.le_refl _) (infoC' c) HLe.out ?_))
    intro w7 hS7 g7
    have S7 := hS7 _ _ HS6.out.swap
    rw [over_all zC14 (crv c) rfl] at S7
    have HS7 := Keep.mk S7
    clear hS7 g7 S7 RNGe HRBe HS6
    go_wp2_with fail
    exact ret_c rfl rfl (HS7.out.boxGet k0m) hdu hdr (infoC' c) rfl ⟨by rw [HD1.out], HS7.out.g⟩
  have hdec : decide (0 < c.wa) = false := decide_eq_false hwr
  have HD1 := Keep.mk (HD.out.2 hwr)
  clear HD hwr
  have y7 : w5.cell? ⟨xb, 7, none⟩ = some (iv c.he) := (HS6.out.boxGet k0m).cellv 7 _ rfl
  have f7 : w5.frozen? ⟨xb, 7, none⟩ = false := (HS6.out.boxGet k0m).frozen 7
  obtain ⟨t, ht⟩ : ∃ t, max h 0 = t := ⟨_, rfl⟩
  rw [ht] at HD1
  have ht0 : 0 ≤ t ∧ t ≤ 9223372036854775807 := by have := hh.2; omega
  have hneg : (h < 0 ∧ decide (h < 0) = true ∧ t = 0) ∨ (¬ h < 0 ∧ decide (h < 0) = false ∧ t = h) := by
    by_cases q : h < 0
    · exact .inl ⟨q, decide_eq_true q, by omega⟩
    · exact .inr ⟨q, decide_eq_false q, by omega⟩
  clear ht
  by_cases hlt : t < c.he
  · rw [if_pos hlt] at HD1
    have k1 : IntKind.i64.wrap (c.he - t) = c.he - t := wi _ (by omega) (by have := hhe.2; omega)
    have S8 := HS6.out.boxPut 7 (iv (c.he - t))
    change Sep w _ [boxA xb (crv { c with he := c.he - t }) 32, boxA rb zC14 32] at S8
    obtain ⟨c2, hc2⟩ : ∃ c2 : Cr, ({ c with he := c.he - t } : Cr) = c2 := ⟨_, rfl⟩
    rw [hc2] at S8 HD1
    obtain ⟨w8, hw8⟩ : ∃ w8, w5.setCell ⟨xb, 7, none⟩ (iv (c.he - t)) = w8 := ⟨_, rfl⟩
    rw [hw8] at S8
    have HS8 := Keep.mk S8
    have hd2 : decide (c.he ≤ t) = false := decide_eq_false (by omega)
    have hn2 : ¬ c.he ≤ t := by omega
    clear S8 HS6 hc2 hhe hh ok
    rcases hneg with ⟨h1, h2, h3⟩ | ⟨h1, h2, h3⟩
    · subst h3
      rw [Int.sub_zero] at k1 hw8
      go_enter Tryd.func25, Tryd.ntmps25
      have RNGe := Keep.mk (HS8.out.boxGet k0m).range
      have HRBe := Keep.mk (HS8.out.boxGet k1m)
      have HLe := Keep.mk (crv_one c2)
      go_wp2_with (first
        | (show wpList _ _ _ ({ dst := _, op := Op.load 32 _, type := _, pos := _, after := _, guard := _ } :: _) _ _
           refine wpList_load_mid rfl 32 _ rfl _ _ rfl _ _ RNGe.out hdu hdr (infoC' c2) ?_)
        | (show wpList _ _ _ ({ dst := _, op := Op.store 32 _ _, type := _, pos := _, after := _, guard := _ } :: _) _ _
           refine store_at _ rb 0 zC14 (crv c2) 32 32 rfl rfl rfl rfl HRBe.out (Nat.le_refl _) (infoC' c2) HLe.out ?_))
      intro w7 hS7 g7
      have S7 := hS7 _ _ HS8.out.swap
      rw [over_all zC14 (crv c2) rfl] at S7
      have HS7 := Keep.mk S7
      clear hS7 g7 S7 RNGe HRBe HS8
      go_wp2_with fail
      exact ret_c rfl rfl (HS7.out.boxGet k0m) hdu hdr (infoC' c2) rfl ⟨by rw [HD1.out], HS7.out.g⟩
    · subst h3
      go_enter Tryd.func25, Tryd.ntmps25
      have RNGe := Keep.mk (HS8.out.boxGet k0m).range
      have HRBe := Keep.mk (HS8.out.boxGet k1m)
      have HLe := Keep.mk (crv_one c2)
      go_wp2_with (first
        | (show wpList _ _ _ ({ dst := _, op := Op.load 32 _, type := _, pos := _, after := _, guard := _ } :: _) _ _
           refine wpList_load_mid rfl 32 _ rfl _ _ rfl _ _ RNGe.out hdu hdr (infoC' c2) ?_)
        | (show wpList _ _ _ ({ dst := _, op := Op.store 32 _ _, type := _, pos := _, after := _, guard := _ } :: _) _ _
           refine store_at _ rb 0 zC14 (crv c2) 32 32 rfl rfl rfl rfl HRBe.out (Nat.le_refl _) (infoC' c2) HLe.out ?_))
      intro w7 hS7 g7
      have S7 := hS7 _ _ HS8.out.swap
      rw [over_all zC14 (crv c2) rfl] at S7
      have HS7 := Keep.mk S7
      clear hS7 g7 S7 RNGe HRBe HS8
      go_wp2_with fail
      exact ret_c rfl rfl (HS7.out.boxGet k0m) hdu hdr (infoC' c2) rfl ⟨by rw [HD1.out], HS7.out.g⟩
  · rw [if_neg hlt] at HD1
    have hd2 : decide (c.he ≤ t) = true := decide_eq_true (by omega)
    have hn2 : c.he ≤ t := by omega
    have S8 := HS6.out.boxPut 7 (iv 0)
    obtain ⟨w8, hw8⟩ : ∃ w8, w5.setCell ⟨xb, 7, none⟩ (iv 0) = w8 := ⟨_, rfl⟩
    rw [hw8] at S8
    have z11 : w8.cell? ⟨xb, 11, none⟩ = some (iv c.wa) := (S8.boxGet k0m).cellv 11 _ rfl
    have f11 : w8.frozen? ⟨xb, 11, none⟩ = false := (S8.boxGet k0m).frozen 11
    have S9 := S8.boxPut 11 (iv 40)
    obtain ⟨w9, hw9⟩ : ∃ w9, w8.setCell ⟨xb, 11, none⟩ (iv 40) = w9 := ⟨_, rfl⟩
    rw [hw9] at S9
    have y4 : w9.cell? ⟨xb, 4, none⟩ = some (iv c.sx) := (S9.boxGet k0m).cellv 4 _ rfl
    have f4 : w9.frozen? ⟨xb, 4, none⟩ = false := (S9.boxGet k0m).frozen 4
    have y5 : w9.cell? ⟨xb, 5, none⟩ = some (iv c.sy) := (S9.boxGet k0m).cellv 5 _ rfl
    have f5 : w9.frozen? ⟨xb, 5, none⟩ = false := (S9.boxGet k0m).frozen 5
    have S10 := S9.boxPut 4 (iv 0)
    obtain ⟨w10, hw10⟩ : ∃ w10, w9.setCell ⟨xb, 4, none⟩ (iv 0) = w10 := ⟨_, rfl⟩
    rw [hw10] at S10
    have z5 : w10.cell? ⟨xb, 5, none⟩ = some (iv c.sy) := (S10.boxGet k0m).cellv 5 _ rfl
    have g5 : w10.frozen? ⟨xb, 5, none⟩ = false := (S10.boxGet k0m).frozen 5
    have S11 := S10.boxPut 5 (iv 0)
    obtain ⟨w11, hw11⟩ : ∃ w11, w10.setCell ⟨xb, 5, none⟩ (iv 0) = w11 := ⟨_, rfl⟩
    rw [hw11] at S11
    change Sep w _ [boxA xb (crv { c with he := 0, wa := 40, sx := 0, sy := 0 }) 32, boxA rb zC14 32] at S11
    obtain ⟨c2, hc2⟩ : ∃ c2 : Cr, ({ c with he := 0, wa := 40, sx := 0, sy := 0 } : Cr) = c2 := ⟨_, rfl⟩
    rw [hc2] at S11 HD1
    have HS8 := Keep.mk S11
    clear S8 S9 S10 S11 HS6 hc2 hhe hh ok
    rcases hneg with ⟨h1, h2, h3⟩ | ⟨h1, h2, h3⟩
    · subst h3
      go_enter Tryd.func25, Tryd.ntmps25
      have RNGe := Keep.mk (HS8.out.boxGet k0m).range
      have HRBe := Keep.mk (HS8.out.boxGet k1m)
      have HLe := Keep.mk (crv_one c2)
      go_wp2_with (first
        | (show wpList _ _ _ ({ dst := _, op := Op.load 32 _, type := _, pos := _, after := _, guard := _ } :: _) _ _
           refine wpList_load_mid rfl 32 _ rfl _ _ rfl _ _ RNGe.out hdu hdr (infoC' c2) ?_)
        | (show wpList _ _ _ ({ dst := _, op := Op.store 32 _ _, type := _, pos := _, after := _, guard := _ } :: _) _ _
           refine store_at _ rb 0 zC14 (crv c2) 32 32 rfl rfl rfl rfl HRBe.out (Nat.le_refl _) (infoC' c2) HLe.out ?_))
      intro w7 hS7 g7
      have S7 := hS7 _ _ HS8.out.swap
      rw [over_all zC14 (crv c2) rfl] at S7
      have HS7 := Keep.mk S7
      clear hS7 g7 S7 RNGe HRBe HS8
      go_wp2_with fail
      exact ret_c rfl rfl (HS7.out.boxGet k0m) hdu hdr (infoC' c2) rfl ⟨by rw [HD1.out], HS7.out.g⟩
    · subst h3
      go_enter Tryd.func25, Tryd.ntmps25
      have RNGe := Keep.mk (HS8.out.boxGet k0m).range
      have HRBe := Keep.mk (HS8.out.boxGet k1m)
      have HLe := Keep.mk (crv_one c2)
      go_wp2_with (first
        | (show wpList _ _ _ ({ dst := _, op := Op.load 32 _, type := _, pos := _, after := _, guard := _ } :: _) _ _
           refine wpList_load_mid rfl 32 _ rfl _ _ rfl _ _ RNGe.out hdu hdr (infoC' c2) ?_)
        | (show wpList _ _ _ ({ dst := _, op := Op.store 32 _ _, type := _, pos := _, after := _, guard := _ } :: _) _ _
           refine store_at _ rb 0 zC14 (crv c2) 32 32 rfl rfl rfl rfl HRBe.out (Nat.le_refl _) (infoC' c2) HLe.out ?_))
      intro w7 hS7 g7
      have S7 := hS7 _ _ HS8.out.swap
      rw [over_all zC14 (crv c2) rfl] at S7
      have HS7 := Keep.mk S7
      clear hS7 g7 S7 RNGe HRBe HS8
      go_wp2_with fail
      exact ret_c rfl rfl (HS7.out.boxGet k0m) hdu hdr (infoC' c2) rfl ⟨by rw [HD1.out], HS7.out.g⟩
theorem grw5 (n : Int) : grw (grw n 1 100) 4 100 = grw n 5 100 := by unfold grw; omega
set_option maxRecDepth 100000 in
set_option maxHeartbeats 4000000 in
theorem rmore_c (w : World) (n m t : Int) (hn : In n) (ht : 0 ≤ t ∧ t ≤ 1000) (hm : 0 ≤ m ∧ m ≤ 1000) : Calls Tryd.prog 51 #[iv n, iv m, iv t] w fun e w' => e = .returned (iv (grw n m t)) ∧ w' = w := by
  obtain ⟨g, hg⟩ : ∃ g, grw n m t = g := ⟨_, rfl⟩
  rw [hg]
  unfold grw at hg
  by_cases h1 : t ≤ n
  · have hd : decide (t ≤ n) = true := decide_eq_true h1
    obtain rfl : g = t := by omega
    clear hg hn hm ht
    go_enter Tryd.func51, Tryd.ntmps51
    go_wp2_with fail
    go_ret
    exact ⟨rfl, rfl⟩
  · have hd : decide (t ≤ n) = false := decide_eq_false h1
    have hw : IntKind.i64.wrap (n + m) = n + m := wi _ (by have := hn.1; omega) (by omega)
    by_cases h2 : t < n + m
    · have hd2 : decide (t < n + m) = true := decide_eq_true h2
      obtain rfl : g = t := by omega
      clear hg hn hm ht
      go_enter Tryd.func51, Tryd.ntmps51
      go_wp2_with fail
      go_ret
      exact ⟨rfl, rfl⟩
    · have hd2 : decide (t < n + m) = false := decide_eq_false h2
      obtain rfl : g = n + m := by omega
      clear hg hn hm ht
      go_enter Tryd.func51, Tryd.ntmps51
      go_wp2_with fail
      go_ret
      exact ⟨rfl, rfl⟩
end Go.Proofs.YtobdcngjpgndiaaDoor.Bo
