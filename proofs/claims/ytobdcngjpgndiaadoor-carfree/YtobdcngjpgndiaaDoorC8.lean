/- car: Rest -/
import Derived.Test.YtobdcngjpgndiaaDoorC7
namespace Go.Proofs.YtobdcngjpgndiaaDoor.Bo
open Go Go.RowKit

theorem grw_in (n m t : Int) (hn : In n) (hm : 0 ≤ m ∧ m ≤ 1000) (ht : 0 ≤ t ∧ t ≤ 1000) : In (grw n m t) := by
  obtain ⟨h1, h2⟩ := hn
  unfold grw
  exact ⟨by omega, by omega⟩
set_option maxRecDepth 100000 in
set_option maxHeartbeats 32000000 in
theorem rest_c (w : World) (v : Value) (L : Bo) (c : Cr) (t : Nat) (ok : CrOk c) (hB : Bd w v L) :
    Calls Tryd.prog 23 #[v, .agg (crv c).toArray, .int .u64 t] w fun e w' => e = .returned (.agg (crv (rstC L c t)).toArray) ∧ w.grownBy w' none := by
  have HAT := Keep.mk (fun W (g : w.grownBy W none) => at_c W v L (hB.kept g) c.x c.y ok.x ok.y)
  have HD : Keep ((0 < c.wa → rstC L c t = c) ∧ (¬ 0 < c.wa → rstC L c t = { c with co := if 0 < c.co then c.co - 1 else c.co, en := if atL L (c.x, c.y) = 69 then grw (grw c.en 1 100) 4 100 else grw c.en 1 100, am := if atL L (c.x, c.y) = 65 ∧ t % 8 = 0 then grw c.am 1 20 else c.am })) := ⟨fun q => by unfold rstC; rw [if_pos q], fun q => by unfold rstC; rw [if_neg q]⟩
  generalize rstC L c t = cf at HD ⊢
  generalize atL L (c.x, c.y) = at1 at HD HAT
  have HGI := Keep.mk (grw_in c.en 1 100 ok.en (by omega) (by omega))
  have HOK := Keep.mk ok
  have htm : ((t : Nat) : Int).tmod 8 = (t : Int) % 8 := Int.tmod_eq_emod_of_nonneg (by omega)
  clear hB
  obtain ⟨du, hdu, hdr⟩ := underC
  have hO := Keep.mk (fun W => own_c W c HOK.out.nm)
  have hWr := Keep.mk (fun W => wreck_c W c)
  have HL1 := Keep.mk (crv_one c)
  have S3 := ((Sep.nil w).newBox (crv c).toArray 32).newBox zC14.toArray 32
  obtain ⟨W1, hW1⟩ : ∃ W1, w.alloc (.cells (crv c).toArray 32) = W1 := ⟨_, rfl⟩
  obtain ⟨xb, hxb⟩ : ∃ xb, w.heap.size = xb := ⟨_, rfl⟩
  rw [hW1, hxb] at S3
  obtain ⟨W3, hW3⟩ : ∃ W3, W1.alloc (.cells zC14.toArray 32) = W3 := ⟨_, rfl⟩
  obtain ⟨rb, hrb⟩ : ∃ rb, W1.heap.size = rb := ⟨_, rfl⟩
  rw [hW3, hrb] at S3
  change Sep w W3 [boxA rb zC14 32, boxA xb (crv c) 32] at S3
  have hsz : (crv c).toArray.size = 14 := rfl
  unfold zC14 crv zC at hW3
  change W1.alloc _ = W3 at hW3
  have HS3 := Keep.mk S3.swap
  have RNG := Keep.mk (S3.boxGet k1m).range
  clear S3 ok
  go_enter Tryd.func23, Tryd.ntmps23
  go_wp2_with (first
    | (show wpList _ _ _ ({ dst := _, op := Op.load 32 _, type := _, pos := _, after := _, guard := _ } :: _) _ _
       refine wpList_load_mid rfl 32 _ rfl _ _ rfl _ _ RNG.out hdu hdr (infoC' c) ?_))
  refine (hO.out _).mono ?_
  rintro e w3 ⟨rfl, g3⟩
  have HS4 := Keep.mk (HS3.out.grown g3)
  have HRB := Keep.mk (HS4.out.boxGet k0m)
  clear g3 HS3 RNG hO hW1 hW3 hxb hrb
  go_wp2_with (first
    | (show wpList _ _ _ ({ dst := _, op := Op.store 32 _ _, type := _, pos := _, after := _, guard := _ } :: _) _ _
       refine store_at _ xb 0 (crv c) (crv c) 32 32 rfl rfl rfl rfl HRB.out (Nat.le_refl _) (infoC' c) HL1.out ?_))
  intro w4 hS4 g4
  have S5 := hS4 _ _ HS4.out
  rw [over_all _ _ rfl] at S5
  have HS5 := Keep.mk S5
  have RNG := Keep.mk (S5.boxGet k0m).range
  clear hS4 g4 S5 HRB HS4
  go_wp2_with (first
    | (show wpList _ _ _ ({ dst := _, op := Op.load 32 _, type := _, pos := _, after := _, guard := _ } :: _) _ _
       refine wpList_load_mid rfl 32 _ rfl _ _ rfl _ _ RNG.out hdu hdr (infoC' c) ?_))
  refine (hWr.out _).mono ?_
  rintro e w5 ⟨rfl, g5⟩
  have HS6 := Keep.mk (HS5.out.grown g5)
  clear g5 HS5 RNG hWr
  by_cases hwr : 0 < c.wa
  · have HD1 := Keep.mk (HD.out.1 hwr)
    have hdec : decide (0 < c.wa) = true := decide_eq_true hwr
    have RNGe := Keep.mk (HS6.out.boxGet k0m).range
    have HRBe := Keep.mk (HS6.out.boxGet k1m)
    have HLe := Keep.mk (crv_one c)
    go_wp2_with (first
      | (show wpList _ _ _ ({ dst := _, op := Op.load 32 _, type := _, pos := _, after := _, guard := _ } :: _) _ _
         refine wpList_load_mid rfl 32 _ rfl _ _ rfl _ _ RNGe.out hdu hdr (infoC' c) ?_)
      | (show wpList _ _ _ ({ dst := _, op := Op.store 32 _ _, type := _, pos := _, after := _, guard := _ } :: _) _ _
         refine store_at _ rb 0 zC14 (crv c) 32 32 rfl rfl rfl rfl HRBe.out (Nat.le_refl _) (infoC' c) HLe.out ?_))
    intro w7 hS7 g7
    have S7 := hS7 _ _ HS6.out.swap
    rw [over_all zC14 (crv c) rfl] at S7
    have HS7 := Keep.mk S7
    clear hS7 g7 S7 RNGe HRBe HS6
    go_wp2_with fail
    exact ret_c rfl rfl (HS7.out.boxGet k0m) hdu hdr (infoC' c) rfl ⟨by rw [HD1.out], HS7.out.g⟩
  have hdec : decide (0 < c.wa) = false := decide_eq_false hwr
  have HD1 := Keep.mk (HD.out.2 (Int.not_lt.1 hwr))
  clear HD hwr
  have hcs : at1 = 69 ∨ (at1 = 65 ∧ t % 8 = 0) ∨ (at1 = 65 ∧ ¬ t % 8 = 0) ∨ (at1 ≠ 69 ∧ at1 ≠ 65) := by omega
  by_cases hco : 0 < c.co
  · have hdo : decide (0 < c.co) = true := decide_eq_true hco
    have HCO := Keep.mk hco
    rcases hcs with hk | hk | hk | hk
    · have b1 : (at1 == 69) = true := by simp [hk]
      have b2 : (at1 == 65) = false := by simp [hk]
      have HD2 : Keep (cf = { c with co := c.co - 1, en := grw (grw c.en 1 100) 4 100, am := c.am }) := ⟨by
        rw [HD1.out, if_pos HCO.out]
        first | rw [if_pos hk, if_neg (by omega)] | rw [if_neg (by omega), if_pos hk] | rw [if_neg (by omega), if_neg (by omega)]⟩
      clear HD1 hk
      have kc : IntKind.i64.wrap (c.co - 1) = c.co - 1 := wi _ (by omega) (by have := HOK.out.co.2; omega)
      have y10 : w5.cell? ⟨xb, 10, none⟩ = some (iv c.co) := (HS6.out.boxGet k0m).cellv 10 _ rfl
      have f10 : w5.frozen? ⟨xb, 10, none⟩ = false := (HS6.out.boxGet k0m).frozen 10
      have S_ := HS6.out.boxPut 10 (iv (c.co - 1))
      obtain ⟨w6, hw6⟩ : ∃ w6, w5.setCell ⟨xb, 10, none⟩ (iv (c.co - 1)) = w6 := ⟨_, rfl⟩
      rw [hw6] at S_
      change Sep w w6 [boxA xb (crv { c with co := (c.co - 1) }) 32, boxA rb zC14 32] at S_
      have HS7 := Keep.mk S_
      clear S_
      have q2 : w6.cell? ⟨xb, 2, none⟩ = some (iv c.x) := (HS7.out.boxGet k0m).cellv 2 _ rfl
      have q3 : w6.cell? ⟨xb, 3, none⟩ = some (iv c.y) := (HS7.out.boxGet k0m).cellv 3 _ rfl
      have q10 : w5.cell? ⟨xb, 10, none⟩ = some (iv c.co) := (HS6.out.boxGet k0m).cellv 10 _ rfl
      have hAt := HAT.out w6 HS7.out.g
      go_wp2_with fail
      refine hAt.mono ?_
      rintro e w9 ⟨rfl, g9⟩
      have HS9 := Keep.mk (HS7.out.grown g9)
      clear hAt g9 HS7 q2 q3 q10
      have y8 : w9.cell? ⟨xb, 8, none⟩ = some (iv c.en) := (HS9.out.boxGet k0m).cellv 8 _ rfl
      have f8 : w9.frozen? ⟨xb, 8, none⟩ = false := (HS9.out.boxGet k0m).frozen 8
      have S_ := HS9.out.boxPut 8 (iv (grw c.en 1 100))
      obtain ⟨w10, hw10⟩ : ∃ w10, w9.setCell ⟨xb, 8, none⟩ (iv (grw c.en 1 100)) = w10 := ⟨_, rfl⟩
      rw [hw10] at S_
      change Sep w w10 [boxA xb (crv { c with co := (c.co - 1), en := (grw c.en 1 100) }) 32, boxA rb zC14 32] at S_
      have HS10 := Keep.mk S_
      clear S_
      have hG1 := grown_c w9 c.en 1 100 HOK.out.en (by omega) (by omega)
      go_wp2_with fail
      refine hG1.mono ?_
      rintro e w_ ⟨rfl, hw_⟩
      subst hw_
      clear hG1
      have z8 : w10.cell? ⟨xb, 8, none⟩ = some (iv (grw c.en 1 100)) := (HS10.out.boxGet k0m).cellv 8 _ rfl
      have g8 : w10.frozen? ⟨xb, 8, none⟩ = false := (HS10.out.boxGet k0m).frozen 8
      have S_ := HS10.out.boxPut 8 (iv (grw (grw c.en 1 100) 4 100))
      obtain ⟨w11, hw11⟩ : ∃ w11, w10.setCell ⟨xb, 8, none⟩ (iv (grw (grw c.en 1 100) 4 100)) = w11 := ⟨_, rfl⟩
      rw [hw11] at S_
      change Sep w w11 [boxA xb (crv { c with co := (c.co - 1), en := (grw (grw c.en 1 100) 4 100) }) 32, boxA rb zC14 32] at S_
      have HS11 := Keep.mk S_
      clear S_
      have hG2 := grown_c w10 (grw c.en 1 100) 4 100 HGI.out (by omega) (by omega)
      go_wp2_with fail
      refine hG2.mono ?_
      rintro e w_ ⟨rfl, hw_⟩
      subst hw_
      clear hG2
      obtain ⟨c2, hc2⟩ : ∃ c2 : Cr, ({ c with co := (c.co - 1), en := (grw (grw c.en 1 100) 4 100) } : Cr) = c2 := ⟨_, rfl⟩
      have HD3 : Keep (cf = c2) := ⟨by rw [HD2.out, ← hc2]⟩
      rw [hc2] at HS11
      clear HD2 hc2
      have RNGe := Keep.mk (HS11.out.boxGet k0m).range
      have HRBe := Keep.mk (HS11.out.boxGet k1m)
      have HLe := Keep.mk (crv_one c2)
      go_wp2_with (first
        | (show wpList _ _ _ ({ dst := _, op := Op.load 32 _, type := _, pos := _, after := _, guard := _ } :: _) _ _
           refine wpList_load_mid rfl 32 _ rfl _ _ rfl _ _ RNGe.out hdu hdr (infoC' c2) ?_)
        | (show wpList _ _ _ ({ dst := _, op := Op.store 32 _ _, type := _, pos := _, after := _, guard := _ } :: _) _ _
           refine store_at _ rb 0 zC14 (crv c2) 32 32 rfl rfl rfl rfl HRBe.out (Nat.le_refl _) (infoC' c2) HLe.out ?_))
      intro w7 hS7 g7
      have S7 := hS7 _ _ HS11.out.swap
      rw [over_all zC14 (crv c2) rfl] at S7
      have HS7 := Keep.mk S7
      clear hS7 g7 S7 RNGe HRBe HS11
      go_wp2_with fail
      exact ret_c rfl rfl (HS7.out.boxGet k0m) hdu hdr (infoC' c2) rfl ⟨by rw [HD3.out], HS7.out.g⟩
    · have b1 : (at1 == 69) = false := by simp [hk.1]
      have b2 : (at1 == 65) = true := by simp [hk.1]
      have b3 : ((t : Int) % 8 == 0) = true := by simp; omega
      have b4 : (t : Int) % 8 = 0 := by omega
      have HD2 : Keep (cf = { c with co := c.co - 1, en := grw c.en 1 100, am := grw c.am 1 20 }) := ⟨by
        rw [HD1.out, if_pos HCO.out]
        first | rw [if_pos hk, if_neg (by omega)] | rw [if_neg (by omega), if_pos hk] | rw [if_neg (by omega), if_neg (by omega)]⟩
      clear HD1 hk
      have kc : IntKind.i64.wrap (c.co - 1) = c.co - 1 := wi _ (by omega) (by have := HOK.out.co.2; omega)
      have y10 : w5.cell? ⟨xb, 10, none⟩ = some (iv c.co) := (HS6.out.boxGet k0m).cellv 10 _ rfl
      have f10 : w5.frozen? ⟨xb, 10, none⟩ = false := (HS6.out.boxGet k0m).frozen 10
      have S_ := HS6.out.boxPut 10 (iv (c.co - 1))
      obtain ⟨w6, hw6⟩ : ∃ w6, w5.setCell ⟨xb, 10, none⟩ (iv (c.co - 1)) = w6 := ⟨_, rfl⟩
      rw [hw6] at S_
      change Sep w w6 [boxA xb (crv { c with co := (c.co - 1) }) 32, boxA rb zC14 32] at S_
      have HS7 := Keep.mk S_
      clear S_
      have q2 : w6.cell? ⟨xb, 2, none⟩ = some (iv c.x) := (HS7.out.boxGet k0m).cellv 2 _ rfl
      have q3 : w6.cell? ⟨xb, 3, none⟩ = some (iv c.y) := (HS7.out.boxGet k0m).cellv 3 _ rfl
      have q10 : w5.cell? ⟨xb, 10, none⟩ = some (iv c.co) := (HS6.out.boxGet k0m).cellv 10 _ rfl
      have hAt := HAT.out w6 HS7.out.g
      go_wp2_with fail
      refine hAt.mono ?_
      rintro e w9 ⟨rfl, g9⟩
      have HS9 := Keep.mk (HS7.out.grown g9)
      clear hAt g9 HS7 q2 q3 q10
      have y8 : w9.cell? ⟨xb, 8, none⟩ = some (iv c.en) := (HS9.out.boxGet k0m).cellv 8 _ rfl
      have f8 : w9.frozen? ⟨xb, 8, none⟩ = false := (HS9.out.boxGet k0m).frozen 8
      have S_ := HS9.out.boxPut 8 (iv (grw c.en 1 100))
      obtain ⟨w10, hw10⟩ : ∃ w10, w9.setCell ⟨xb, 8, none⟩ (iv (grw c.en 1 100)) = w10 := ⟨_, rfl⟩
      rw [hw10] at S_
      change Sep w w10 [boxA xb (crv { c with co := (c.co - 1), en := (grw c.en 1 100) }) 32, boxA rb zC14 32] at S_
      have HS10 := Keep.mk S_
      clear S_
      have hG1 := grown_c w9 c.en 1 100 HOK.out.en (by omega) (by omega)
      go_wp2_with fail
      refine hG1.mono ?_
      rintro e w_ ⟨rfl, hw_⟩
      subst hw_
      clear hG1
      have y9 : w10.cell? ⟨xb, 9, none⟩ = some (iv c.am) := (HS10.out.boxGet k0m).cellv 9 _ rfl
      have f9 : w10.frozen? ⟨xb, 9, none⟩ = false := (HS10.out.boxGet k0m).frozen 9
      have S_ := HS10.out.boxPut 9 (iv (grw c.am 1 20))
      obtain ⟨w12, hw12⟩ : ∃ w12, w10.setCell ⟨xb, 9, none⟩ (iv (grw c.am 1 20)) = w12 := ⟨_, rfl⟩
      rw [hw12] at S_
      change Sep w w12 [boxA xb (crv { c with co := (c.co - 1), en := (grw c.en 1 100), am := (grw c.am 1 20) }) 32, boxA rb zC14 32] at S_
      have HS12 := Keep.mk S_
      clear S_
      have hG3 := grown_c w10 c.am 1 20 HOK.out.am (by omega) (by omega)
      go_wp2_with fail
      refine hG3.mono ?_
      rintro e w_ ⟨rfl, hw_⟩
      subst hw_
      clear hG3
      obtain ⟨c2, hc2⟩ : ∃ c2 : Cr, ({ c with co := (c.co - 1), en := (grw c.en 1 100), am := (grw c.am 1 20) } : Cr) = c2 := ⟨_, rfl⟩
      have HD3 : Keep (cf = c2) := ⟨by rw [HD2.out, ← hc2]⟩
      rw [hc2] at HS12
      clear HD2 hc2
      have RNGe := Keep.mk (HS12.out.boxGet k0m).range
      have HRBe := Keep.mk (HS12.out.boxGet k1m)
      have HLe := Keep.mk (crv_one c2)
      go_wp2_with (first
        | (show wpList _ _ _ ({ dst := _, op := Op.load 32 _, type := _, pos := _, after := _, guard := _ } :: _) _ _
           refine wpList_load_mid rfl 32 _ rfl _ _ rfl _ _ RNGe.out hdu hdr (infoC' c2) ?_)
        | (show wpList _ _ _ ({ dst := _, op := Op.store 32 _ _, type := _, pos := _, after := _, guard := _ } :: _) _ _
           refine store_at _ rb 0 zC14 (crv c2) 32 32 rfl rfl rfl rfl HRBe.out (Nat.le_refl _) (infoC' c2) HLe.out ?_))
      intro w7 hS7 g7
      have S7 := hS7 _ _ HS12.out.swap
      rw [over_all zC14 (crv c2) rfl] at S7
      have HS7 := Keep.mk S7
      clear hS7 g7 S7 RNGe HRBe HS12
      go_wp2_with fail
      exact ret_c rfl rfl (HS7.out.boxGet k0m) hdu hdr (infoC' c2) rfl ⟨by rw [HD3.out], HS7.out.g⟩
    · have b1 : (at1 == 69) = false := by simp [hk.1]
      have b2 : (at1 == 65) = true := by simp [hk.1]
      have b3 : ((t : Int) % 8 == 0) = false := by simp; omega
      have HD2 : Keep (cf = { c with co := c.co - 1, en := grw c.en 1 100, am := c.am }) := ⟨by
        rw [HD1.out, if_pos HCO.out]
        first | rw [if_pos hk, if_neg (by omega)] | rw [if_neg (by omega), if_pos hk] | rw [if_neg (by omega), if_neg (by omega)]⟩
      clear HD1 hk
      have kc : IntKind.i64.wrap (c.co - 1) = c.co - 1 := wi _ (by omega) (by have := HOK.out.co.2; omega)
      have y10 : w5.cell? ⟨xb, 10, none⟩ = some (iv c.co) := (HS6.out.boxGet k0m).cellv 10 _ rfl
      have f10 : w5.frozen? ⟨xb, 10, none⟩ = false := (HS6.out.boxGet k0m).frozen 10
      have S_ := HS6.out.boxPut 10 (iv (c.co - 1))
      obtain ⟨w6, hw6⟩ : ∃ w6, w5.setCell ⟨xb, 10, none⟩ (iv (c.co - 1)) = w6 := ⟨_, rfl⟩
      rw [hw6] at S_
      change Sep w w6 [boxA xb (crv { c with co := (c.co - 1) }) 32, boxA rb zC14 32] at S_
      have HS7 := Keep.mk S_
      clear S_
      have q2 : w6.cell? ⟨xb, 2, none⟩ = some (iv c.x) := (HS7.out.boxGet k0m).cellv 2 _ rfl
      have q3 : w6.cell? ⟨xb, 3, none⟩ = some (iv c.y) := (HS7.out.boxGet k0m).cellv 3 _ rfl
      have q10 : w5.cell? ⟨xb, 10, none⟩ = some (iv c.co) := (HS6.out.boxGet k0m).cellv 10 _ rfl
      have hAt := HAT.out w6 HS7.out.g
      go_wp2_with fail
      refine hAt.mono ?_
      rintro e w9 ⟨rfl, g9⟩
      have HS9 := Keep.mk (HS7.out.grown g9)
      clear hAt g9 HS7 q2 q3 q10
      have y8 : w9.cell? ⟨xb, 8, none⟩ = some (iv c.en) := (HS9.out.boxGet k0m).cellv 8 _ rfl
      have f8 : w9.frozen? ⟨xb, 8, none⟩ = false := (HS9.out.boxGet k0m).frozen 8
      have S_ := HS9.out.boxPut 8 (iv (grw c.en 1 100))
      obtain ⟨w10, hw10⟩ : ∃ w10, w9.setCell ⟨xb, 8, none⟩ (iv (grw c.en 1 100)) = w10 := ⟨_, rfl⟩
      rw [hw10] at S_
      change Sep w w10 [boxA xb (crv { c with co := (c.co - 1), en := (grw c.en 1 100) }) 32, boxA rb zC14 32] at S_
      have HS10 := Keep.mk S_
      clear S_
      have hG1 := grown_c w9 c.en 1 100 HOK.out.en (by omega) (by omega)
      go_wp2_with fail
      refine hG1.mono ?_
      rintro e w_ ⟨rfl, hw_⟩
      subst hw_
      clear hG1
      obtain ⟨c2, hc2⟩ : ∃ c2 : Cr, ({ c with co := (c.co - 1), en := (grw c.en 1 100) } : Cr) = c2 := ⟨_, rfl⟩
      have HD3 : Keep (cf = c2) := ⟨by rw [HD2.out, ← hc2]⟩
      rw [hc2] at HS10
      clear HD2 hc2
      have RNGe := Keep.mk (HS10.out.boxGet k0m).range
      have HRBe := Keep.mk (HS10.out.boxGet k1m)
      have HLe := Keep.mk (crv_one c2)
      go_wp2_with (first
        | (show wpList _ _ _ ({ dst := _, op := Op.load 32 _, type := _, pos := _, after := _, guard := _ } :: _) _ _
           refine wpList_load_mid rfl 32 _ rfl _ _ rfl _ _ RNGe.out hdu hdr (infoC' c2) ?_)
        | (show wpList _ _ _ ({ dst := _, op := Op.store 32 _ _, type := _, pos := _, after := _, guard := _ } :: _) _ _
           refine store_at _ rb 0 zC14 (crv c2) 32 32 rfl rfl rfl rfl HRBe.out (Nat.le_refl _) (infoC' c2) HLe.out ?_))
      intro w7 hS7 g7
      have S7 := hS7 _ _ HS10.out.swap
      rw [over_all zC14 (crv c2) rfl] at S7
      have HS7 := Keep.mk S7
      clear hS7 g7 S7 RNGe HRBe HS10
      go_wp2_with fail
      exact ret_c rfl rfl (HS7.out.boxGet k0m) hdu hdr (infoC' c2) rfl ⟨by rw [HD3.out], HS7.out.g⟩
    · have b1 : (at1 == 69) = false := by simp [hk.1]
      have b2 : (at1 == 65) = false := by simp [hk.2]
      have HD2 : Keep (cf = { c with co := c.co - 1, en := grw c.en 1 100, am := c.am }) := ⟨by
        rw [HD1.out, if_pos HCO.out]
        first | rw [if_pos hk, if_neg (by omega)] | rw [if_neg (by omega), if_pos hk] | rw [if_neg (by omega), if_neg (by omega)]⟩
      clear HD1 hk
      have kc : IntKind.i64.wrap (c.co - 1) = c.co - 1 := wi _ (by omega) (by have := HOK.out.co.2; omega)
      have y10 : w5.cell? ⟨xb, 10, none⟩ = some (iv c.co) := (HS6.out.boxGet k0m).cellv 10 _ rfl
      have f10 : w5.frozen? ⟨xb, 10, none⟩ = false := (HS6.out.boxGet k0m).frozen 10
      have S_ := HS6.out.boxPut 10 (iv (c.co - 1))
      obtain ⟨w6, hw6⟩ : ∃ w6, w5.setCell ⟨xb, 10, none⟩ (iv (c.co - 1)) = w6 := ⟨_, rfl⟩
      rw [hw6] at S_
      change Sep w w6 [boxA xb (crv { c with co := (c.co - 1) }) 32, boxA rb zC14 32] at S_
      have HS7 := Keep.mk S_
      clear S_
      have q2 : w6.cell? ⟨xb, 2, none⟩ = some (iv c.x) := (HS7.out.boxGet k0m).cellv 2 _ rfl
      have q3 : w6.cell? ⟨xb, 3, none⟩ = some (iv c.y) := (HS7.out.boxGet k0m).cellv 3 _ rfl
      have q10 : w5.cell? ⟨xb, 10, none⟩ = some (iv c.co) := (HS6.out.boxGet k0m).cellv 10 _ rfl
      have hAt := HAT.out w6 HS7.out.g
      go_wp2_with fail
      refine hAt.mono ?_
      rintro e w9 ⟨rfl, g9⟩
      have HS9 := Keep.mk (HS7.out.grown g9)
      clear hAt g9 HS7 q2 q3 q10
      have y8 : w9.cell? ⟨xb, 8, none⟩ = some (iv c.en) := (HS9.out.boxGet k0m).cellv 8 _ rfl
      have f8 : w9.frozen? ⟨xb, 8, none⟩ = false := (HS9.out.boxGet k0m).frozen 8
      have S_ := HS9.out.boxPut 8 (iv (grw c.en 1 100))
      obtain ⟨w10, hw10⟩ : ∃ w10, w9.setCell ⟨xb, 8, none⟩ (iv (grw c.en 1 100)) = w10 := ⟨_, rfl⟩
      rw [hw10] at S_
      change Sep w w10 [boxA xb (crv { c with co := (c.co - 1), en := (grw c.en 1 100) }) 32, boxA rb zC14 32] at S_
      have HS10 := Keep.mk S_
      clear S_
      have hG1 := grown_c w9 c.en 1 100 HOK.out.en (by omega) (by omega)
      go_wp2_with fail
      refine hG1.mono ?_
      rintro e w_ ⟨rfl, hw_⟩
      subst hw_
      clear hG1
      obtain ⟨c2, hc2⟩ : ∃ c2 : Cr, ({ c with co := (c.co - 1), en := (grw c.en 1 100) } : Cr) = c2 := ⟨_, rfl⟩
      have HD3 : Keep (cf = c2) := ⟨by rw [HD2.out, ← hc2]⟩
      rw [hc2] at HS10
      clear HD2 hc2
      have RNGe := Keep.mk (HS10.out.boxGet k0m).range
      have HRBe := Keep.mk (HS10.out.boxGet k1m)
      have HLe := Keep.mk (crv_one c2)
      go_wp2_with (first
        | (show wpList _ _ _ ({ dst := _, op := Op.load 32 _, type := _, pos := _, after := _, guard := _ } :: _) _ _
           refine wpList_load_mid rfl 32 _ rfl _ _ rfl _ _ RNGe.out hdu hdr (infoC' c2) ?_)
        | (show wpList _ _ _ ({ dst := _, op := Op.store 32 _ _, type := _, pos := _, after := _, guard := _ } :: _) _ _
           refine store_at _ rb 0 zC14 (crv c2) 32 32 rfl rfl rfl rfl HRBe.out (Nat.le_refl _) (infoC' c2) HLe.out ?_))
      intro w7 hS7 g7
      have S7 := hS7 _ _ HS10.out.swap
      rw [over_all zC14 (crv c2) rfl] at S7
      have HS7 := Keep.mk S7
      clear hS7 g7 S7 RNGe HRBe HS10
      go_wp2_with fail
      exact ret_c rfl rfl (HS7.out.boxGet k0m) hdu hdr (infoC' c2) rfl ⟨by rw [HD3.out], HS7.out.g⟩
  · have hdo : decide (0 < c.co) = false := decide_eq_false hco
    have HCO := Keep.mk hco
    rcases hcs with hk | hk | hk | hk
    · have b1 : (at1 == 69) = true := by simp [hk]
      have b2 : (at1 == 65) = false := by simp [hk]
      have HD2 : Keep (cf = { c with co := c.co, en := grw (grw c.en 1 100) 4 100, am := c.am }) := ⟨by
        rw [HD1.out, if_neg HCO.out]
        first | rw [if_pos hk, if_neg (by omega)] | rw [if_neg (by omega), if_pos hk] | rw [if_neg (by omega), if_neg (by omega)]⟩
      clear HD1 hk
      have q2 : w5.cell? ⟨xb, 2, none⟩ = some (iv c.x) := (HS6.out.boxGet k0m).cellv 2 _ rfl
      have q3 : w5.cell? ⟨xb, 3, none⟩ = some (iv c.y) := (HS6.out.boxGet k0m).cellv 3 _ rfl
      have q10 : w5.cell? ⟨xb, 10, none⟩ = some (iv c.co) := (HS6.out.boxGet k0m).cellv 10 _ rfl
      have hAt := HAT.out w5 HS6.out.g
      go_wp2_with fail
      refine hAt.mono ?_
      rintro e w9 ⟨rfl, g9⟩
      have HS9 := Keep.mk (HS6.out.grown g9)
      clear hAt g9 HS6 q2 q3 q10
      have y8 : w9.cell? ⟨xb, 8, none⟩ = some (iv c.en) := (HS9.out.boxGet k0m).cellv 8 _ rfl
      have f8 : w9.frozen? ⟨xb, 8, none⟩ = false := (HS9.out.boxGet k0m).frozen 8
      have S_ := HS9.out.boxPut 8 (iv (grw c.en 1 100))
      obtain ⟨w10, hw10⟩ : ∃ w10, w9.setCell ⟨xb, 8, none⟩ (iv (grw c.en 1 100)) = w10 := ⟨_, rfl⟩
      rw [hw10] at S_
      change Sep w w10 [boxA xb (crv { c with en := (grw c.en 1 100) }) 32, boxA rb zC14 32] at S_
      have HS10 := Keep.mk S_
      clear S_
      have hG1 := grown_c w9 c.en 1 100 HOK.out.en (by omega) (by omega)
      go_wp2_with fail
      refine hG1.mono ?_
      rintro e w_ ⟨rfl, hw_⟩
      subst hw_
      clear hG1
      have z8 : w10.cell? ⟨xb, 8, none⟩ = some (iv (grw c.en 1 100)) := (HS10.out.boxGet k0m).cellv 8 _ rfl
      have g8 : w10.frozen? ⟨xb, 8, none⟩ = false := (HS10.out.boxGet k0m).frozen 8
      have S_ := HS10.out.boxPut 8 (iv (grw (grw c.en 1 100) 4 100))
      obtain ⟨w11, hw11⟩ : ∃ w11, w10.setCell ⟨xb, 8, none⟩ (iv (grw (grw c.en 1 100) 4 100)) = w11 := ⟨_, rfl⟩
      rw [hw11] at S_
      change Sep w w11 [boxA xb (crv { c with en := (grw (grw c.en 1 100) 4 100) }) 32, boxA rb zC14 32] at S_
      have HS11 := Keep.mk S_
      clear S_
      have hG2 := grown_c w10 (grw c.en 1 100) 4 100 HGI.out (by omega) (by omega)
      go_wp2_with fail
      refine hG2.mono ?_
      rintro e w_ ⟨rfl, hw_⟩
      subst hw_
      clear hG2
      obtain ⟨c2, hc2⟩ : ∃ c2 : Cr, ({ c with en := (grw (grw c.en 1 100) 4 100) } : Cr) = c2 := ⟨_, rfl⟩
      have HD3 : Keep (cf = c2) := ⟨by rw [HD2.out, ← hc2]⟩
      rw [hc2] at HS11
      clear HD2 hc2
      have RNGe := Keep.mk (HS11.out.boxGet k0m).range
      have HRBe := Keep.mk (HS11.out.boxGet k1m)
      have HLe := Keep.mk (crv_one c2)
      go_wp2_with (first
        | (show wpList _ _ _ ({ dst := _, op := Op.load 32 _, type := _, pos := _, after := _, guard := _ } :: _) _ _
           refine wpList_load_mid rfl 32 _ rfl _ _ rfl _ _ RNGe.out hdu hdr (infoC' c2) ?_)
        | (show wpList _ _ _ ({ dst := _, op := Op.store 32 _ _, type := _, pos := _, after := _, guard := _ } :: _) _ _
           refine store_at _ rb 0 zC14 (crv c2) 32 32 rfl rfl rfl rfl HRBe.out (Nat.le_refl _) (infoC' c2) HLe.out ?_))
      intro w7 hS7 g7
      have S7 := hS7 _ _ HS11.out.swap
      rw [over_all zC14 (crv c2) rfl] at S7
      have HS7 := Keep.mk S7
      clear hS7 g7 S7 RNGe HRBe HS11
      go_wp2_with fail
      exact ret_c rfl rfl (HS7.out.boxGet k0m) hdu hdr (infoC' c2) rfl ⟨by rw [HD3.out], HS7.out.g⟩
    · have b1 : (at1 == 69) = false := by simp [hk.1]
      have b2 : (at1 == 65) = true := by simp [hk.1]
      have b3 : ((t : Int) % 8 == 0) = true := by simp; omega
      have b4 : (t : Int) % 8 = 0 := by omega
      have HD2 : Keep (cf = { c with co := c.co, en := grw c.en 1 100, am := grw c.am 1 20 }) := ⟨by
        rw [HD1.out, if_neg HCO.out]
        first | rw [if_pos hk, if_neg (by omega)] | rw [if_neg (by omega), if_pos hk] | rw [if_neg (by omega), if_neg (by omega)]⟩
      clear HD1 hk
      have q2 : w5.cell? ⟨xb, 2, none⟩ = some (iv c.x) := (HS6.out.boxGet k0m).cellv 2 _ rfl
      have q3 : w5.cell? ⟨xb, 3, none⟩ = some (iv c.y) := (HS6.out.boxGet k0m).cellv 3 _ rfl
      have q10 : w5.cell? ⟨xb, 10, none⟩ = some (iv c.co) := (HS6.out.boxGet k0m).cellv 10 _ rfl
      have hAt := HAT.out w5 HS6.out.g
      go_wp2_with fail
      refine hAt.mono ?_
      rintro e w9 ⟨rfl, g9⟩
      have HS9 := Keep.mk (HS6.out.grown g9)
      clear hAt g9 HS6 q2 q3 q10
      have y8 : w9.cell? ⟨xb, 8, none⟩ = some (iv c.en) := (HS9.out.boxGet k0m).cellv 8 _ rfl
      have f8 : w9.frozen? ⟨xb, 8, none⟩ = false := (HS9.out.boxGet k0m).frozen 8
      have S_ := HS9.out.boxPut 8 (iv (grw c.en 1 100))
      obtain ⟨w10, hw10⟩ : ∃ w10, w9.setCell ⟨xb, 8, none⟩ (iv (grw c.en 1 100)) = w10 := ⟨_, rfl⟩
      rw [hw10] at S_
      change Sep w w10 [boxA xb (crv { c with en := (grw c.en 1 100) }) 32, boxA rb zC14 32] at S_
      have HS10 := Keep.mk S_
      clear S_
      have hG1 := grown_c w9 c.en 1 100 HOK.out.en (by omega) (by omega)
      go_wp2_with fail
      refine hG1.mono ?_
      rintro e w_ ⟨rfl, hw_⟩
      subst hw_
      clear hG1
      have y9 : w10.cell? ⟨xb, 9, none⟩ = some (iv c.am) := (HS10.out.boxGet k0m).cellv 9 _ rfl
      have f9 : w10.frozen? ⟨xb, 9, none⟩ = false := (HS10.out.boxGet k0m).frozen 9
      have S_ := HS10.out.boxPut 9 (iv (grw c.am 1 20))
      obtain ⟨w12, hw12⟩ : ∃ w12, w10.setCell ⟨xb, 9, none⟩ (iv (grw c.am 1 20)) = w12 := ⟨_, rfl⟩
      rw [hw12] at S_
      change Sep w w12 [boxA xb (crv { c with en := (grw c.en 1 100), am := (grw c.am 1 20) }) 32, boxA rb zC14 32] at S_
      have HS12 := Keep.mk S_
      clear S_
      have hG3 := grown_c w10 c.am 1 20 HOK.out.am (by omega) (by omega)
      go_wp2_with fail
      refine hG3.mono ?_
      rintro e w_ ⟨rfl, hw_⟩
      subst hw_
      clear hG3
      obtain ⟨c2, hc2⟩ : ∃ c2 : Cr, ({ c with en := (grw c.en 1 100), am := (grw c.am 1 20) } : Cr) = c2 := ⟨_, rfl⟩
      have HD3 : Keep (cf = c2) := ⟨by rw [HD2.out, ← hc2]⟩
      rw [hc2] at HS12
      clear HD2 hc2
      have RNGe := Keep.mk (HS12.out.boxGet k0m).range
      have HRBe := Keep.mk (HS12.out.boxGet k1m)
      have HLe := Keep.mk (crv_one c2)
      go_wp2_with (first
        | (show wpList _ _ _ ({ dst := _, op := Op.load 32 _, type := _, pos := _, after := _, guard := _ } :: _) _ _
           refine wpList_load_mid rfl 32 _ rfl _ _ rfl _ _ RNGe.out hdu hdr (infoC' c2) ?_)
        | (show wpList _ _ _ ({ dst := _, op := Op.store 32 _ _, type := _, pos := _, after := _, guard := _ } :: _) _ _
           refine store_at _ rb 0 zC14 (crv c2) 32 32 rfl rfl rfl rfl HRBe.out (Nat.le_refl _) (infoC' c2) HLe.out ?_))
      intro w7 hS7 g7
      have S7 := hS7 _ _ HS12.out.swap
      rw [over_all zC14 (crv c2) rfl] at S7
      have HS7 := Keep.mk S7
      clear hS7 g7 S7 RNGe HRBe HS12
      go_wp2_with fail
      exact ret_c rfl rfl (HS7.out.boxGet k0m) hdu hdr (infoC' c2) rfl ⟨by rw [HD3.out], HS7.out.g⟩
    · have b1 : (at1 == 69) = false := by simp [hk.1]
      have b2 : (at1 == 65) = true := by simp [hk.1]
      have b3 : ((t : Int) % 8 == 0) = false := by simp; omega
      have HD2 : Keep (cf = { c with co := c.co, en := grw c.en 1 100, am := c.am }) := ⟨by
        rw [HD1.out, if_neg HCO.out]
        first | rw [if_pos hk, if_neg (by omega)] | rw [if_neg (by omega), if_pos hk] | rw [if_neg (by omega), if_neg (by omega)]⟩
      clear HD1 hk
      have q2 : w5.cell? ⟨xb, 2, none⟩ = some (iv c.x) := (HS6.out.boxGet k0m).cellv 2 _ rfl
      have q3 : w5.cell? ⟨xb, 3, none⟩ = some (iv c.y) := (HS6.out.boxGet k0m).cellv 3 _ rfl
      have q10 : w5.cell? ⟨xb, 10, none⟩ = some (iv c.co) := (HS6.out.boxGet k0m).cellv 10 _ rfl
      have hAt := HAT.out w5 HS6.out.g
      go_wp2_with fail
      refine hAt.mono ?_
      rintro e w9 ⟨rfl, g9⟩
      have HS9 := Keep.mk (HS6.out.grown g9)
      clear hAt g9 HS6 q2 q3 q10
      have y8 : w9.cell? ⟨xb, 8, none⟩ = some (iv c.en) := (HS9.out.boxGet k0m).cellv 8 _ rfl
      have f8 : w9.frozen? ⟨xb, 8, none⟩ = false := (HS9.out.boxGet k0m).frozen 8
      have S_ := HS9.out.boxPut 8 (iv (grw c.en 1 100))
      obtain ⟨w10, hw10⟩ : ∃ w10, w9.setCell ⟨xb, 8, none⟩ (iv (grw c.en 1 100)) = w10 := ⟨_, rfl⟩
      rw [hw10] at S_
      change Sep w w10 [boxA xb (crv { c with en := (grw c.en 1 100) }) 32, boxA rb zC14 32] at S_
      have HS10 := Keep.mk S_
      clear S_
      have hG1 := grown_c w9 c.en 1 100 HOK.out.en (by omega) (by omega)
      go_wp2_with fail
      refine hG1.mono ?_
      rintro e w_ ⟨rfl, hw_⟩
      subst hw_
      clear hG1
      obtain ⟨c2, hc2⟩ : ∃ c2 : Cr, ({ c with en := (grw c.en 1 100) } : Cr) = c2 := ⟨_, rfl⟩
      have HD3 : Keep (cf = c2) := ⟨by rw [HD2.out, ← hc2]⟩
      rw [hc2] at HS10
      clear HD2 hc2
      have RNGe := Keep.mk (HS10.out.boxGet k0m).range
      have HRBe := Keep.mk (HS10.out.boxGet k1m)
      have HLe := Keep.mk (crv_one c2)
      go_wp2_with (first
        | (show wpList _ _ _ ({ dst := _, op := Op.load 32 _, type := _, pos := _, after := _, guard := _ } :: _) _ _
           refine wpList_load_mid rfl 32 _ rfl _ _ rfl _ _ RNGe.out hdu hdr (infoC' c2) ?_)
        | (show wpList _ _ _ ({ dst := _, op := Op.store 32 _ _, type := _, pos := _, after := _, guard := _ } :: _) _ _
           refine store_at _ rb 0 zC14 (crv c2) 32 32 rfl rfl rfl rfl HRBe.out (Nat.le_refl _) (infoC' c2) HLe.out ?_))
      intro w7 hS7 g7
      have S7 := hS7 _ _ HS10.out.swap
      rw [over_all zC14 (crv c2) rfl] at S7
      have HS7 := Keep.mk S7
      clear hS7 g7 S7 RNGe HRBe HS10
      go_wp2_with fail
      exact ret_c rfl rfl (HS7.out.boxGet k0m) hdu hdr (infoC' c2) rfl ⟨by rw [HD3.out], HS7.out.g⟩
    · have b1 : (at1 == 69) = false := by simp [hk.1]
      have b2 : (at1 == 65) = false := by simp [hk.2]
      have HD2 : Keep (cf = { c with co := c.co, en := grw c.en 1 100, am := c.am }) := ⟨by
        rw [HD1.out, if_neg HCO.out]
        first | rw [if_pos hk, if_neg (by omega)] | rw [if_neg (by omega), if_pos hk] | rw [if_neg (by omega), if_neg (by omega)]⟩
      clear HD1 hk
      have q2 : w5.cell? ⟨xb, 2, none⟩ = some (iv c.x) := (HS6.out.boxGet k0m).cellv 2 _ rfl
      have q3 : w5.cell? ⟨xb, 3, none⟩ = some (iv c.y) := (HS6.out.boxGet k0m).cellv 3 _ rfl
      have q10 : w5.cell? ⟨xb, 10, none⟩ = some (iv c.co) := (HS6.out.boxGet k0m).cellv 10 _ rfl
      have hAt := HAT.out w5 HS6.out.g
      go_wp2_with fail
      refine hAt.mono ?_
      rintro e w9 ⟨rfl, g9⟩
      have HS9 := Keep.mk (HS6.out.grown g9)
      clear hAt g9 HS6 q2 q3 q10
      have y8 : w9.cell? ⟨xb, 8, none⟩ = some (iv c.en) := (HS9.out.boxGet k0m).cellv 8 _ rfl
      have f8 : w9.frozen? ⟨xb, 8, none⟩ = false := (HS9.out.boxGet k0m).frozen 8
      have S_ := HS9.out.boxPut 8 (iv (grw c.en 1 100))
      obtain ⟨w10, hw10⟩ : ∃ w10, w9.setCell ⟨xb, 8, none⟩ (iv (grw c.en 1 100)) = w10 := ⟨_, rfl⟩
      rw [hw10] at S_
      change Sep w w10 [boxA xb (crv { c with en := (grw c.en 1 100) }) 32, boxA rb zC14 32] at S_
      have HS10 := Keep.mk S_
      clear S_
      have hG1 := grown_c w9 c.en 1 100 HOK.out.en (by omega) (by omega)
      go_wp2_with fail
      refine hG1.mono ?_
      rintro e w_ ⟨rfl, hw_⟩
      subst hw_
      clear hG1
      obtain ⟨c2, hc2⟩ : ∃ c2 : Cr, ({ c with en := (grw c.en 1 100) } : Cr) = c2 := ⟨_, rfl⟩
      have HD3 : Keep (cf = c2) := ⟨by rw [HD2.out, ← hc2]⟩
      rw [hc2] at HS10
      clear HD2 hc2
      have RNGe := Keep.mk (HS10.out.boxGet k0m).range
      have HRBe := Keep.mk (HS10.out.boxGet k1m)
      have HLe := Keep.mk (crv_one c2)
      go_wp2_with (first
        | (show wpList _ _ _ ({ dst := _, op := Op.load 32 _, type := _, pos := _, after := _, guard := _ } :: _) _ _
           refine wpList_load_mid rfl 32 _ rfl _ _ rfl _ _ RNGe.out hdu hdr (infoC' c2) ?_)
        | (show wpList _ _ _ ({ dst := _, op := Op.store 32 _ _, type := _, pos := _, after := _, guard := _ } :: _) _ _
           refine store_at _ rb 0 zC14 (crv c2) 32 32 rfl rfl rfl rfl HRBe.out (Nat.le_refl _) (infoC' c2) HLe.out ?_))
      intro w7 hS7 g7
      have S7 := hS7 _ _ HS10.out.swap
      rw [over_all zC14 (crv c2) rfl] at S7
      have HS7 := Keep.mk S7
      clear hS7 g7 S7 RNGe HRBe HS10
      go_wp2_with fail
      exact ret_c rfl rfl (HS7.out.boxGet k0m) hdu hdr (infoC' c2) rfl ⟨by rw [HD3.out], HS7.out.g⟩

end Go.Proofs.YtobdcngjpgndiaaDoor.Bo
