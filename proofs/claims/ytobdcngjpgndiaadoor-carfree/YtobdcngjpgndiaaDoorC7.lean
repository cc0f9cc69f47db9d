/- car: New, Come, Hit -/
import Derived.Test.YtobdcngjpgndiaaDoorC6
namespace Go.Proofs.YtobdcngjpgndiaaDoor.Bo
open Go Go.RowKit

theorem wpList_build {P : Program} {w : World} {ops : Array Oper} {rest : List Oper} {o : Oper} {a : Act} {Q : Exit → Act → World → Prop} (hgd : o.guard = none) (t : TypeId) (parts : Array (Nat × Operand))
    (ho : o.op = .build t parts) (cells : Array Value) (hb : P.built t (parts.map fun (i, x) => (i, a.eval x)).toList = some cells) (h : wpList P ops Q rest (a.put o.dst (.agg cells)) w) : wpList P ops Q (o :: rest) a w :=
  wpList_plain hgd fun _ hK => by
    unfold Oper.wp execOp
    simp only [ho, Sem.run_bind, run_build w t _ cells hb, Result.andThen_ok]
    exact hK _ _ h
set_option maxRecDepth 100000 in
theorem built32n (p : Int) (s : ByteArray) : Tryd.prog.built 32 [(0, iv p), (1, .string s)] = some (crv (zC p s)).toArray := by kernel_rfl
set_option maxRecDepth 100000 in
set_option maxHeartbeats 8000000 in
theorem new_c (w : World) (v : Value) (L : Bo) (p : Int) (s : ByteArray) (h : Bd w v L) (hs : spn L ≠ []) (hn : s.size ≤ 281474976710656) :
    Calls Tryd.prog 12 #[v, iv p, .string s] w fun e w' => e = .returned (.agg (crv (newC L p s)).toArray) ∧ w.grownBy w' none := by
  obtain ⟨du, hdu, hdr⟩ := underC
  have S2 := (Sep.nil w).newBox zC14.toArray 32
  obtain ⟨W2, hW2⟩ : ∃ W2, w.alloc (.cells zC14.toArray 32) = W2 := ⟨_, rfl⟩
  obtain ⟨rb, hrb⟩ : ∃ rb, w.heap.size = rb := ⟨_, rfl⟩
  rw [hW2, hrb] at S2
  change Sep w W2 [boxA rb zC14 32] at S2
  have HF := Keep.mk (fresh_c W2 v L (zC p s) (h.kept S2.g) hs hn)
  have HBU := Keep.mk (built32n p s)
  unfold newC
  generalize frC L (zC p s) = cf at *
  have HS2 := Keep.mk S2
  have HL1 := Keep.mk (crv_one cf)
  unfold zC14 crv zC at hW2
  change w.alloc _ = W2 at hW2
  clear S2 h hs hn
  go_enter Tryd.func12, Tryd.ntmps12
  go_wp2_with (first
    | (show wpList _ _ _ ({ dst := _, op := Op.build 32 _, type := _, pos := _, after := _, guard := _ } :: _) _ _
       refine wpList_build rfl 32 _ rfl _ ((congrArg (Tryd.prog.built 32) (by simp only [List.map_toArray, List.map_cons, List.map_nil]; rfl)).trans HBU.out) ?_))
  refine HF.out.mono ?_
  rintro e w3 ⟨rfl, g3⟩
  have HS3 := Keep.mk (HS2.out.grown g3)
  have HRB := Keep.mk (HS3.out.boxGet k0m)
  clear g3 HS2 HF HBU hW2 hrb
  go_wp2_with (first
    | (show wpList _ _ _ ({ dst := _, op := Op.store 32 _ _, type := _, pos := _, after := _, guard := _ } :: _) _ _
       refine store_at _ rb 0 zC14 (crv cf) 32 32 rfl rfl rfl rfl HRB.out (Nat.le_refl _) (infoC' cf) HL1.out ?_))
  intro w7 hS7 g7
  have S7 := hS7 _ _ HS3.out
  rw [over_all zC14 (crv cf) rfl] at S7
  have HS7 := Keep.mk S7
  clear hS7 g7 S7 HRB HS3
  go_wp2_with fail
  exact ret_c rfl rfl (HS7.out.boxGet k0m) hdu hdr (infoC' cf) rfl ⟨rfl, HS7.out.g⟩
set_option maxRecDepth 100000 in
set_option maxHeartbeats 8000000 in
theorem come_c (w : World) (v : Value) (L : Bo) (c : Cr) (h : Bd w v L) (hs : spn L ≠ []) (hn : c.nm.size ≤ 281474976710656) :
    Calls Tryd.prog 13 #[v, .agg (crv c).toArray] w fun e w' => e = .returned (.agg (crv (comC L c)).toArray) ∧ w.grownBy w' none := by
  obtain ⟨du, hdu, hdr⟩ := underC
  have S3 := ((Sep.nil w).newBox (crv c).toArray 32).newBox zC14.toArray 32
  obtain ⟨W1, hW1⟩ : ∃ W1, w.alloc (.cells (crv c).toArray 32) = W1 := ⟨_, rfl⟩
  obtain ⟨xb, hxb⟩ : ∃ xb, w.heap.size = xb := ⟨_, rfl⟩
  rw [hW1, hxb] at S3
  obtain ⟨W3, hW3⟩ : ∃ W3, W1.alloc (.cells zC14.toArray 32) = W3 := ⟨_, rfl⟩
  obtain ⟨rb, hrb⟩ : ∃ rb, W1.heap.size = rb := ⟨_, rfl⟩
  rw [hW3, hrb] at S3
  change Sep w W3 [boxA rb zC14 32, boxA xb (crv c) 32] at S3
  have hsz : (crv c).toArray.size = 14 := rfl
  have hsum : IntKind.i64.wrap (c.sp + 1) = w64 (c.sp + 1) := rfl
  have y12 : W3.cell? ⟨xb, 12, none⟩ = some (iv c.sp) := (S3.boxGet k1m).cellv 12 _ rfl
  have f12 : W3.frozen? ⟨xb, 12, none⟩ = false := (S3.boxGet k1m).frozen 12
  have S4 := S3.swap.boxPut 12 (iv (w64 (c.sp + 1)))
  change Sep w _ [boxA xb (crv { c with sp := w64 (c.sp + 1) }) 32, boxA rb zC14 32] at S4
  unfold comC
  have HF := Keep.mk (fun W (g : w.grownBy W none) => fresh_c W v L { c with sp := w64 (c.sp + 1) } (h.kept g) hs hn)
  generalize w64 (c.sp + 1) = ns at *
  obtain ⟨c2, hc2⟩ : ∃ c2 : Cr, ({ c with sp := ns } : Cr) = c2 := ⟨_, rfl⟩
  rw [hc2] at S4 HF ⊢
  generalize frC L c2 = cf at *
  obtain ⟨W4, hW4⟩ : ∃ W4, W3.setCell ⟨xb, 12, none⟩ (iv ns) = W4 := ⟨_, rfl⟩
  rw [hW4] at S4
  unfold zC14 crv zC at hW3
  change W1.alloc _ = W3 at hW3
  have HS4 := Keep.mk S4
  have HL1 := Keep.mk (crv_one cf)
  have RNG := Keep.mk (S4.boxGet k0m).range
  clear S3 S4 h hs hn hc2
  go_enter Tryd.func13, Tryd.ntmps13
  go_wp2_with (first
    | (show wpList _ _ _ ({ dst := _, op := Op.load 32 _, type := _, pos := _, after := _, guard := _ } :: _) _ _
       refine wpList_load_mid rfl 32 _ rfl _ _ rfl _ _ RNG.out hdu hdr (infoC' c2) ?_))
  refine (HF.out _ HS4.out.g).mono ?_
  rintro e w5 ⟨rfl, g5⟩
  have HS5 := Keep.mk (HS4.out.grown g5)
  have HRB := Keep.mk (HS5.out.boxGet k1m)
  clear g5 HS4 HF RNG hW1 hW3 hxb hrb hW4
  go_wp2_with (first
    | (show wpList _ _ _ ({ dst := _, op := Op.store 32 _ _, type := _, pos := _, after := _, guard := _ } :: _) _ _
       refine store_at _ rb 0 zC14 (crv cf) 32 32 rfl rfl rfl rfl HRB.out (Nat.le_refl _) (infoC' cf) HL1.out ?_))
  intro w7 hS7 g7
  have S7 := hS7 _ _ HS5.out.swap
  rw [over_all zC14 (crv cf) rfl] at S7
  have HS7 := Keep.mk S7
  clear hS7 g7 S7 HRB HS5
  go_wp2_with fail
  exact ret_c rfl rfl (HS7.out.boxGet k0m) hdu hdr (infoC' cf) rfl ⟨rfl, HS7.out.g⟩
set_option maxRecDepth 100000 in
theorem built30z : Tryd.prog.built 30 [] = some #[iv 0, iv 0] := by kernel_rfl
set_option maxRecDepth 100000 in
set_option maxHeartbeats 8000000 in
theorem hit_c (w : World) (c : Cr) (h : Int) (ok : CrOk c) (hh : In h) :
    Calls Tryd.prog 19 #[.agg (crv c).toArray, iv h] w fun e w' => e = .returned (.agg (crv (hitC c h)).toArray) ∧ w.grownBy w' none := by
  have HD : Keep ((0 < c.wa → hitC c h = c) ∧ (¬ 0 < c.wa → hitC c h = if max h 0 < c.he then { c with he := c.he - max h 0 } else { c with he := 0, wa := 40, sx := 0, sy := 0 })) := ⟨fun q => by unfold hitC; rw [if_pos q], fun q => by unfold hitC; rw [if_neg q]⟩
  generalize hitC c h = cf at HD ⊢
  have hhe := ok.he
  obtain ⟨du, hdu, hdr⟩ := underC
  have hO := Keep.mk (fun W => own_c W c ok.nm)
  have hWr := Keep.mk (fun W => wreck_c W c)
  have HL1 := Keep.mk (crv_one c)
  have S3 := ((Sep.nil w).newBox (crv c).toArray 32).newBox zC14.toArray 32
  obtain ⟨W1, hW1⟩ : ∃ W1, w.alloc (.cells (crv c).toArray 32) = W1 := ⟨_, rfl⟩
  obtain ⟨xb, hxb⟩ : ∃ xb, w.heap.size = xb := ⟨_, rfl⟩
  rw [hW1, hxb] at S3
  obtain ⟨W3, hW3⟩ : ∃ W3, W1.alloc (.cells zC14.toArray 32) = W3 := ⟨_, rfl⟩
  obtain ⟨rb, hrb⟩ : ∃ rb, W1.heap.size = rb := ⟨_, rfl⟩
  rw [hW3, hrb] at S3
  change Sep w W3 [boxA rb zC14 32, boxA xb (crv c) 32] at S3
  have hsz : (crv c).toArray.size = 14 := rfl
  unfold zC14 crv zC at hW3
  change W1.alloc _ = W3 at hW3
  have HS3 := Keep.mk S3.swap
  have RNG := Keep.mk (S3.boxGet k1m).range
  clear S3
  go_enter Tryd.func19, Tryd.ntmps19
  go_wp2_with (first
    | (show wpList _ _ _ ({ dst := _, op := Op.load 32 _, type := _, pos := _, after := _, guard := _ } :: _) _ _
       refine wpList_load_mid rfl 32 _ rfl _ _ rfl _ _ RNG.out hdu hdr (infoC' c) ?_))
  refine (hO.out _).mono ?_
  rintro e w3 ⟨rfl, g3⟩
  have HS4 := Keep.mk (HS3.out.grown g3)
  have HRB := Keep.mk (HS4.out.boxGet k0m)
  clear g3 HS3 RNG hO hW1 hW3 hxb hrb
  go_wp2_with (first
    | (show wpList _ _ _ ({ dst := _, op := Op.store 32 _ _, type := _, pos := _, after := _, guard := _ } :: _) _ _
       refine store_at _ xb 0 (crv c) (crv c) 32 32 rfl rfl rfl rfl HRB.out (Nat.le_refl _) (infoC' c) HL1.out ?_))
  intro w4 hS4 g4
  have S5 := hS4 _ _ HS4.out
  rw [over_all _ _ rfl] at S5
  have HS5 := Keep.mk S5
  have RNG := Keep.mk (S5.boxGet k0m).range
  clear hS4 g4 S5 HRB HS4
  go_wp2_with (first
    | (show wpList _ _ _ ({ dst := _, op := Op.load 32 _, type := _, pos := _, after := _, guard := _ } :: _) _ _
       refine wpList_load_mid rfl 32 _ rfl _ _ rfl _ _ RNG.out hdu hdr (infoC' c) ?_))
  refine (hWr.out _).mono ?_
  rintro e w5 ⟨rfl, g5⟩
  have HS6 := Keep.mk (HS5.out.grown g5)
  clear g5 HS5 RNG hWr
  by_cases hwr : 0 < c.wa
  · have HD1 := Keep.mk (HD.out.1 hwr)
    have hdec : decide (0 < c.wa) = true := decide_eq_true hwr
    have RNGe := Keep.mk (HS6.out.boxGet k0m).range
    have HRBe := Keep.mk (HS6.out.boxGet k1m)
    have HLe := Keep.mk (crv_one c)
    go_wp2_with (first
      | (show wpList _ _ _ ({ dst := _, op := Op.load 32 _, type := _, pos := _, after := _, guard := _ } :: _) _ _
         refine wpList_load_mid rfl 32 _ rfl _ _ rfl _ _ RNGe.out hdu hdr (infoC' c) ?_)
      | (show wpList _ _ _ ({ dst := _, op := Op.store 32 _ _, type := _, pos := _, after := _, guard := _ } :: _) _ _
         refine store_at _ rb 0 zC14 (crv c) 32 32 rfl rfl rfl rfl HRBe.out (Nat.le_refl _) (infoC' c) HLe.out ?_))
    intro w7 hS7 g7
    have S7 := hS7 _ _ HS6.out.swap
    rw [over_all zC14 (crv c) rfl] at S7
    have HS7 := Keep.mk S7
    clear hS7 g7 S7 RNGe HRBe HS6
    go_wp2_with fail
    exact ret_c rfl rfl (HS7.out.boxGet k0m) hdu hdr (infoC' c) rfl ⟨by rw [HD1.out], HS7.out.g⟩
  have hdec : decide (0 < c.wa) = false := decide_eq_false hwr
  have HD1 := Keep.mk (HD.out.2 (Int.not_lt.1 hwr))
  clear HD hwr
  obtain ⟨t, ht⟩ : ∃ t, max h 0 = t := ⟨_, rfl⟩
  rw [ht] at HD1
  have ht0 : 0 ≤ t ∧ t ≤ 9223372036854775807 := by have := hh.2; omega
  have y7 : w5.cell? ⟨xb, 7, none⟩ = some (iv c.he) := (HS6.out.boxGet k0m).cellv 7 _ rfl
  have f7 : w5.frozen? ⟨xb, 7, none⟩ = false := (HS6.out.boxGet k0m).frozen 7
  by_cases hlt : t < c.he
  · rw [if_pos hlt] at HD1
    have hd2 : decide (t < c.he) = true := decide_eq_true hlt
    have k1 : IntKind.i64.wrap (c.he - t) = c.he - t := wi _ (by omega) (by have := hhe.2; omega)
    have S8 := HS6.out.boxPut 7 (iv (c.he - t))
    change Sep w _ [boxA xb (crv { c with he := c.he - t }) 32, boxA rb zC14 32] at S8
    obtain ⟨c2, hc2⟩ : ∃ c2 : Cr, ({ c with he := c.he - t } : Cr) = c2 := ⟨_, rfl⟩
    rw [hc2] at S8 HD1
    obtain ⟨w8, hw8⟩ : ∃ w8, w5.setCell ⟨xb, 7, none⟩ (iv (c.he - t)) = w8 := ⟨_, rfl⟩
    rw [hw8] at S8
    have HS8 := Keep.mk S8
    clear S8 HS6 hc2 hhe hh ok
    have RNGe := Keep.mk (HS8.out.boxGet k0m).range
    have HRBe := Keep.mk (HS8.out.boxGet k1m)
    have HLe := Keep.mk (crv_one c2)
    go_wp2_with (first
      | (show wpList _ _ _ ({ dst := _, op := Op.load 32 _, type := _, pos := _, after := _, guard := _ } :: _) _ _
         refine wpList_load_mid rfl 32 _ rfl _ _ rfl _ _ RNGe.out hdu hdr (infoC' c2) ?_)
      | (show wpList _ _ _ ({ dst := _, op := Op.store 32 _ _, type := _, pos := _, after := _, guard := _ } :: _) _ _
         refine store_at _ rb 0 zC14 (crv c2) 32 32 rfl rfl rfl rfl HRBe.out (Nat.le_refl _) (infoC' c2) HLe.out ?_))
    intro w7 hS7 g7
    have S7 := hS7 _ _ HS8.out.swap
    rw [over_all zC14 (crv c2) rfl] at S7
    have HS7 := Keep.mk S7
    clear hS7 g7 S7 RNGe HRBe HS8
    go_wp2_with fail
    exact ret_c rfl rfl (HS7.out.boxGet k0m) hdu hdr (infoC' c2) rfl ⟨by rw [HD1.out], HS7.out.g⟩
  · rw [if_neg hlt] at HD1
    have hd2 : decide (t < c.he) = false := decide_eq_false hlt
    have S8 := HS6.out.boxPut 7 (iv 0)
    obtain ⟨w8, hw8⟩ : ∃ w8, w5.setCell ⟨xb, 7, none⟩ (iv 0) = w8 := ⟨_, rfl⟩
    rw [hw8] at S8
    have y11 : w8.cell? ⟨xb, 11, none⟩ = some (iv c.wa) := (S8.boxGet k0m).cellv 11 _ rfl
    have f11 : w8.frozen? ⟨xb, 11, none⟩ = false := (S8.boxGet k0m).frozen 11
    have S9 := S8.boxPut 11 (iv 40)
    obtain ⟨w9, hw9⟩ : ∃ w9, w8.setCell ⟨xb, 11, none⟩ (iv 40) = w9 := ⟨_, rfl⟩
    rw [hw9] at S9
    have y4 : w9.cell? ⟨xb, 4, none⟩ = some (iv c.sx) := (S9.boxGet k0m).cellv 4 _ rfl
    have f4 : w9.frozen? ⟨xb, 4, none⟩ = false := (S9.boxGet k0m).frozen 4
    have y5 : w9.cell? ⟨xb, 5, none⟩ = some (iv c.sy) := (S9.boxGet k0m).cellv 5 _ rfl
    have f5 : w9.frozen? ⟨xb, 5, none⟩ = false := (S9.boxGet k0m).frozen 5
    have S10 := S9.boxPut 4 (iv 0)
    obtain ⟨w10, hw10⟩ : ∃ w10, w9.setCell ⟨xb, 4, none⟩ (iv 0) = w10 := ⟨_, rfl⟩
    rw [hw10] at S10
    have z5 : w10.cell? ⟨xb, 5, none⟩ = some (iv c.sy) := (S10.boxGet k0m).cellv 5 _ rfl
    have g5 : w10.frozen? ⟨xb, 5, none⟩ = false := (S10.boxGet k0m).frozen 5
    have S11 := S10.boxPut 5 (iv 0)
    obtain ⟨w11, hw11⟩ : ∃ w11, w10.setCell ⟨xb, 5, none⟩ (iv 0) = w11 := ⟨_, rfl⟩
    rw [hw11] at S11
    change Sep w _ [boxA xb (crv { c with he := 0, wa := 40, sx := 0, sy := 0 }) 32, boxA rb zC14 32] at S11
    obtain ⟨c2, hc2⟩ : ∃ c2 : Cr, ({ c with he := 0, wa := 40, sx := 0, sy := 0 } : Cr) = c2 := ⟨_, rfl⟩
    rw [hc2] at S11 HD1
    have HS8 := Keep.mk S11
    clear S8 S9 S10 S11 HS6 hc2 hhe hh ok
    have RNGe := Keep.mk (HS8.out.boxGet k0m).range
    have HRBe := Keep.mk (HS8.out.boxGet k1m)
    have HLe := Keep.mk (crv_one c2)
    go_wp2_with (first
      | (show wpList _ _ _ ({ dst := _, op := Op.load 32 _, type := _, pos := _, after := _, guard := _ } :: _) _ _
         refine wpList_load_mid rfl 32 _ rfl _ _ rfl _ _ RNGe.out hdu hdr (infoC' c2) ?_)
      | (show wpList _ _ _ ({ dst := _, op := Op.store 32 _ _, type := _, pos := _, after := _, guard := _ } :: _) _ _
         refine store_at _ rb 0 zC14 (crv c2) 32 32 rfl rfl rfl rfl HRBe.out (Nat.le_refl _) (infoC' c2) HLe.out ?_))
    intro w7 hS7 g7
    have S7 := hS7 _ _ HS8.out.swap
    rw [over_all zC14 (crv c2) rfl] at S7
    have HS7 := Keep.mk S7
    clear hS7 g7 S7 RNGe HRBe HS8
    go_wp2_with fail
    exact ret_c rfl rfl (HS7.out.boxGet k0m) hdu hdr (infoC' c2) rfl ⟨by rw [HD1.out], HS7.out.g⟩

end Go.Proofs.YtobdcngjpgndiaaDoor.Bo
