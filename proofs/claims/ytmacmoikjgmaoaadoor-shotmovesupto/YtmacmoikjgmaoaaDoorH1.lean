/- shot: ready, meets -/
import Derived.Test.YtmacmoikjgmaoaaDoorH0
import Derived.Test.YtmacmoikjgmaoaaDoorR2
namespace Go.Proofs.YtmacmoikjgmaoaaDoor.Bo
open Go Go.RowKit

section
variable {P : Program} {ops : Array Oper} {Q : Exit → Act → World → Prop} {md : Region.Mode} {S : World → Prop} {Z : List Nat}
/-- two may come -/
theorem wpAnyX_two {i j : Nat} {o p : Oper} {n : Nat} {L : Array Bool} {a : Act} {w : World} (hr : Region.ready md ops L = [i, j]) (ho : ops[i]? = some o) (hp : ops[j]? = some p)
    (h : ∀ K' : Act → World → Prop, Shut (∀ a w, S w → (S w → wpAnyX P md ops Q S Z n (L.setIfInBounds i true) a w) → K' a w) → if Region.wanted o (yielded ops a.tmps) = true then Oper.wp P o a w K' Q else K' (a.put o.dst undef) w)
    (k : ∀ K' : Act → World → Prop, Shut (∀ a w, S w → (S w → wpAnyX P md ops Q S Z n (L.setIfInBounds j true) a w) → K' a w) → if Region.wanted p (yielded ops a.tmps) = true then Oper.wp P p a w K' Q else K' (a.put p.dst undef) w) : wpAnyX P md ops Q S Z (n + 1) L a w :=
  ⟨fun h0 => (by rw [hr] at h0; cases h0), fun l hl => by
    rw [hr] at hl
    rcases List.mem_cons.1 hl with rfl | hl
    · exact wpOp_step ho (fun K' hK => h K' (fun a w hS hW => hK a w ⟨fun _ => hS, hW hS⟩))
    · rw [List.mem_singleton] at hl
      subst hl
      exact wpOp_step hp (fun K' hK => k K' (fun a w hS hW => hK a w ⟨fun _ => hS, hW hS⟩))⟩
end
theorem wpList_build {P : Program} {w : World} {ops : Array Oper} {rest : List Oper} {o : Oper} {a : Act} {Q : Exit → Act → World → Prop} (hgd : o.guard = none) (t : TypeId) (parts : Array (Nat × Operand))
    (ho : o.op = .build t parts) (cells : Array Value) (hb : P.built t (parts.map fun (i, x) => (i, a.eval x)).toList = some cells) (h : wpList P ops Q rest (a.put o.dst (.agg cells)) w) : wpList P ops Q (o :: rest) a w :=
  wpList_plain hgd fun _ hK => by
    unfold Oper.wp execOp
    simp only [ho, Sem.run_bind, run_build w t _ cells hb, Result.andThen_ok]
    exact hK _ _ h
theorem yieldsIf_build {P : Program} {ops : Array Oper} {S : World → Prop} {op : Oper} {a : Act} (hw : Region.wanted op (yielded ops a.tmps) = true) (t : TypeId) (parts : Array (Nat × Operand)) (ho : op.op = .build t parts) (cells : Array Value)
    (hb : P.built t (parts.map fun (i, x) => (i, a.eval x)).toList = some cells) : YieldsIf P ops S op (.agg cells) a :=
  .inl ⟨hw, fun w _ => by
    unfold execOp
    simp only [ho, Sem.run_bind, run_build w t _ cells hb, Result.andThen_ok]
    rfl⟩
theorem results_cst {fn : Func} {p q r : Tmp} {ty tz : TypeId} (h : fn.results = #[.cell p ty, .cell q tz, .tmp r]) (tmps : Array Value) (P : Program) (w : World) :
    (results fn tmps).run P w = ((asAddr (tmps.getD p undef)).run P w).andThen fun a w₁ => ((loadVar ty a).run P w₁).andThen fun v w₂ => ((asAddr (tmps.getD q undef)).run P w₂).andThen fun a' w₃ => ((loadVar tz a').run P w₃).andThen fun v' w₄ => .ok (.tuple #[v, v', tmps.getD r undef]) w₄ := by
  simp only [results, h]
  simp [Sem.run_bind, Result.andThen]
theorem ret_cst {P : Program} {fn : Func} {R : Ending → World → Prop} {a : Act} {w : World} {p q r : Tmp} {ty tz t t' : TypeId} {b b' : Nat} {cs ds : List Value} {d d' : TypeDesc}
    (hr : fn.results = #[.cell p ty, .cell q tz, .tmp r]) (hp : a.tmps.getD p undef = .pointer (some ⟨b, 0, none⟩)) (hq : a.tmps.getD q undef = .pointer (some ⟨b', 0, none⟩)) (hh : Has w b cs t) (hh' : Has w b' ds t') (hu : P.underlying ty = some d) (hd : d.isRow = true) (hu' : P.underlying tz = some d') (hd' : d'.isRow = true)
    (hi : (P.info? ty).map (·.size) = some cs.length) (hi' : (P.info? tz).map (·.size) = some ds.length) (hdf : a.defers = []) (h : R (.returned (.tuple #[.agg cs.toArray, .agg ds.toArray, a.tmps.getD r undef])) w) : bodyPost P fn R .ret a w := by
  refine bodyPost_ret (v := .tuple #[.agg cs.toArray, .agg ds.toArray, a.tmps.getD r undef]) ?_ hdf h
  rw [results_cst hr, hp, hq]
  simp [asAddr, Result.andThen, run_loadVar_mid w b 0 ty cs d hh.range hu hd hi, run_loadVar_mid w b' 0 tz ds d' hh'.range hu' hd' hi']
theorem results_ctt {fn : Func} {p q r : Tmp} {ty : TypeId} (h : fn.results = #[.cell p ty, .tmp q, .tmp r]) (tmps : Array Value) (P : Program) (w : World) :
    (results fn tmps).run P w = ((asAddr (tmps.getD p undef)).run P w).andThen fun a w₁ => ((loadVar ty a).run P w₁).andThen fun v w₂ => .ok (.tuple #[v, tmps.getD q undef, tmps.getD r undef]) w₂ := by
  simp only [results, h]
  simp [Sem.run_bind, Result.andThen]
theorem ret_ctt {P : Program} {fn : Func} {R : Ending → World → Prop} {a : Act} {w : World} {p q r : Tmp} {ty t : TypeId} {b : Nat} {cs : List Value} {d : TypeDesc}
    (hr : fn.results = #[.cell p ty, .tmp q, .tmp r]) (hp : a.tmps.getD p undef = .pointer (some ⟨b, 0, none⟩)) (hh : Has w b cs t) (hu : P.underlying ty = some d) (hd : d.isRow = true)
    (hi : (P.info? ty).map (·.size) = some cs.length) (hdf : a.defers = []) (h : R (.returned (.tuple #[.agg cs.toArray, a.tmps.getD q undef, a.tmps.getD r undef])) w) : bodyPost P fn R .ret a w := by
  refine bodyPost_ret (v := .tuple #[.agg cs.toArray, a.tmps.getD q undef, a.tmps.getD r undef]) ?_ hdf h
  rw [results_ctt hr, hp]
  simp [asAddr, Result.andThen, run_loadVar_mid w b 0 ty cs d hh.range hu hd hi]
theorem wpList_want {P : Program} {ops : Array Oper} {rest : List Oper} {o : Oper} {a : Act} {w : World} {Q : Exit → Act → World → Prop} (hw : Region.wanted o (yielded ops a.tmps) = true)
    (h : ∀ K : Act → World → Prop, (∀ a w, wpList P ops Q rest a w → K a w) → o.wp P a w K Q) : wpList P ops Q (o :: rest) a w :=
  wpList_step fun K hK => by rw [if_pos hw]; exact h K hK
/-- a load under a guard that holds -/
theorem load_g {P : Program} {ops : Array Oper} {rest : List Oper} {op : Oper} {a : Act} {w : World} {Q : Exit → Act → World → Prop} (hw : Region.wanted op (yielded ops a.tmps) = true) (ty : TypeId) (x : Operand) (ho : op.op = .load ty x)
    (b o : Nat) (hx : a.eval x = .pointer (some ⟨b, o, none⟩)) (cs : List Value) (d : TypeDesc) (hc : w.rangeAt b o cs)
    (hu : P.underlying ty = some d) (hd : d.isRow = true) (hi : (P.info? ty).map (·.size) = some cs.length)
    (h : wpList P ops Q rest (a.put op.dst (.agg cs.toArray)) w) : wpList P ops Q (op :: rest) a w :=
  wpList_want hw fun _ hK => wp_load_mid ty x ho b o hx cs d hc hu hd hi (hK _ _ h)
set_option maxRecDepth 100000 in
set_option maxHeartbeats 8000000 in
theorem ready_c (w : World) (c : Cr) : Calls Tryd.prog 34 #[.agg (crv c).toArray] w fun e w' => e = .returned (.bool (rdy c)) ∧ w.grownBy w' none := by
  obtain ⟨du, hdu, hdr⟩ := underC
  have S1 := (Sep.nil w).newBox (crv c).toArray 38
  obtain ⟨W1, hW1⟩ : ∃ W1, w.alloc (.cells (crv c).toArray 38) = W1 := ⟨_, rfl⟩
  obtain ⟨xb, hxb⟩ : ∃ xb, w.heap.size = xb := ⟨_, rfl⟩
  rw [hW1, hxb] at S1
  change Sep w W1 [boxA xb (crv c) 38] at S1
  have hWr := Keep.mk (fun W => wreck_c W c)
  have hsz : (crv c).toArray.size = 14 := rfl
  have HS := Keep.mk S1
  have RN := Keep.mk (S1.boxGet k0m).range
  clear S1
  go_enter Tryd.func34, Tryd.ntmps34
  go_wp2_with (first
    | (show wpList _ _ _ ({ dst := _, op := Op.load 38 _, type := _, pos := _, after := _, guard := _ } :: _) _ _
       refine load_g (by rfl) 38 _ rfl _ _ rfl _ _ RN.out hdu hdr (infoC' c) ?_))
  refine (hWr.out _).mono ?_
  rintro e w3 ⟨rfl, g3⟩
  replace HS := Keep.mk (HS.out.grown g3)
  clear g3 RN hWr hW1 hxb
  have y8 : w3.cell? ⟨xb, 8, none⟩ = some (iv c.en) := (HS.out.boxGet k0m).cellv 8 _ rfl
  have y9 : w3.cell? ⟨xb, 9, none⟩ = some (iv c.am) := (HS.out.boxGet k0m).cellv 9 _ rfl
  have y10 : w3.cell? ⟨xb, 10, none⟩ = some (iv c.co) := (HS.out.boxGet k0m).cellv 10 _ rfl
  by_cases hwa : 0 < c.wa
  · have HD : Keep (rdy c = false) := ⟨by unfold rdy; simp [hwa]⟩
    have hdec : decide (0 < c.wa) = true := decide_eq_true hwa
    go_wp2_with fail
    go_ret
    exact ⟨by rw [HD.out]; rfl, HS.out.g⟩
  have hdec : decide (0 < c.wa) = false := decide_eq_false hwa
  by_cases hco : c.co = 0
  · by_cases ham : 0 < c.am
    · have HD : Keep (rdy c = decide (8 ≤ c.en)) := ⟨by unfold rdy; simp [hwa, hco, ham]⟩
      have hd2 : (c.co == 0) = true := by simp [hco]
      have hd3 : decide (0 < c.am) = true := decide_eq_true ham
      clear hwa hco ham
      go_wp2_with fail
      go_ret
      exact ⟨by rw [HD.out]; rfl, HS.out.g⟩
    · have HD : Keep (rdy c = false) := ⟨by unfold rdy; simp [hwa, hco, ham]⟩
      have hd2 : (c.co == 0) = true := by simp [hco]
      have hd3 : decide (0 < c.am) = false := decide_eq_false ham
      clear hwa hco ham
      go_wp2_with fail
      go_ret
      exact ⟨by rw [HD.out]; rfl, HS.out.g⟩
  · have HD : Keep (rdy c = false) := ⟨by unfold rdy; simp [hwa, hco]⟩
    have hd2 : (c.co == 0) = false := by simp [hco]
    clear hwa hco
    go_wp2_with fail
    go_ret
    exact ⟨by rw [HD.out]; rfl, HS.out.g⟩
theorem Has.vec2 {W : World} {b : Nat} {cs : List Value} {t : TypeId} (h : Has W b cs t) (o : Nat) (x y : Int) (h0 : cs[o]? = some (iv x)) (h1 : cs[o + 1]? = some (iv y)) : W.rangeAt b o [iv x, iv y] := fun j v hv => by
  rw [h.cell]
  match j, hv with
  | 0, hv => rw [Nat.add_zero, h0]; exact hv
  | 1, hv => rw [h1]; exact hv
  | j + 2, hv => cases hv
set_option maxRecDepth 100000 in
set_option maxHeartbeats 8000000 in
theorem meets_c (w : World) (s : Sh) (c : Cr) (oks : ShOk s) (ok : CrOk c) (hk : Kc w) : Calls Tryd.prog 28 #[.agg (shv s).toArray, .agg (crv c).toArray] w fun e w' => e = .returned (.bool (mt s c)) ∧ w.grownBy w' none := by
  obtain ⟨du, hdu, hdr⟩ := underC
  have S1 := ((Sep.nil w).newBox (shv s).toArray 26).newBox (crv c).toArray 38
  obtain ⟨W1, hW1⟩ : ∃ W1, w.alloc (.cells (shv s).toArray 26) = W1 := ⟨_, rfl⟩
  obtain ⟨sb, hsb⟩ : ∃ xb, w.heap.size = xb := ⟨_, rfl⟩
  rw [hW1, hsb] at S1
  obtain ⟨W2, hW2⟩ : ∃ W2, W1.alloc (.cells (crv c).toArray 38) = W2 := ⟨_, rfl⟩
  obtain ⟨xb, hxb⟩ : ∃ xb, W1.heap.size = xb := ⟨_, rfl⟩
  rw [hW2, hxb] at S1
  change Sep w W2 [boxA xb (crv c) 38, boxA sb (shv s) 26] at S1
  have hWr := Keep.mk (fun W => wreck_c W c)
  have HWI := Keep.mk (fun W (g : w.grownBy W none) => within_c s.x s.y c.x c.y 98304 oks.x oks.y ok.x ok.y W (hk.kept g))
  have hsz : (crv c).toArray.size = 14 := rfl
  have hss : (shv s).toArray.size = 7 := rfl
  have HS := Keep.mk S1
  have RN := Keep.mk (S1.boxGet k0m).range
  clear S1 hk oks ok
  go_enter Tryd.func28, Tryd.ntmps28
  go_wp2_with (first
    | (show wpList _ _ _ ({ dst := _, op := Op.load 38 _, type := _, pos := _, after := _, guard := _ } :: _) _ _
       refine load_g (by rfl) 38 _ rfl _ _ rfl _ _ RN.out hdu hdr (infoC' c) ?_))
  refine (hWr.out _).mono ?_
  rintro e w3 ⟨rfl, g3⟩
  replace HS := Keep.mk (HS.out.grown g3)
  clear g3 RN hWr hW1 hW2 hxb hsb
  have y0 : w3.cell? ⟨xb, 0, none⟩ = some (iv c.pl) := (HS.out.boxGet k0m).cellv 0 _ rfl
  have y1 : w3.cell? ⟨sb, 1, none⟩ = some (iv s.pl) := (HS.out.boxGet k1m).cellv 1 _ rfl
  have z2 : w3.cell? ⟨xb, 2, none⟩ = some (iv c.x) := (HS.out.boxGet k0m).cellv 2 _ rfl
  have z3 : w3.cell? ⟨xb, 3, none⟩ = some (iv c.y) := (HS.out.boxGet k0m).cellv 3 _ rfl
  have y2 : w3.cell? ⟨sb, 2, none⟩ = some (iv s.x) := (HS.out.boxGet k1m).cellv 2 _ rfl
  have y3 : w3.cell? ⟨sb, 3, none⟩ = some (iv s.y) := (HS.out.boxGet k1m).cellv 3 _ rfl
  by_cases hwa : 0 < c.wa
  · have HD : Keep (mt s c = false) := ⟨by unfold mt; simp [hwa]⟩
    have hdec : decide (0 < c.wa) = true := decide_eq_true hwa
    go_wp2_with fail
    go_ret
    exact ⟨by rw [HD.out]; rfl, HS.out.g⟩
  have hdec : decide (0 < c.wa) = false := decide_eq_false hwa
  by_cases hpl : c.pl = s.pl
  · have HD : Keep (mt s c = false) := ⟨by unfold mt; simp [hpl]⟩
    have hd2 : (c.pl != s.pl) = false := by simp [hpl]
    have hd3 : (c.pl == s.pl) = true := by simp [hpl]
    clear hpl hwa
    go_wp2_with fail
    go_ret
    exact ⟨by rw [HD.out]; rfl, HS.out.g⟩
  have HD : Keep (mt s c = wn (d2 s.x s.y c.x c.y) 98304) := ⟨by unfold mt; simp [hwa, hpl]⟩
  have hd2 : (c.pl != s.pl) = true := by simp [hpl]
  have hd3 : (c.pl == s.pl) = false := by simp [hpl]
  clear hpl hwa
  go_wp2_with fail
  refine (HWI.out _ HS.out.g).mono ?_
  rintro e w4 ⟨rfl, g4⟩
  replace HS := Keep.mk (HS.out.grown g4)
  clear g4 HWI y0 y1 y2 y3 z2 z3
  go_wp2_with fail
  go_ret
  exact ⟨by rw [HD.out]; rfl, HS.out.g⟩
end Go.Proofs.YtmacmoikjgmaoaaDoor.Bo
