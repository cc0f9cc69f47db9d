/- car: Bump -/
import Derived.Test.YtobdcngjpgndiaaDoorC8
namespace Go.Proofs.YtobdcngjpgndiaaDoor.Bo
open Go Go.RowKit

theorem wpList_want {P : Program} {ops : Array Oper} {rest : List Oper} {o : Oper} {a : Act} {w : World} {Q : Exit → Act → World → Prop} (hw : Region.wanted o (yielded ops a.tmps) = true)
    (h : ∀ K : Act → World → Prop, (∀ a w, wpList P ops Q rest a w → K a w) → o.wp P a w K Q) : wpList P ops Q (o :: rest) a w :=
  wpList_step fun K hK => by rw [if_pos hw]; exact h K hK
/-- a load under a guard that holds -/
theorem load_g {P : Program} {ops : Array Oper} {rest : List Oper} {op : Oper} {a : Act} {w : World} {Q : Exit → Act → World → Prop} (hw : Region.wanted op (yielded ops a.tmps) = true) (ty : TypeId) (x : Operand) (ho : op.op = .load ty x)
    (b o : Nat) (hx : a.eval x = .pointer (some ⟨b, o, none⟩)) (cs : List Value) (d : TypeDesc) (hc : w.rangeAt b o cs)
    (hu : P.underlying ty = some d) (hd : d.isRow = true) (hi : (P.info? ty).map (·.size) = some cs.length)
    (h : wpList P ops Q rest (a.put op.dst (.agg cs.toArray)) w) : wpList P ops Q (op :: rest) a w :=
  wpList_want hw fun _ hK => wp_load_mid ty x ho b o hx cs d hc hu hd hi (hK _ _ h)
theorem results_cct {fn : Func} {p q r : Tmp} {ty : TypeId} (h : fn.results = #[.cell p ty, .cell q ty, .tmp r]) (tmps : Array Value) (P : Program) (w : World) :
    (results fn tmps).run P w = ((asAddr (tmps.getD p undef)).run P w).andThen fun a w₁ => ((loadVar ty a).run P w₁).andThen fun v w₂ => ((asAddr (tmps.getD q undef)).run P w₂).andThen fun a' w₃ => ((loadVar ty a').run P w₃).andThen fun v' w₄ => .ok (.tuple #[v, v', tmps.getD r undef]) w₄ := by
  simp only [results, h]
  simp [Sem.run_bind, Result.andThen]
theorem ret_cct {P : Program} {fn : Func} {R : Ending → World → Prop} {a : Act} {w : World} {p q r : Tmp} {ty t t' : TypeId} {b b' : Nat} {cs ds : List Value} {d : TypeDesc}
    (hr : fn.results = #[.cell p ty, .cell q ty, .tmp r]) (hp : a.tmps.getD p undef = .pointer (some ⟨b, 0, none⟩)) (hq : a.tmps.getD q undef = .pointer (some ⟨b', 0, none⟩)) (hh : Has w b cs t) (hh' : Has w b' ds t') (hu : P.underlying ty = some d) (hd : d.isRow = true)
    (hi : (P.info? ty).map (·.size) = some cs.length) (hi' : (P.info? ty).map (·.size) = some ds.length) (hdf : a.defers = []) (h : R (.returned (.tuple #[.agg cs.toArray, .agg ds.toArray, a.tmps.getD r undef])) w) : bodyPost P fn R .ret a w := by
  refine bodyPost_ret (v := .tuple #[.agg cs.toArray, .agg ds.toArray, a.tmps.getD r undef]) ?_ hdf h
  rw [results_cct hr, hp, hq]
  simp [asAddr, Result.andThen, run_loadVar_mid w b 0 ty cs d hh.range hu hd hi, run_loadVar_mid w b' 0 ty ds d hh'.range hu hd hi']
theorem bmp_yes {a b : Cr} (h1 : ¬ 0 < a.wa) (h2 : ¬ 0 < b.wa) : bmp a b = wn (d2 a.x a.y b.x b.y) 163840 := by
  unfold bmp
  rw [decide_eq_true h1, decide_eq_true h2, Bool.true_and, Bool.true_and]
theorem bmp_a {a b : Cr} (h1 : 0 < a.wa) : bmp a b = false := by
  unfold bmp
  rw [decide_eq_false (fun q => q h1), Bool.false_and]
theorem bmp_b {a b : Cr} (h1 : 0 < b.wa) : bmp a b = false := by
  unfold bmp
  rw [decide_eq_false (p := ¬ 0 < b.wa) (fun q => q h1), Bool.false_and, Bool.and_false]
theorem bm_no {a b : Cr} (h : bmp a b = false) : bmA a b = a ∧ bmB a b = b := by
  unfold bmA bmB
  rw [h]
  exact ⟨rfl, rfl⟩
theorem bm_yes {a b : Cr} (h : bmp a b = true) : bmA a b = { a with sx := b.sx, sy := b.sy } ∧ bmB a b = { b with sx := a.sx, sy := a.sy } := by
  unfold bmA bmB
  rw [h]
  exact ⟨rfl, rfl⟩
set_option maxRecDepth 100000 in
set_option maxHeartbeats 32000000 in
theorem bump_c (w : World) (a b : Cr) (oka : CrOk a) (okb : CrOk b) (hk : Kc w) :
    Calls Tryd.prog 18 #[.agg (crv a).toArray, .agg (crv b).toArray] w fun e w' => e = .returned (.tuple #[.agg (crv (bmA a b)).toArray, .agg (crv (bmB a b)).toArray, .bool (bmp a b)]) ∧ w.grownBy w' none := by
  obtain ⟨du, hdu, hdr⟩ := underC
  have hOa := Keep.mk (fun W => own_c W a oka.nm)
  have hOb := Keep.mk (fun W => own_c W b okb.nm)
  have hWa := Keep.mk (fun W => wreck_c W a)
  have hWb := Keep.mk (fun W => wreck_c W b)
  have HWI := Keep.mk (fun W (g : w.grownBy W none) => within_c a.x a.y b.x b.y 163840 oka.x oka.y okb.x okb.y W (hk.kept g))
  have HLa := Keep.mk (crv_one a)
  have HLb := Keep.mk (crv_one b)
  have S3 := ((((Sep.nil w).newBox (crv a).toArray 32).newBox (crv b).toArray 32).newBox zC14.toArray 32).newBox zC14.toArray 32
  obtain ⟨W1, hW1⟩ : ∃ W1, w.alloc (.cells (crv a).toArray 32) = W1 := ⟨_, rfl⟩
  obtain ⟨ab, hab⟩ : ∃ xb, w.heap.size = xb := ⟨_, rfl⟩
  rw [hW1, hab] at S3
  obtain ⟨W2, hW2⟩ : ∃ W2, W1.alloc (.cells (crv b).toArray 32) = W2 := ⟨_, rfl⟩
  obtain ⟨bb, hbb⟩ : ∃ xb, W1.heap.size = xb := ⟨_, rfl⟩
  rw [hW2, hbb] at S3
  obtain ⟨W3, hW3⟩ : ∃ W3, W2.alloc (.cells zC14.toArray 32) = W3 := ⟨_, rfl⟩
  obtain ⟨ra, hra⟩ : ∃ rb, W2.heap.size = rb := ⟨_, rfl⟩
  rw [hW3, hra] at S3
  obtain ⟨W4, hW4⟩ : ∃ W3', W3.alloc (.cells zC14.toArray 32) = W3' := ⟨_, rfl⟩
  obtain ⟨rb, hrb⟩ : ∃ rb, W3.heap.size = rb := ⟨_, rfl⟩
  rw [hW4, hrb] at S3
  change Sep w W4 [boxA rb zC14 32, boxA ra zC14 32, boxA bb (crv b) 32, boxA ab (crv a) 32] at S3
  have hsa : (crv a).toArray.size = 14 := rfl
  have hsb : (crv b).toArray.size = 14 := rfl
  unfold zC14 crv zC at hW3 hW4
  change W2.alloc _ = W3 at hW3
  change W3.alloc _ = W4 at hW4
  have HB : Keep (Sep w W4 [boxA ab (crv a) 32, boxA bb (crv b) 32, boxA ra zC14 32, boxA rb zC14 32]) := ⟨S3.perm (List.reverse_perm [boxA ab (crv a) 32, boxA bb (crv b) 32, boxA ra zC14 32, boxA rb zC14 32])⟩
  have HXS : Keep (In a.sx ∧ In b.sx) := ⟨oka.sx, okb.sx⟩
  clear S3 oka okb hk
  go_enter Tryd.func18, Tryd.ntmps18
  go_wp2_with fail
  refine region_X (S := fun w' => Sep w w' [boxA ab (crv a) 32, boxA bb (crv b) 32, boxA ra zC14 32, boxA rb zC14 32]) [] (by kernel_rfl) (HB.out.grown (gr_drew _ _)) (fun hHeld => ?_)
  replace HB := Keep.mk hHeld
  refine wpAnyX_take (i := 0) (oi := _) (v := _) rfl (by kernel_rfl) (by kernel_rfl) (by kernel_rfl) (by kernel_rfl) (by kernel_rfl) (fun _ _ _ h => h) (yieldsIf_load_mid (by rfl) 32 _ rfl _ _ rfl _ _ (fun w_ hS_ => (hS_.boxGet k0m).range) hdu hdr (infoC' a)) (by assumption) ?_
  simp only [Act.put, List.getElem_toArray, List.getElem_cons_zero, List.setIfInBounds_toArray, List.set_cons_zero, List.set_cons_succ]
  refine wpAnyX_take (i := 2) (oi := _) (v := _) rfl (by kernel_rfl) (by kernel_rfl) (by kernel_rfl) (by kernel_rfl) (by kernel_rfl) (fun _ _ _ h => h) (yieldsIf_load_mid (by rfl) 32 _ rfl _ _ rfl _ _ (fun w_ hS_ => (hS_.boxGet k1m).range) hdu hdr (infoC' b)) (by assumption) ?_
  simp only [Act.put, List.getElem_toArray, List.getElem_cons_succ, List.getElem_cons_zero, List.setIfInBounds_toArray, List.set_cons_zero, List.set_cons_succ]
  refine wpAnyX_one (i := 1) (by kernel_rfl) rfl (fun K hK => ?_)
  go_simp
  refine (hOa.out _).mono ?_
  rintro e wg ⟨rfl, hg⟩
  replace HB := Keep.mk (HB.out.grown hg)
  refine hK.out _ _ HB.out (fun hHeld => ?_)
  clear hK K hg
  refine wpAnyX_one (i := 3) (by kernel_rfl) rfl (fun K hK => ?_)
  go_simp
  refine (hOb.out _).mono ?_
  rintro e wg ⟨rfl, hg⟩
  replace HB := Keep.mk (HB.out.grown hg)
  refine hK.out _ _ HB.out (fun hHeld => ?_)
  clear hK K hg
  refine wpAnyX_one (i := 4) (by kernel_rfl) rfl (fun K hK => ?_)
  rw [if_pos (show Region.wanted _ _ = true from rfl)]
  refine wp_store_mid 32 _ _ rfl ab 0 (crv a).toArray rfl rfl ((HB.out.boxGet k0m).there 0 14 (Nat.le_refl _)) infoC (all_oneCell_toArray HLa.out) ?_
  have S8 := HB.out.boxTurn ((HB.out.boxGet k0m).setCells (crv a) 0) (gr_sets _ _ _ _)
  rw [over_all (crv a) (crv a) rfl] at S8
  refine hK.out _ _ S8 (fun hHeld => ?_)
  replace HB := Keep.mk S8
  clear hK K S8
  change Keep (Sep w (World.setCells wg ab 0 (crv a).toArray.toList) _) at HB
  generalize World.setCells wg ab 0 (crv a).toArray.toList = w4 at HB hHeld ⊢
  simp only [Act.put, List.getElem_toArray, List.getElem_cons_succ, List.getElem_cons_zero]
  refine wpAnyX_one (i := 5) (by kernel_rfl) rfl (fun K hK => ?_)
  rw [if_pos (show Region.wanted _ _ = true from rfl)]
  refine wp_store_mid 32 _ _ rfl bb 0 (crv b).toArray rfl rfl ((HB.out.boxGet k1m).there 0 14 (Nat.le_refl _)) infoC (all_oneCell_toArray HLb.out) ?_
  have S8 := (HB.out.swap.boxTurn ((HB.out.boxGet k1m).setCells (crv b) 0) (gr_sets _ _ _ _)).swap
  rw [over_all (crv b) (crv b) rfl] at S8
  refine hK.out _ _ S8 (fun hHeld => ?_)
  replace HB := Keep.mk S8
  clear hK K S8
  change Keep (Sep w (World.setCells w4 bb 0 (crv b).toArray.toList) _) at HB
  generalize World.setCells w4 bb 0 (crv b).toArray.toList = w5 at HB hHeld ⊢
  simp only [Act.put, List.getElem_toArray, List.getElem_cons_succ, List.getElem_cons_zero]
  refine wpAnyX_done (by kernel_rfl) ?_ _
  have RNa := Keep.mk (HB.out.boxGet k0m).range
  have RNb := Keep.mk (HB.out.boxGet k1m).range
  clear hOa hOb hW1 hW2 hW3 hW4 hab hbb hra hrb hHeld
  go_wp2_with (first
    | (show wpList _ _ _ ({ dst := _, op := Op.load 32 (Operand.tmp 2), type := _, pos := _, after := _, guard := _ } :: _) _ _
       refine load_g (by rfl) 32 _ rfl _ _ rfl _ _ RNa.out hdu hdr (infoC' a) ?_)
    | (show wpList _ _ _ ({ dst := _, op := Op.load 32 (Operand.tmp 3), type := _, pos := _, after := _, guard := _ } :: _) _ _
       refine load_g (by rfl) 32 _ rfl _ _ rfl _ _ RNb.out hdu hdr (infoC' b) ?_))
  refine (hWa.out _).mono ?_
  rintro e w6 ⟨rfl, g_⟩
  replace HB := Keep.mk (HB.out.grown g_)
  replace RNa := Keep.mk (HB.out.boxGet k0m).range
  replace RNb := Keep.mk (HB.out.boxGet k1m).range
  clear g_
  by_cases ha : 0 < a.wa
  · have HN := Keep.mk (bmp_a (b := b) ha)
    have hd1 : decide (0 < a.wa) = true := decide_eq_true ha
    clear hWa hWb HWI
    go_wp2_with (first
      | (show wpList _ _ _ ({ dst := _, op := Op.load 32 (Operand.tmp 2), type := _, pos := _, after := _, guard := _ } :: _) _ _
         refine load_g (by rfl) 32 _ rfl _ _ rfl _ _ RNa.out hdu hdr (infoC' a) ?_)
      | (show wpList _ _ _ ({ dst := _, op := Op.load 32 (Operand.tmp 3), type := _, pos := _, after := _, guard := _ } :: _) _ _
         refine load_g (by rfl) 32 _ rfl _ _ rfl _ _ RNb.out hdu hdr (infoC' b) ?_))
    have HLA := Keep.mk (crv_one a)
    have HLB := Keep.mk (crv_one b)
    have HF0 : Keep (Sep w _ [boxA ra zC14 32, boxA rb zC14 32, boxA ab (crv a) 32, boxA bb (crv b) 32]) := ⟨HB.out.perm (List.perm_append_comm (l₁ := [boxA ab (crv a) 32, boxA bb (crv b) 32]) (l₂ := [boxA ra zC14 32, boxA rb zC14 32]))⟩
    have HF := Keep.mk (HF0.out.grown (gr_drew _ none))
    clear HF0 HB
    refine region_X (S := fun w' => Sep w w' [boxA ab (crv a) 32, boxA bb (crv b) 32]) [] (by kernel_rfl) (HF.out.tail.tail) (fun hHeld => ?_)
    refine wpAnyX_take (i := 0) (oi := _) (v := _) rfl (by kernel_rfl) (by kernel_rfl) (by kernel_rfl) (by kernel_rfl) (by kernel_rfl) (fun _ _ _ h => h) (yieldsIf_load_mid (by rfl) 32 _ rfl _ _ rfl _ _ (fun w_ hS_ => (hS_.boxGet k0m).range) hdu hdr (infoC' a)) (by assumption) ?_
    simp only [Act.put, List.getElem_toArray, List.getElem_cons_zero, List.setIfInBounds_toArray, List.set_cons_zero, List.set_cons_succ]
    refine wpAnyX_take (i := 1) (oi := _) (v := _) rfl (by kernel_rfl) (by kernel_rfl) (by kernel_rfl) (by kernel_rfl) (by kernel_rfl) (fun _ _ _ h => h) (yieldsIf_load_mid (by rfl) 32 _ rfl _ _ rfl _ _ (fun w_ hS_ => (hS_.boxGet k1m).range) hdu hdr (infoC' b)) (by assumption) ?_
    simp only [Act.put, List.getElem_toArray, List.getElem_cons_succ, List.getElem_cons_zero, List.setIfInBounds_toArray, List.set_cons_zero, List.set_cons_succ]
    refine wpAnyX_one (i := 2) (by kernel_rfl) rfl (fun K hK => ?_)
    rw [if_pos (show Region.wanted _ _ = true from rfl)]
    refine wp_store_mid 32 _ _ rfl ra 0 (crv a).toArray rfl rfl ((HF.out.boxGet k0m).there 0 14 (Nat.le_refl _)) infoC (all_oneCell_toArray HLA.out) ?_
    have S8 := HF.out.boxTurn ((HF.out.boxGet k0m).setCells (crv a) 0) (gr_sets _ _ _ _)
    rw [over_all zC14 (crv a) rfl] at S8
    refine hK.out _ _ S8.tail.tail (fun hHeld => ?_)
    replace HF := Keep.mk S8
    clear hK K S8
    change Keep (Sep w (World.setCells (World.drew w6) ra 0 (crv a).toArray.toList) _) at HF
    generalize World.setCells (World.drew w6) ra 0 (crv a).toArray.toList = w9 at HF hHeld ⊢
    simp only [Act.put, List.getElem_toArray, List.getElem_cons_succ, List.getElem_cons_zero]
    refine wpAnyX_one (i := 3) (by kernel_rfl) rfl (fun K hK => ?_)
    rw [if_pos (show Region.wanted _ _ = true from rfl)]
    refine wp_store_mid 32 _ _ rfl rb 0 (crv b).toArray rfl rfl ((HF.out.boxGet k1m).there 0 14 (Nat.le_refl _)) infoC (all_oneCell_toArray HLB.out) ?_
    have S8 := (HF.out.swap.boxTurn ((HF.out.boxGet k1m).setCells (crv b) 0) (gr_sets _ _ _ _)).swap
    rw [over_all zC14 (crv b) rfl] at S8
    refine hK.out _ _ S8.tail.tail (fun hHeld => ?_)
    replace HF := Keep.mk S8
    clear hK K S8
    change Keep (Sep w (World.setCells w9 rb 0 (crv b).toArray.toList) _) at HF
    generalize World.setCells w9 rb 0 (crv b).toArray.toList = w10 at HF hHeld ⊢
    simp only [Act.put, List.getElem_toArray, List.getElem_cons_succ, List.getElem_cons_zero]
    refine wpAnyX_take (i := 4) (oi := _) (v := ?_) rfl (by kernel_rfl) (by kernel_rfl) (by kernel_rfl) (by kernel_rfl) (by kernel_rfl) (fun _ _ _ h => h) (Or.inl ⟨by rfl, ?_⟩) (by assumption) ?_
    rotate_left
    · (intro w hSw; go_simp; first | done | (with_reducible rfl))
    simp only [Act.put, List.getElem_toArray, List.getElem_cons_succ, List.getElem_cons_zero, List.setIfInBounds_toArray, List.set_cons_zero, List.set_cons_succ]
    refine wpAnyX_done (by kernel_rfl) ?_ _
    go_wp2_with fail
    refine ret_cct rfl rfl rfl (HF.out.boxGet k0m) (HF.out.boxGet k1m) hdu hdr (infoC' a) (infoC' b) rfl ⟨?_, HF.out.g⟩
    rw [(bm_no HN.out).1, (bm_no HN.out).2, HN.out]
    rfl
  have HA := Keep.mk ha
  have hd1 : decide (0 < a.wa) = false := decide_eq_false ha
  go_wp2_with (first
    | (show wpList _ _ _ ({ dst := _, op := Op.load 32 (Operand.tmp 2), type := _, pos := _, after := _, guard := _ } :: _) _ _
       refine load_g (by rfl) 32 _ rfl _ _ rfl _ _ RNa.out hdu hdr (infoC' a) ?_)
    | (show wpList _ _ _ ({ dst := _, op := Op.load 32 (Operand.tmp 3), type := _, pos := _, after := _, guard := _ } :: _) _ _
       refine load_g (by rfl) 32 _ rfl _ _ rfl _ _ RNb.out hdu hdr (infoC' b) ?_))
  refine (hWb.out _).mono ?_
  rintro e w7 ⟨rfl, g_⟩
  replace HB := Keep.mk (HB.out.grown g_)
  replace RNa := Keep.mk (HB.out.boxGet k0m).range
  replace RNb := Keep.mk (HB.out.boxGet k1m).range
  clear g_
  by_cases hb : 0 < b.wa
  · have HN := Keep.mk (bmp_b (a := a) hb)
    have hd2 : decide (0 < b.wa) = true := decide_eq_true hb
    clear hWa hWb HWI
    go_wp2_with (first
      | (show wpList _ _ _ ({ dst := _, op := Op.load 32 (Operand.tmp 2), type := _, pos := _, after := _, guard := _ } :: _) _ _
         refine load_g (by rfl) 32 _ rfl _ _ rfl _ _ RNa.out hdu hdr (infoC' a) ?_)
      | (show wpList _ _ _ ({ dst := _, op := Op.load 32 (Operand.tmp 3), type := _, pos := _, after := _, guard := _ } :: _) _ _
         refine load_g (by rfl) 32 _ rfl _ _ rfl _ _ RNb.out hdu hdr (infoC' b) ?_))
    have HLA := Keep.mk (crv_one a)
    have HLB := Keep.mk (crv_one b)
    have HF0 : Keep (Sep w _ [boxA ra zC14 32, boxA rb zC14 32, boxA ab (crv a) 32, boxA bb (crv b) 32]) := ⟨HB.out.perm (List.perm_append_comm (l₁ := [boxA ab (crv a) 32, boxA bb (crv b) 32]) (l₂ := [boxA ra zC14 32, boxA rb zC14 32]))⟩
    have HF := Keep.mk (HF0.out.grown (gr_drew _ none))
    clear HF0 HB
    refine region_X (S := fun w' => Sep w w' [boxA ab (crv a) 32, boxA bb (crv b) 32]) [] (by kernel_rfl) (HF.out.tail.tail) (fun hHeld => ?_)
    refine wpAnyX_take (i := 0) (oi := _) (v := _) rfl (by kernel_rfl) (by kernel_rfl) (by kernel_rfl) (by kernel_rfl) (by kernel_rfl) (fun _ _ _ h => h) (yieldsIf_load_mid (by rfl) 32 _ rfl _ _ rfl _ _ (fun w_ hS_ => (hS_.boxGet k0m).range) hdu hdr (infoC' a)) (by assumption) ?_
    simp only [Act.put, List.getElem_toArray, List.getElem_cons_zero, List.setIfInBounds_toArray, List.set_cons_zero, List.set_cons_succ]
    refine wpAnyX_take (i := 1) (oi := _) (v := _) rfl (by kernel_rfl) (by kernel_rfl) (by kernel_rfl) (by kernel_rfl) (by kernel_rfl) (fun _ _ _ h => h) (yieldsIf_load_mid (by rfl) 32 _ rfl _ _ rfl _ _ (fun w_ hS_ => (hS_.boxGet k1m).range) hdu hdr (infoC' b)) (by assumption) ?_
    simp only [Act.put, List.getElem_toArray, List.getElem_cons_succ, List.getElem_cons_zero, List.setIfInBounds_toArray, List.set_cons_zero, List.set_cons_succ]
    refine wpAnyX_one (i := 2) (by kernel_rfl) rfl (fun K hK => ?_)
    rw [if_pos (show Region.wanted _ _ = true from rfl)]
    refine wp_store_mid 32 _ _ rfl ra 0 (crv a).toArray rfl rfl ((HF.out.boxGet k0m).there 0 14 (Nat.le_refl _)) infoC (all_oneCell_toArray HLA.out) ?_
    have S8 := HF.out.boxTurn ((HF.out.boxGet k0m).setCells (crv a) 0) (gr_sets _ _ _ _)
    rw [over_all zC14 (crv a) rfl] at S8
    refine hK.out _ _ S8.tail.tail (fun hHeld => ?_)
    replace HF := Keep.mk S8
    clear hK K S8
    change Keep (Sep w (World.setCells (World.drew w7) ra 0 (crv a).toArray.toList) _) at HF
    generalize World.setCells (World.drew w7) ra 0 (crv a).toArray.toList = w9 at HF hHeld ⊢
    simp only [Act.put, List.getElem_toArray, List.getElem_cons_succ, List.getElem_cons_zero]
    refine wpAnyX_one (i := 3) (by kernel_rfl) rfl (fun K hK => ?_)
    rw [if_pos (show Region.wanted _ _ = true from rfl)]
    refine wp_store_mid 32 _ _ rfl rb 0 (crv b).toArray rfl rfl ((HF.out.boxGet k1m).there 0 14 (Nat.le_refl _)) infoC (all_oneCell_toArray HLB.out) ?_
    have S8 := (HF.out.swap.boxTurn ((HF.out.boxGet k1m).setCells (crv b) 0) (gr_sets _ _ _ _)).swap
    rw [over_all zC14 (crv b) rfl] at S8
    refine hK.out _ _ S8.tail.tail (fun hHeld => ?_)
    replace HF := Keep.mk S8
    clear hK K S8
    change Keep (Sep w (World.setCells w9 rb 0 (crv b).toArray.toList) _) at HF
    generalize World.setCells w9 rb 0 (crv b).toArray.toList = w10 at HF hHeld ⊢
    simp only [Act.put, List.getElem_toArray, List.getElem_cons_succ, List.getElem_cons_zero]
    refine wpAnyX_take (i := 4) (oi := _) (v := ?_) rfl (by kernel_rfl) (by kernel_rfl) (by kernel_rfl) (by kernel_rfl) (by kernel_rfl) (fun _ _ _ h => h) (Or.inl ⟨by rfl, ?_⟩) (by assumption) ?_
    rotate_left
    · (intro w hSw; go_simp; first | done | (with_reducible rfl))
    simp only [Act.put, List.getElem_toArray, List.getElem_cons_succ, List.getElem_cons_zero, List.setIfInBounds_toArray, List.set_cons_zero, List.set_cons_succ]
    refine wpAnyX_done (by kernel_rfl) ?_ _
    go_wp2_with fail
    refine ret_cct rfl rfl rfl (HF.out.boxGet k0m) (HF.out.boxGet k1m) hdu hdr (infoC' a) (infoC' b) rfl ⟨?_, HF.out.g⟩
    rw [(bm_no HN.out).1, (bm_no HN.out).2, HN.out]
    rfl
  have HBB := Keep.mk hb
  have hd2 : decide (0 < b.wa) = false := decide_eq_false hb
  have qa2 : w7.cell? ⟨ab, 2, none⟩ = some (iv a.x) := (HB.out.boxGet k0m).cellv 2 _ rfl
  have qa3 : w7.cell? ⟨ab, 3, none⟩ = some (iv a.y) := (HB.out.boxGet k0m).cellv 3 _ rfl
  have qb2 : w7.cell? ⟨bb, 2, none⟩ = some (iv b.x) := (HB.out.boxGet k1m).cellv 2 _ rfl
  have qb3 : w7.cell? ⟨bb, 3, none⟩ = some (iv b.y) := (HB.out.boxGet k1m).cellv 3 _ rfl
  have hWI := HWI.out w7 HB.out.g
  have HBM := Keep.mk (bmp_yes (Int.not_lt.2 HA.out) hb)
  clear HWI hWa hWb
  generalize wn (d2 a.x a.y b.x b.y) 163840 = r at hWI HBM
  cases r
  · have HN := Keep.mk HBM.out
    go_wp2_with (first
      | (show wpList _ _ _ ({ dst := _, op := Op.load 32 (Operand.tmp 2), type := _, pos := _, after := _, guard := _ } :: _) _ _
         refine load_g (by rfl) 32 _ rfl _ _ rfl _ _ RNa.out hdu hdr (infoC' a) ?_)
      | (show wpList _ _ _ ({ dst := _, op := Op.load 32 (Operand.tmp 3), type := _, pos := _, after := _, guard := _ } :: _) _ _
         refine load_g (by rfl) 32 _ rfl _ _ rfl _ _ RNb.out hdu hdr (infoC' b) ?_))
    refine (hWI).mono ?_
    rintro e w8 ⟨rfl, g_⟩
    replace HB := Keep.mk (HB.out.grown g_)
    replace RNa := Keep.mk (HB.out.boxGet k0m).range
    replace RNb := Keep.mk (HB.out.boxGet k1m).range
    clear g_
    clear hWI qa2 qa3 qb2 qb3
    go_wp2_with (first
      | (show wpList _ _ _ ({ dst := _, op := Op.load 32 (Operand.tmp 2), type := _, pos := _, after := _, guard := _ } :: _) _ _
         refine load_g (by rfl) 32 _ rfl _ _ rfl _ _ RNa.out hdu hdr (infoC' a) ?_)
      | (show wpList _ _ _ ({ dst := _, op := Op.load 32 (Operand.tmp 3), type := _, pos := _, after := _, guard := _ } :: _) _ _
         refine load_g (by rfl) 32 _ rfl _ _ rfl _ _ RNb.out hdu hdr (infoC' b) ?_))
    have HLA := Keep.mk (crv_one a)
    have HLB := Keep.mk (crv_one b)
    have HF0 : Keep (Sep w _ [boxA ra zC14 32, boxA rb zC14 32, boxA ab (crv a) 32, boxA bb (crv b) 32]) := ⟨HB.out.perm (List.perm_append_comm (l₁ := [boxA ab (crv a) 32, boxA bb (crv b) 32]) (l₂ := [boxA ra zC14 32, boxA rb zC14 32]))⟩
    have HF := Keep.mk (HF0.out.grown (gr_drew _ none))
    clear HF0 HB
    refine region_X (S := fun w' => Sep w w' [boxA ab (crv a) 32, boxA bb (crv b) 32]) [] (by kernel_rfl) (HF.out.tail.tail) (fun hHeld => ?_)
    refine wpAnyX_take (i := 0) (oi := _) (v := _) rfl (by kernel_rfl) (by kernel_rfl) (by kernel_rfl) (by kernel_rfl) (by kernel_rfl) (fun _ _ _ h => h) (yieldsIf_load_mid (by rfl) 32 _ rfl _ _ rfl _ _ (fun w_ hS_ => (hS_.boxGet k0m).range) hdu hdr (infoC' a)) (by assumption) ?_
    simp only [Act.put, List.getElem_toArray, List.getElem_cons_zero, List.setIfInBounds_toArray, List.set_cons_zero, List.set_cons_succ]
    refine wpAnyX_take (i := 1) (oi := _) (v := _) rfl (by kernel_rfl) (by kernel_rfl) (by kernel_rfl) (by kernel_rfl) (by kernel_rfl) (fun _ _ _ h => h) (yieldsIf_load_mid (by rfl) 32 _ rfl _ _ rfl _ _ (fun w_ hS_ => (hS_.boxGet k1m).range) hdu hdr (infoC' b)) (by assumption) ?_
    simp only [Act.put, List.getElem_toArray, List.getElem_cons_succ, List.getElem_cons_zero, List.setIfInBounds_toArray, List.set_cons_zero, List.set_cons_succ]
    refine wpAnyX_one (i := 2) (by kernel_rfl) rfl (fun K hK => ?_)
    rw [if_pos (show Region.wanted _ _ = true from rfl)]
    refine wp_store_mid 32 _ _ rfl ra 0 (crv a).toArray rfl rfl ((HF.out.boxGet k0m).there 0 14 (Nat.le_refl _)) infoC (all_oneCell_toArray HLA.out) ?_
    have S8 := HF.out.boxTurn ((HF.out.boxGet k0m).setCells (crv a) 0) (gr_sets _ _ _ _)
    rw [over_all zC14 (crv a) rfl] at S8
    refine hK.out _ _ S8.tail.tail (fun hHeld => ?_)
    replace HF := Keep.mk S8
    clear hK K S8
    change Keep (Sep w (World.setCells (World.drew w8) ra 0 (crv a).toArray.toList) _) at HF
    generalize World.setCells (World.drew w8) ra 0 (crv a).toArray.toList = w9 at HF hHeld ⊢
    simp only [Act.put, List.getElem_toArray, List.getElem_cons_succ, List.getElem_cons_zero]
    refine wpAnyX_one (i := 3) (by kernel_rfl) rfl (fun K hK => ?_)
    rw [if_pos (show Region.wanted _ _ = true from rfl)]
    refine wp_store_mid 32 _ _ rfl rb 0 (crv b).toArray rfl rfl ((HF.out.boxGet k1m).there 0 14 (Nat.le_refl _)) infoC (all_oneCell_toArray HLB.out) ?_
    have S8 := (HF.out.swap.boxTurn ((HF.out.boxGet k1m).setCells (crv b) 0) (gr_sets _ _ _ _)).swap
    rw [over_all zC14 (crv b) rfl] at S8
    refine hK.out _ _ S8.tail.tail (fun hHeld => ?_)
    replace HF := Keep.mk S8
    clear hK K S8
    change Keep (Sep w (World.setCells w9 rb 0 (crv b).toArray.toList) _) at HF
    generalize World.setCells w9 rb 0 (crv b).toArray.toList = w10 at HF hHeld ⊢
    simp only [Act.put, List.getElem_toArray, List.getElem_cons_succ, List.getElem_cons_zero]
    refine wpAnyX_take (i := 4) (oi := _) (v := ?_) rfl (by kernel_rfl) (by kernel_rfl) (by kernel_rfl) (by kernel_rfl) (by kernel_rfl) (fun _ _ _ h => h) (Or.inl ⟨by rfl, ?_⟩) (by assumption) ?_
    rotate_left
    · (intro w hSw; go_simp; first | done | (with_reducible rfl))
    simp only [Act.put, List.getElem_toArray, List.getElem_cons_succ, List.getElem_cons_zero, List.setIfInBounds_toArray, List.set_cons_zero, List.set_cons_succ]
    refine wpAnyX_done (by kernel_rfl) ?_ _
    go_wp2_with fail
    refine ret_cct rfl rfl rfl (HF.out.boxGet k0m) (HF.out.boxGet k1m) hdu hdr (infoC' a) (infoC' b) rfl ⟨?_, HF.out.g⟩
    rw [(bm_no HN.out).1, (bm_no HN.out).2, HN.out]
    rfl
  · have HY := Keep.mk HBM.out
    go_wp2_with (first
      | (show wpList _ _ _ ({ dst := _, op := Op.load 32 (Operand.tmp 2), type := _, pos := _, after := _, guard := _ } :: _) _ _
         refine load_g (by rfl) 32 _ rfl _ _ rfl _ _ RNa.out hdu hdr (infoC' a) ?_)
      | (show wpList _ _ _ ({ dst := _, op := Op.load 32 (Operand.tmp 3), type := _, pos := _, after := _, guard := _ } :: _) _ _
         refine load_g (by rfl) 32 _ rfl _ _ rfl _ _ RNb.out hdu hdr (infoC' b) ?_))
    refine (hWI).mono ?_
    rintro e w8 ⟨rfl, g_⟩
    replace HB := Keep.mk (HB.out.grown g_)
    replace RNa := Keep.mk (HB.out.boxGet k0m).range
    replace RNb := Keep.mk (HB.out.boxGet k1m).range
    clear g_
    clear hWI qa2 qa3 qb2 qb3 RNa RNb
    have HS8 := HB
    have qa4 : w8.cell? ⟨ab, 4, none⟩ = some (iv a.sx) := (HB.out.boxGet k0m).cellv 4 _ rfl
    have qa5 : w8.cell? ⟨ab, 5, none⟩ = some (iv a.sy) := (HB.out.boxGet k0m).cellv 5 _ rfl
    have qb4 : w8.cell? ⟨bb, 4, none⟩ = some (iv b.sx) := (HB.out.boxGet k1m).cellv 4 _ rfl
    have qb5 : w8.cell? ⟨bb, 5, none⟩ = some (iv b.sy) := (HB.out.boxGet k1m).cellv 5 _ rfl
    have fa4 : w8.frozen? ⟨ab, 4, none⟩ = false := (HB.out.boxGet k0m).frozen 4
    have fa5 : w8.frozen? ⟨ab, 5, none⟩ = false := (HB.out.boxGet k0m).frozen 5
    have S1 := HB.out.boxPut 4 (iv b.sx)
    obtain ⟨v1, hv1⟩ : ∃ v1, w8.setCell ⟨ab, 4, none⟩ (iv b.sx) = v1 := ⟨_, rfl⟩
    rw [hv1] at S1
    have ra5 : v1.cell? ⟨ab, 5, none⟩ = some (iv a.sy) := (S1.boxGet k0m).cellv 5 _ rfl
    have ga5 : v1.frozen? ⟨ab, 5, none⟩ = false := (S1.boxGet k0m).frozen 5
    have S2 := S1.boxPut 5 (iv b.sy)
    obtain ⟨v2, hv2⟩ : ∃ v2, v1.setCell ⟨ab, 5, none⟩ (iv b.sy) = v2 := ⟨_, rfl⟩
    rw [hv2] at S2
    have rb4 : v2.cell? ⟨bb, 4, none⟩ = some (iv b.sx) := (S2.boxGet k1m).cellv 4 _ rfl
    have gb4 : v2.frozen? ⟨bb, 4, none⟩ = false := (S2.boxGet k1m).frozen 4
    have rb5' : v2.cell? ⟨bb, 5, none⟩ = some (iv b.sy) := (S2.boxGet k1m).cellv 5 _ rfl
    have gb5' : v2.frozen? ⟨bb, 5, none⟩ = false := (S2.boxGet k1m).frozen 5
    have S3 := S2.swap.boxPut 4 (iv a.sx)
    obtain ⟨v3, hv3⟩ : ∃ v3, v2.setCell ⟨bb, 4, none⟩ (iv a.sx) = v3 := ⟨_, rfl⟩
    rw [hv3] at S3
    have rb5 : v3.cell? ⟨bb, 5, none⟩ = some (iv b.sy) := (S3.boxGet k0m).cellv 5 _ rfl
    have gb5 : v3.frozen? ⟨bb, 5, none⟩ = false := (S3.boxGet k0m).frozen 5
    have S4 := S3.boxPut 5 (iv a.sy)
    obtain ⟨v4, hv4⟩ : ∃ v4, v3.setCell ⟨bb, 5, none⟩ (iv a.sy) = v4 := ⟨_, rfl⟩
    rw [hv4] at S4
    have S5 : Sep w v4 [boxA ab (crv { a with sx := b.sx, sy := b.sy }) 32, boxA bb (crv { b with sx := a.sx, sy := a.sy }) 32, boxA ra zC14 32, boxA rb zC14 32] := S4.swap
    obtain ⟨a2, ha2⟩ : ∃ a2 : Cr, ({ a with sx := b.sx, sy := b.sy } : Cr) = a2 := ⟨_, rfl⟩
    obtain ⟨b2, hb2⟩ : ∃ b2 : Cr, ({ b with sx := a.sx, sy := a.sy } : Cr) = b2 := ⟨_, rfl⟩
    rw [ha2, hb2] at S5
    have HE := Keep.mk (bm_yes HY.out)
    rw [ha2, hb2] at HE
    replace HB := Keep.mk S5
    clear S1 S2 S3 S4 S5 HS8 ha2 hb2
    go_wp2_with fail
    have HLA := Keep.mk (crv_one a2)
    have HLB := Keep.mk (crv_one b2)
    have HF0 : Keep (Sep w _ [boxA ra zC14 32, boxA rb zC14 32, boxA ab (crv a2) 32, boxA bb (crv b2) 32]) := ⟨HB.out.perm (List.perm_append_comm (l₁ := [boxA ab (crv a2) 32, boxA bb (crv b2) 32]) (l₂ := [boxA ra zC14 32, boxA rb zC14 32]))⟩
    have HF := Keep.mk (HF0.out.grown (gr_drew _ none))
    clear HF0 HB
    refine region_X (S := fun w' => Sep w w' [boxA ab (crv a2) 32, boxA bb (crv b2) 32]) [] (by kernel_rfl) (HF.out.tail.tail) (fun hHeld => ?_)
    refine wpAnyX_take (i := 0) (oi := _) (v := _) rfl (by kernel_rfl) (by kernel_rfl) (by kernel_rfl) (by kernel_rfl) (by kernel_rfl) (fun _ _ _ h => h) (yieldsIf_load_mid (by rfl) 32 _ rfl _ _ rfl _ _ (fun w_ hS_ => (hS_.boxGet k0m).range) hdu hdr (infoC' a2)) (by assumption) ?_
    simp only [Act.put, List.getElem_toArray, List.getElem_cons_zero, List.setIfInBounds_toArray, List.set_cons_zero, List.set_cons_succ]
    refine wpAnyX_take (i := 1) (oi := _) (v := _) rfl (by kernel_rfl) (by kernel_rfl) (by kernel_rfl) (by kernel_rfl) (by kernel_rfl) (fun _ _ _ h => h) (yieldsIf_load_mid (by rfl) 32 _ rfl _ _ rfl _ _ (fun w_ hS_ => (hS_.boxGet k1m).range) hdu hdr (infoC' b2)) (by assumption) ?_
    simp only [Act.put, List.getElem_toArray, List.getElem_cons_succ, List.getElem_cons_zero, List.setIfInBounds_toArray, List.set_cons_zero, List.set_cons_succ]
    refine wpAnyX_one (i := 2) (by kernel_rfl) rfl (fun K hK => ?_)
    rw [if_pos (show Region.wanted _ _ = true from rfl)]
    refine wp_store_mid 32 _ _ rfl ra 0 (crv a2).toArray rfl rfl ((HF.out.boxGet k0m).there 0 14 (Nat.le_refl _)) infoC (all_oneCell_toArray HLA.out) ?_
    have S8 := HF.out.boxTurn ((HF.out.boxGet k0m).setCells (crv a2) 0) (gr_sets _ _ _ _)
    rw [over_all zC14 (crv a2) rfl] at S8
    refine hK.out _ _ S8.tail.tail (fun hHeld => ?_)
    replace HF := Keep.mk S8
    clear hK K S8
    change Keep (Sep w (World.setCells (World.drew v4) ra 0 (crv a2).toArray.toList) _) at HF
    generalize World.setCells (World.drew v4) ra 0 (crv a2).toArray.toList = w9 at HF hHeld ⊢
    simp only [Act.put, List.getElem_toArray, List.getElem_cons_succ, List.getElem_cons_zero]
    refine wpAnyX_one (i := 3) (by kernel_rfl) rfl (fun K hK => ?_)
    rw [if_pos (show Region.wanted _ _ = true from rfl)]
    refine wp_store_mid 32 _ _ rfl rb 0 (crv b2).toArray rfl rfl ((HF.out.boxGet k1m).there 0 14 (Nat.le_refl _)) infoC (all_oneCell_toArray HLB.out) ?_
    have S8 := (HF.out.swap.boxTurn ((HF.out.boxGet k1m).setCells (crv b2) 0) (gr_sets _ _ _ _)).swap
    rw [over_all zC14 (crv b2) rfl] at S8
    refine hK.out _ _ S8.tail.tail (fun hHeld => ?_)
    replace HF := Keep.mk S8
    clear hK K S8
    change Keep (Sep w (World.setCells w9 rb 0 (crv b2).toArray.toList) _) at HF
    generalize World.setCells w9 rb 0 (crv b2).toArray.toList = w10 at HF hHeld ⊢
    simp only [Act.put, List.getElem_toArray, List.getElem_cons_succ, List.getElem_cons_zero]
    refine wpAnyX_take (i := 4) (oi := _) (v := ?_) rfl (by kernel_rfl) (by kernel_rfl) (by kernel_rfl) (by kernel_rfl) (by kernel_rfl) (fun _ _ _ h => h) (Or.inl ⟨by rfl, ?_⟩) (by assumption) ?_
    rotate_left
    · (intro w hSw; go_simp; first | done | (with_reducible rfl))
    simp only [Act.put, List.getElem_toArray, List.getElem_cons_succ, List.getElem_cons_zero, List.setIfInBounds_toArray, List.set_cons_zero, List.set_cons_succ]
    refine wpAnyX_done (by kernel_rfl) ?_ _
    go_wp2_with fail
    refine ret_cct rfl rfl rfl (HF.out.boxGet k0m) (HF.out.boxGet k1m) hdu hdr (infoC' a2) (infoC' b2) rfl ⟨?_, HF.out.g⟩
    rw [HE.out.1, HE.out.2, HY.out]
    rfl
end Go.Proofs.YtobdcngjpgndiaaDoor.Bo
