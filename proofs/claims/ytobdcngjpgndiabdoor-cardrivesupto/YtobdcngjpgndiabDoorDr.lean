/- the reference's Drive -/
import Derived.Test.YtobdcngjpgndiabDoorD2
import Derived.Test.YtobdcngjpgndiabDoorG5
import Derived.Test.YtobdcngjpgndiabDoorBRA2
import Derived.Test.YtobdcngjpgndiabDoorV4
import Derived.Test.YtobdcngjpgndiabDoorV5
import Derived.OwnWalk
import Derived.Deep.DeepCutAuto
import Derived.ChangeArms
namespace Go.Proofs.YtobdcngjpgndiabDoor.Bo
open Go Go.RowKit

theorem clamp8 (x : Int) : clampZ x (-8) 8 = min (max x (-8)) 8 := by unfold clampZ; (repeat' split) <;> omega
theorem vv_one (x y : Int) : ∀ v ∈ [iv x, iv y], v.oneCell' = true := by
  intro v hv
  simp only [List.mem_cons, List.not_mem_nil, or_false] at hv
  rcases hv with rfl | rfl <;> rfl
theorem gr_eq {w w' : World} (h : w' = w) : w.grownBy w' none := by rw [h]; exact (Sep.nil w).g
theorem rdown_g (a b : Int) (ha : In a) (hb : 1 < b) (hb2 : b ≤ 100) (w : World) :
    Calls Tryd.prog 13 #[iv a, iv b] w fun e w' => e = .returned (iv (a / b)) ∧ w.grownBy w' none := (rdown_c a b ha hb hb2 w).mono fun _ _ h => ⟨h.1, gr_eq h.2⟩
theorem rfadd_g (a b : Int) (ha : In a) (hb : In b) (w : World) :
    Calls Tryd.prog 18 #[iv a, iv b] w fun e w' => e = .returned (iv (addZ a b)) ∧ w.grownBy w' none := (rfadd_c a b ha hb w).mono fun _ _ h => ⟨h.1, gr_eq h.2⟩
section
variable {P : Program} {ops : Array Oper} {Q : Exit → Act → World → Prop} {md : Region.Mode} {S : World → Prop} {Z : List Nat}
theorem wpAnyX_two {i j : Nat} {o p : Oper} {n : Nat} {L : Array Bool} {a : Act} {w : World} (hr : Region.ready md ops L = [i, j]) (ho : ops[i]? = some o) (hp : ops[j]? = some p)
    (h : ∀ K' : Act → World → Prop, Shut (∀ a w, S w → (S w → wpAnyX P md ops Q S Z n (L.setIfInBounds i true) a w) → K' a w) → if Region.wanted o (yielded ops a.tmps) = true then Oper.wp P o a w K' Q else K' (a.put o.dst undef) w)
    (k : ∀ K' : Act → World → Prop, Shut (∀ a w, S w → (S w → wpAnyX P md ops Q S Z n (L.setIfInBounds j true) a w) → K' a w) → if Region.wanted p (yielded ops a.tmps) = true then Oper.wp P p a w K' Q else K' (a.put p.dst undef) w) : wpAnyX P md ops Q S Z (n + 1) L a w :=
  ⟨fun h0 => (by rw [hr] at h0; cases h0), fun l hl => by
    rw [hr] at hl
    rcases List.mem_cons.1 hl with rfl | hl
    · exact wpOp_step ho (fun K' hK => h K' (fun a w hS hW => hK a w ⟨fun _ => hS, hW hS⟩))
    · rw [List.mem_singleton] at hl
      subst hl
      exact wpOp_step hp (fun K' hK => k K' (fun a w hS hW => hK a w ⟨fun _ => hS, hW hS⟩))⟩
end
set_option maxRecDepth 100000 in
set_option maxHeartbeats 32000000 in
theorem rdrive_c (w : World) (v : Value) (L : Bo) (c : Cr) (i : It) (ok : CrOk c) (hB : RB w v L) (hk : Kc w) :
    Calls Tryd.prog 6 #[v, .agg (crv c).toArray, .agg (itv i).toArray] w fun e w' => e = .returned (.agg (crv (drvC L c i)).toArray) ∧ w.grownBy w' none := by
  obtain ⟨du, hdu, hdr⟩ := underC
  obtain ⟨dv, hdv, hdvr⟩ := underVc
  obtain ⟨kb, kr, cr, hv, hrest⟩ := hB.o
  clear hrest
  subst hv
  have HBL := Keep.mk (fun W x y (g : w.grownBy W none) (hx : In x) (hy : In y) => rblocked_c W (pt kb) L (hB.kept g) x y 98304 hx hy ⟨by decide, by decide⟩)
  have HUN := Keep.mk (fun W h (g : w.grownBy W none) (hh : In h) => runit_c h hh W (hk.kept g))
  have HL1 := Keep.mk (crv_one c)
  have S3 := (((Sep.nil w).newBox (crv c).toArray 25).newBox (itv i).toArray 34).newBox zC14.toArray 25
  obtain ⟨W1, hW1⟩ : ∃ W1, w.alloc (.cells (crv c).toArray 25) = W1 := ⟨_, rfl⟩
  obtain ⟨xb, hxb⟩ : ∃ xb, w.heap.size = xb := ⟨_, rfl⟩
  rw [hW1, hxb] at S3
  obtain ⟨W2, hW2⟩ : ∃ W2, W1.alloc (.cells (itv i).toArray 34) = W2 := ⟨_, rfl⟩
  obtain ⟨ib, hib⟩ : ∃ ib, W1.heap.size = ib := ⟨_, rfl⟩
  rw [hW2, hib] at S3
  obtain ⟨W3, hW3⟩ : ∃ W3, W2.alloc (.cells zC14.toArray 25) = W3 := ⟨_, rfl⟩
  obtain ⟨rb, hrb⟩ : ∃ rb, W2.heap.size = rb := ⟨_, rfl⟩
  rw [hW3, hrb] at S3
  change Sep w W3 [boxA rb zC14 25, boxA ib (itv i) 34, boxA xb (crv c) 25] at S3
  have hsz : (crv c).toArray.size = 14 := rfl
  have hsi : (itv i).toArray.size = 5 := rfl
  unfold zC14 crv zC at hW3
  change W2.alloc _ = W3 at hW3
  have HS := Keep.mk S3
  have RNG := Keep.mk (S3.boxGet k2m).range
  have HRB := Keep.mk (S3.boxGet k0m)
  have y11 : W3.cell? ⟨xb, 11, none⟩ = some (iv c.wa) := (S3.boxGet k2m).cellv 11 _ rfl
  clear hB hk S3
  by_cases hwr : 0 < c.wa
  · have hdw : decide (0 < c.wa) = true := decide_eq_true hwr
    have HD : Keep (drvC L c i = c) := ⟨by unfold drvC; rw [if_pos hwr]⟩
    rw [HD.out]
    clear HD HBL HUN ok
    go_enter Tryd.func6, Tryd.ntmps6
    go_wp2_with (first
      | (show wpList _ _ _ ({ dst := _, op := Op.load 25 _, type := _, pos := _, after := _, guard := _ } :: _) _ _
         refine wpList_load_mid rfl 25 _ rfl _ _ rfl _ _ RNG.out hdu hdr (infoC' c) ?_)
      | (show wpList _ _ _ ({ dst := _, op := Op.store 25 _ _, type := _, pos := _, after := _, guard := _ } :: _) _ _
         refine store_at _ rb 0 zC14 (crv c) 25 25 rfl rfl rfl rfl HRB.out (Nat.le_refl _) (infoC' c) HL1.out ?_))
    intro w7 hS7 g7
    have S7 := hS7 _ _ HS.out
    rw [over_all zC14 (crv c) rfl] at S7
    have HS7 := Keep.mk S7
    clear hS7 g7 S7 RNG HRB HS
    go_wp2_with fail
    exact ret_c rfl rfl (HS7.out.boxGet k0m) hdu hdr (infoC' c) rfl ⟨rfl, HS7.out.g⟩
  have hdw : decide (0 < c.wa) = false := decide_eq_false hwr
  have HD : Keep (stY L (stX L (stL (stS (stP (stB (stH c i) i) (pwB (stH c i) i (pw0 i)))))) = drvC L c i) := ⟨by unfold drvC; rw [if_neg hwr]⟩
  generalize drvC L c i = cF at HD ⊢
  clear RNG HRB HL1
  have hT := Keep.mk (fun W => rclamp_c i.th (-100) 100 W)
  have hU := Keep.mk (fun W => rclamp_c i.tu (-8) 8 W)
  have hTu := Keep.mk (fun W => rturn_c c.hd (clampZ i.tu (-8) 8) W)
  have hpw : pw0 i = clampZ i.th (-100) 100 * 4096 / 100 := rfl
  have hst : stH c i = { c with hd := (c.hd + clampZ i.tu (-8) 8) % 256 } := by unfold stH; rw [clamp8]
  have hb := clamp_in i.th
  generalize clampZ i.th (-100) 100 = T at *
  generalize clampZ i.tu (-8) 8 = U at *
  have hd1 : 0 ≤ (c.hd + U) % 256 ∧ (c.hd + U) % 256 < 256 := by omega
  generalize (c.hd + U) % 256 = h1 at *
  have hpi : -4096 ≤ pw0 i ∧ pw0 i ≤ 4096 := pw0_in i
  have e1 : IntKind.i64.wrap (T * 4096) = T * 4096 := wi _ (by omega) (by omega)
  have hDn := Keep.mk (fun W => rdown_c (T * 4096) 100 ⟨by omega, by omega⟩ (by decide) (by decide) W)
  rw [← hpw] at hDn
  clear hb hpw
  have z1 : W3.cell? ⟨ib, 1, none⟩ = some (iv i.th) := (HS.out.boxGet k1m).cellv 1 _ rfl
  have z2 : W3.cell? ⟨ib, 2, none⟩ = some (iv i.tu) := (HS.out.boxGet k1m).cellv 2 _ rfl
  have y6 : W3.cell? ⟨xb, 6, none⟩ = some (iv c.hd) := (HS.out.boxGet k2m).cellv 6 _ rfl
  have f6 : W3.frozen? ⟨xb, 6, none⟩ = false := (HS.out.boxGet k2m).frozen 6
  have S_ := (fr1 [boxA rb zC14 25, boxA ib (itv i) 34] HS.out).boxPut 6 (iv h1)
  obtain ⟨W4, hW4⟩ : ∃ W_, W3.setCell ⟨xb, 6, none⟩ (iv h1) = W_ := ⟨_, rfl⟩
  rw [hW4] at S_
  change Sep w W4 [boxA xb (crv { c with hd := h1 }) 25, boxA rb zC14 25, boxA ib (itv i) 34] at S_
  rw [← hst] at S_
  have hch : (stH c i).hd = h1 := by rw [hst]
  have ok1 : CrOk (stH c i) := by rw [hst]; exact ⟨ok.nm, ok.pl, ok.x, ok.y, ok.sx, ok.sy, ⟨by show _ ≤ h1; omega, by show h1 ≤ _; omega⟩, ok.he, ok.en, ok.am, ok.co, ok.wa, ok.sp, ok.sc⟩
  replace HS := Keep.mk S_
  clear S_ hst ok hd1
  generalize stH c i = c1 at *
  have HOK := Keep.mk ok1
  clear ok1
  go_enter Tryd.func6, Tryd.ntmps6
  go_wp2_with fail
  refine (hT.out _).mono ?_
  rintro e w_ ⟨rfl, hw_⟩
  rw [hw_]
  clear hw_ hT
  go_wp2_with fail
  refine (hU.out _).mono ?_
  rintro e w_ ⟨rfl, hw_⟩
  rw [hw_]
  clear hw_ hU
  go_wp2_with fail
  refine (hTu.out _).mono ?_
  rintro e w_ ⟨rfl, hw_⟩
  rw [hw_]
  clear hw_ hTu
  go_wp2_with fail
  refine (hDn.out _).mono ?_
  rintro e w_ ⟨rfl, hw_⟩
  rw [hw_]
  clear hw_ hDn w_ e1 y6 f6 z1 z2 y11 hW4 hW1 hW2 hW3 hxb hib hrb hsz hsi hch hdw hwr
  go_upto_region 7 with fail
  go_cut [36] (fun sv wx => ∃ u, u = wx ∧ sv = .bool (bst c1 i) ∧ Keep (Sep w u [boxA xb (crv c1) 25, boxA rb zC14 25, boxA ib (itv i) 34]))
  case first =>
    have z4 : W4.cell? ⟨ib, 4, none⟩ = some (.bool i.bo) := (HS.out.boxGet k2m).cellv 4 _ rfl
    have y8 : W4.cell? ⟨xb, 8, none⟩ = some (iv c1.en) := (HS.out.boxGet k0m).cellv 8 _ rfl
    have HQ : Keep (bst c1 i = (i.bo && decide (4 ≤ c1.en))) := ⟨rfl⟩
    generalize bst c1 i = q at *
    cases hbo : i.bo with
    | false =>
      rw [hbo] at z4 HQ
      go_wp2_with fail
      go_meet
      exact ⟨_, rfl, by rw [HQ.out]; rfl, HS⟩
    | true =>
      rw [hbo] at z4 HQ
      by_cases h4 : 4 ≤ c1.en
      · have hd4 : decide (4 ≤ c1.en) = true := decide_eq_true h4
        rw [hd4] at HQ
        go_wp2_with fail
        go_meet
        exact ⟨_, rfl, by rw [HQ.out]; rfl, HS⟩
      · have hd4 : decide (4 ≤ c1.en) = false := decide_eq_false h4
        rw [hd4] at HQ
        go_wp2_with fail
        go_meet
        exact ⟨_, rfl, by rw [HQ.out]; rfl, HS⟩
  case rest =>
  clear HS
  obtain ⟨W4, rfl, rfl, HS⟩ := hcut
  go_upto_if 36 with fail
  go_cut [9] (fun sv wx => ∃ u, u = wx ∧ sv = iv (pwB c1 i (pw0 i)) ∧ Keep (Sep w u [boxA xb (crv (stB c1 i)) 25, boxA rb zC14 25, boxA ib (itv i) 34]))
  case first =>
    have y8 : W4.cell? ⟨xb, 8, none⟩ = some (iv c1.en) := (HS.out.boxGet k0m).cellv 8 _ rfl
    have f8 : W4.frozen? ⟨xb, 8, none⟩ = false := (HS.out.boxGet k0m).frozen 8
    have hq1 : bst c1 i = true → 4 ≤ c1.en := fun h => by unfold bst at h; simp at h; exact h.2
    have hp1 : pwB c1 i (pw0 i) = if bst c1 i = true then pw0 i * 2 else pw0 i := rfl
    have hs1 : stB c1 i = if bst c1 i = true then { c1 with en := c1.en - 4 } else c1 := rfl
    generalize pwB c1 i (pw0 i) = p2 at *
    generalize stB c1 i = c2 at *
    generalize pw0 i = p at *
    cases hbs : bst c1 i with
    | false =>
      rw [hbs] at hp1 hs1
      go_wp2_with fail
      go_meet
      exact ⟨_, rfl, by rw [hp1]; rfl, by rw [hs1]; exact HS⟩
    | true =>
      have h4 := hq1 hbs
      rw [hbs] at hp1 hs1
      have q2 : c2 = { c1 with en := c1.en - 4 } := hs1
      have e2 : IntKind.i64.wrap (2 * p) = p * 2 := by rw [wi _ (by omega) (by omega)]; omega
      have e3 : IntKind.i64.wrap (c1.en - 4) = c1.en - 4 := by have := HOK.out.en; exact wi _ (by omega) (by have := this.2; omega)
      have S_ := HS.out.boxPut 8 (iv (c1.en - 4))
      obtain ⟨W5, hW5⟩ : ∃ W_, W4.setCell ⟨xb, 8, none⟩ (iv (c1.en - 4)) = W_ := ⟨_, rfl⟩
      rw [hW5] at S_
      change Sep w W5 [boxA xb (crv { c1 with en := c1.en - 4 }) 25, boxA rb zC14 25, boxA ib (itv i) 34] at S_
      rw [← q2] at S_
      have HS5 := Keep.mk S_
      clear S_ hq1
      go_wp2_with fail
      go_meet
      exact ⟨_, rfl, by rw [hp1]; rfl, HS5⟩
  case rest =>
  clear HS
  obtain ⟨W5, rfl, rfl, HS⟩ := hcut
  have hf := stB_f c1 i
  have hp2 := pwB_in c1 i
  have HOK2 : Keep (In (stB c1 i).sx ∧ In (stB c1 i).sy ∧ In (stB c1 i).x ∧ In (stB c1 i).y ∧ In (stB c1 i).hd) := ⟨by rw [hf.1, hf.2.1, hf.2.2.1, hf.2.2.2.1, hf.2.2.2.2]; exact ⟨HOK.out.sx, HOK.out.sy, HOK.out.x, HOK.out.y, HOK.out.hd⟩⟩
  clear hf HOK hpi
  generalize stB c1 i = c2 at *
  generalize pwB c1 i (pw0 i) = p2 at *
  have HU1 := Keep.mk (fun W (g : w.grownBy W none) => HUN.out W c2.hd g HOK2.out.2.2.2.2)
  have HM1 := Keep.mk (fun w => rscale_c (sinZ (c2.hd + 64)) (sinZ c2.hd) p2 (sin_in _) (sin_in _) (p_in hp2) w)
  have HA1 := Keep.mk (fun w => radd_c c2.sx c2.sy (mulZ (sinZ (c2.hd + 64)) p2) (mulZ (sinZ c2.hd) p2) HOK2.out.1 HOK2.out.2.1 (mulZ_in _ _) (mulZ_in _ _) w)
  have hx3 : addZ c2.sx (mulZ (sinZ (c2.hd + 64)) p2) = (stP c2 p2).sx := rfl
  have hy3 : addZ c2.sy (mulZ (sinZ c2.hd) p2) = (stP c2 p2).sy := rfl
  have HZ3 : Keep ((-1099511627776 ≤ (stP c2 p2).sx ∧ (stP c2 p2).sx ≤ 1099511627776) ∧ (-1099511627776 ≤ (stP c2 p2).sy ∧ (stP c2 p2).sy ≤ 1099511627776)) := ⟨⟨bd_in _, bd_in _⟩⟩
  rw [hx3, hy3] at HA1
  clear hx3 hy3 HUN hp2
  have HC3 : Keep (stL (stS (stP c2 p2)) = { c2 with sx := (stL (stS (stP c2 p2))).sx, sy := (stL (stS (stP c2 p2))).sy } ∧ (stL (stS (stP c2 p2))).sx = kz ((stP c2 p2).sx - (stP c2 p2).sx / 16) (-65536) 65536 ∧ (stL (stS (stP c2 p2))).sy = kz ((stP c2 p2).sy - (stP c2 p2).sy / 16) (-65536) 65536) := ⟨⟨rfl, rfl, rfl⟩⟩
  generalize stL (stS (stP c2 p2)) = c5 at *
  generalize (stP c2 p2).sx = x3 at *
  generalize (stP c2 p2).sy = y3 at *
  generalize sinZ (c2.hd + 64) = s1 at *
  generalize sinZ c2.hd = s2 at *
  generalize mulZ s1 p2 = m1 at *
  generalize mulZ s2 p2 = m2 at *
  go_upto_region 10 with fail
  go_cut [10] (fun sv wx => ∃ vb u, u = wx ∧ sv = pt vb ∧ Keep (Sep w u (boxA vb [iv x3, iv y3] 23 :: [boxA xb (crv c2) 25, boxA rb zC14 25, boxA ib (itv i) 34])))
  case first =>
    have HB := HS
    refine region_X (S := fun w' => Sep w w' [boxA xb (crv c2) 25, boxA rb zC14 25, boxA ib (itv i) 34]) [] (by kernel_rfl) (HB.out.grown (gr_drew _ _)) (fun hHeld => ?_)
    replace HB := Keep.mk hHeld
    refine wpAnyX_take (i := 0) (oi := _) (v := ?_) rfl (by kernel_rfl) (by kernel_rfl) (by kernel_rfl) (by kernel_rfl) (by kernel_rfl) (fun _ _ _ h => h) (Or.inl ⟨by rfl, ?_⟩) (by assumption) ?_
    rotate_left
    · (intro w hSw; go_simp; first | done | (with_reducible rfl))
    simp only [Act.put, List.getElem_toArray, List.getElem_cons_zero, List.setIfInBounds_toArray, List.set_cons_zero, List.set_cons_succ]
    refine wpAnyX_take (i := 1) (oi := _) (v := ?_) rfl (by kernel_rfl) (by kernel_rfl) (by kernel_rfl) (by kernel_rfl) (by kernel_rfl) (fun _ _ _ h => h) (Or.inl ⟨by rfl, ?_⟩) (by assumption) ?_
    rotate_left
    · (intro w hSw; have q04 := (hSw.boxGet k0m).cellv 4 _ rfl; have q05 := (hSw.boxGet k0m).cellv 5 _ rfl; go_simp; first | done | (with_reducible rfl))
    simp only [Act.put, List.getElem_toArray, List.getElem_cons_succ, List.getElem_cons_zero, List.setIfInBounds_toArray, List.set_cons_zero, List.set_cons_succ]
    refine wpAnyX_take (i := 2) (oi := _) (v := ?_) rfl (by kernel_rfl) (by kernel_rfl) (by kernel_rfl) (by kernel_rfl) (by kernel_rfl) (fun _ _ _ h => h) (Or.inl ⟨by rfl, ?_⟩) (by assumption) ?_
    rotate_left
    · (intro w hSw; go_simp; first | done | (with_reducible rfl))
    simp only [Act.put, List.getElem_toArray, List.getElem_cons_succ, List.getElem_cons_zero, List.setIfInBounds_toArray, List.set_cons_zero, List.set_cons_succ]
    refine wpAnyX_take (i := 3) (oi := _) (v := ?_) rfl (by kernel_rfl) (by kernel_rfl) (by kernel_rfl) (by kernel_rfl) (by kernel_rfl) (fun _ _ _ h => h) (Or.inl ⟨by rfl, ?_⟩) (by assumption) ?_
    rotate_left
    · (intro w hSw; have q06 := (hSw.boxGet k0m).cellv 6 _ rfl; go_simp; first | done | (with_reducible rfl))
    simp only [Act.put, List.getElem_toArray, List.getElem_cons_succ, List.getElem_cons_zero, List.setIfInBounds_toArray, List.set_cons_zero, List.set_cons_succ]
    refine wpAnyX_take (i := 5) (oi := _) (v := ?_) rfl (by kernel_rfl) (by kernel_rfl) (by kernel_rfl) (by kernel_rfl) (by kernel_rfl) (fun _ _ _ h => h) (Or.inl ⟨by rfl, ?_⟩) (by assumption) ?_
    rotate_left
    · (intro w hSw; go_simp; first | done | (with_reducible rfl))
    simp only [Act.put, List.getElem_toArray, List.getElem_cons_succ, List.getElem_cons_zero, List.setIfInBounds_toArray, List.set_cons_zero, List.set_cons_succ]
    obtain ⟨W0, hW0⟩ : ∃ W_, W5.drew = W_ := ⟨_, rfl⟩
    rw [hW0] at HB hHeld ⊢
    clear hW0
    refine wpAnyX_two (i := 4) (j := 8) (by kernel_rfl) rfl rfl (fun K hK => ?_) (fun K hK => ?_)
    · skip
      go_simp
      refine (HU1.out _ HB.out.g).mono ?_
      rintro e wg ⟨rfl, hg⟩
      replace HB := Keep.mk (HB.out.grown hg)
      refine hK.out _ _ HB.out (fun hHeld => ?_)
      clear hK K hg
      refine wpAnyX_two (i := 6) (j := 8) (by kernel_rfl) rfl rfl (fun K hK => ?_) (fun K hK => ?_)
      · skip
        go_simp
        refine (HM1.out _).mono ?_
        rintro e wg ⟨rfl, hg⟩
        replace HB := Keep.mk (HB.out.grown hg)
        refine hK.out _ _ HB.out (fun hHeld => ?_)
        clear hK K hg
        refine wpAnyX_two (i := 7) (j := 8) (by kernel_rfl) rfl rfl (fun K hK => ?_) (fun K hK => ?_)
        · skip
          go_simp
          refine (HA1.out _).mono ?_
          rintro e wg ⟨rfl, hg⟩
          replace HB := Keep.mk (HB.out.grown hg)
          refine hK.out _ _ HB.out (fun hHeld => ?_)
          clear hK K hg
          refine wpAnyX_one (i := 8) (by kernel_rfl) rfl (fun K hK => ?_)
          have S_ := HB.out.newBox #[iv 0, iv 0] 23
          obtain ⟨wa, hwa⟩ : ∃ W_, wg.alloc (.cells #[iv 0, iv 0] 23) = W_ := ⟨_, rfl⟩
          obtain ⟨vb, hvb⟩ : ∃ b_, wg.heap.size = b_ := ⟨_, rfl⟩
          rw [hwa, hvb] at S_
          change Sep w wa (boxA vb [iv 0, iv 0] 23 :: [boxA xb (crv c2) 25, boxA rb zC14 25, boxA ib (itv i) 34]) at S_
          replace HB := Keep.mk S_
          clear S_
          go_simp
          refine hK.out _ _ HB.out.tail (fun hHeld => ?_)
          clear hK K
          refine wpAnyX_one (i := 9) (by kernel_rfl) rfl (fun K hK => ?_)
          rw [if_pos (show Region.wanted _ _ = true from rfl)]
          refine wp_store_mid 23 _ _ rfl vb 0 [iv x3, iv y3].toArray rfl rfl ((HB.out.boxGet k0m).there 0 2 (Nat.le_refl _)) infoVc (all_oneCell_toArray (vv_one x3 y3)) ?_
          have S_ := HB.out.boxTurn ((HB.out.boxGet k0m).setCells [iv x3, iv y3] 0) (gr_sets _ _ _ _)
          rw [over_all [iv 0, iv 0] [iv x3, iv y3] rfl] at S_
          refine hK.out _ _ S_.tail (fun hHeld => ?_)
          replace HB := Keep.mk S_
          clear hK K S_
          change Keep (Sep w (World.setCells wa vb 0 [iv x3, iv y3].toArray.toList) _) at HB
          generalize World.setCells wa vb 0 [iv x3, iv y3].toArray.toList = w9 at HB hHeld ⊢
          simp only [Act.put, List.getElem_toArray, List.getElem_cons_succ, List.getElem_cons_zero]
          refine wpAnyX_done (by kernel_rfl) ?_ _
          clear hHeld
          go_wp2_with fail
          go_meet
          exact ⟨vb, _, rfl, rfl, HB⟩
        · skip
          have S_ := HB.out.newBox #[iv 0, iv 0] 23
          obtain ⟨wa, hwa⟩ : ∃ W_, wg.alloc (.cells #[iv 0, iv 0] 23) = W_ := ⟨_, rfl⟩
          obtain ⟨vb, hvb⟩ : ∃ b_, wg.heap.size = b_ := ⟨_, rfl⟩
          rw [hwa, hvb] at S_
          change Sep w wa (boxA vb [iv 0, iv 0] 23 :: [boxA xb (crv c2) 25, boxA rb zC14 25, boxA ib (itv i) 34]) at S_
          replace HB := Keep.mk S_
          clear S_
          go_simp
          refine hK.out _ _ HB.out.tail (fun hHeld => ?_)
          clear hK K
          refine wpAnyX_one (i := 7) (by kernel_rfl) rfl (fun K hK => ?_)
          go_simp
          refine (HA1.out _).mono ?_
          rintro e wg ⟨rfl, hg⟩
          replace HB := Keep.mk (HB.out.grown hg)
          refine hK.out _ _ HB.out.tail (fun hHeld => ?_)
          clear hK K hg
          refine wpAnyX_one (i := 9) (by kernel_rfl) rfl (fun K hK => ?_)
          rw [if_pos (show Region.wanted _ _ = true from rfl)]
          refine wp_store_mid 23 _ _ rfl vb 0 [iv x3, iv y3].toArray rfl rfl ((HB.out.boxGet k0m).there 0 2 (Nat.le_refl _)) infoVc (all_oneCell_toArray (vv_one x3 y3)) ?_
          have S_ := HB.out.boxTurn ((HB.out.boxGet k0m).setCells [iv x3, iv y3] 0) (gr_sets _ _ _ _)
          rw [over_all [iv 0, iv 0] [iv x3, iv y3] rfl] at S_
          refine hK.out _ _ S_.tail (fun hHeld => ?_)
          replace HB := Keep.mk S_
          clear hK K S_
          change Keep (Sep w (World.setCells wg vb 0 [iv x3, iv y3].toArray.toList) _) at HB
          generalize World.setCells wg vb 0 [iv x3, iv y3].toArray.toList = w9 at HB hHeld ⊢
          simp only [Act.put, List.getElem_toArray, List.getElem_cons_succ, List.getElem_cons_zero]
          refine wpAnyX_done (by kernel_rfl) ?_ _
          clear hHeld
          go_wp2_with fail
          go_meet
          exact ⟨vb, _, rfl, rfl, HB⟩
      · skip
        have S_ := HB.out.newBox #[iv 0, iv 0] 23
        obtain ⟨wa, hwa⟩ : ∃ W_, wg.alloc (.cells #[iv 0, iv 0] 23) = W_ := ⟨_, rfl⟩
        obtain ⟨vb, hvb⟩ : ∃ b_, wg.heap.size = b_ := ⟨_, rfl⟩
        rw [hwa, hvb] at S_
        change Sep w wa (boxA vb [iv 0, iv 0] 23 :: [boxA xb (crv c2) 25, boxA rb zC14 25, boxA ib (itv i) 34]) at S_
        replace HB := Keep.mk S_
        clear S_
        go_simp
        refine hK.out _ _ HB.out.tail (fun hHeld => ?_)
        clear hK K
        refine wpAnyX_one (i := 6) (by kernel_rfl) rfl (fun K hK => ?_)
        go_simp
        refine (HM1.out _).mono ?_
        rintro e wg ⟨rfl, hg⟩
        replace HB := Keep.mk (HB.out.grown hg)
        refine hK.out _ _ HB.out.tail (fun hHeld => ?_)
        clear hK K hg
        refine wpAnyX_one (i := 7) (by kernel_rfl) rfl (fun K hK => ?_)
        go_simp
        refine (HA1.out _).mono ?_
        rintro e wg ⟨rfl, hg⟩
        replace HB := Keep.mk (HB.out.grown hg)
        refine hK.out _ _ HB.out.tail (fun hHeld => ?_)
        clear hK K hg
        refine wpAnyX_one (i := 9) (by kernel_rfl) rfl (fun K hK => ?_)
        rw [if_pos (show Region.wanted _ _ = true from rfl)]
        refine wp_store_mid 23 _ _ rfl vb 0 [iv x3, iv y3].toArray rfl rfl ((HB.out.boxGet k0m).there 0 2 (Nat.le_refl _)) infoVc (all_oneCell_toArray (vv_one x3 y3)) ?_
        have S_ := HB.out.boxTurn ((HB.out.boxGet k0m).setCells [iv x3, iv y3] 0) (gr_sets _ _ _ _)
        rw [over_all [iv 0, iv 0] [iv x3, iv y3] rfl] at S_
        refine hK.out _ _ S_.tail (fun hHeld => ?_)
        replace HB := Keep.mk S_
        clear hK K S_
        change Keep (Sep w (World.setCells wg vb 0 [iv x3, iv y3].toArray.toList) _) at HB
        generalize World.setCells wg vb 0 [iv x3, iv y3].toArray.toList = w9 at HB hHeld ⊢
        simp only [Act.put, List.getElem_toArray, List.getElem_cons_succ, List.getElem_cons_zero]
        refine wpAnyX_done (by kernel_rfl) ?_ _
        clear hHeld
        go_wp2_with fail
        go_meet
        exact ⟨vb, _, rfl, rfl, HB⟩
    · skip
      have S_ := HB.out.newBox #[iv 0, iv 0] 23
      obtain ⟨wa, hwa⟩ : ∃ W_, W0.alloc (.cells #[iv 0, iv 0] 23) = W_ := ⟨_, rfl⟩
      obtain ⟨vb, hvb⟩ : ∃ b_, W0.heap.size = b_ := ⟨_, rfl⟩
      rw [hwa, hvb] at S_
      change Sep w wa (boxA vb [iv 0, iv 0] 23 :: [boxA xb (crv c2) 25, boxA rb zC14 25, boxA ib (itv i) 34]) at S_
      replace HB := Keep.mk S_
      clear S_
      go_simp
      refine hK.out _ _ HB.out.tail (fun hHeld => ?_)
      clear hK K
      refine wpAnyX_one (i := 4) (by kernel_rfl) rfl (fun K hK => ?_)
      go_simp
      refine (HU1.out _ HB.out.g).mono ?_
      rintro e wg ⟨rfl, hg⟩
      replace HB := Keep.mk (HB.out.grown hg)
      refine hK.out _ _ HB.out.tail (fun hHeld => ?_)
      clear hK K hg
      refine wpAnyX_one (i := 6) (by kernel_rfl) rfl (fun K hK => ?_)
      go_simp
      refine (HM1.out _).mono ?_
      rintro e wg ⟨rfl, hg⟩
      replace HB := Keep.mk (HB.out.grown hg)
      refine hK.out _ _ HB.out.tail (fun hHeld => ?_)
      clear hK K hg
      refine wpAnyX_one (i := 7) (by kernel_rfl) rfl (fun K hK => ?_)
      go_simp
      refine (HA1.out _).mono ?_
      rintro e wg ⟨rfl, hg⟩
      replace HB := Keep.mk (HB.out.grown hg)
      refine hK.out _ _ HB.out.tail (fun hHeld => ?_)
      clear hK K hg
      refine wpAnyX_one (i := 9) (by kernel_rfl) rfl (fun K hK => ?_)
      rw [if_pos (show Region.wanted _ _ = true from rfl)]
      refine wp_store_mid 23 _ _ rfl vb 0 [iv x3, iv y3].toArray rfl rfl ((HB.out.boxGet k0m).there 0 2 (Nat.le_refl _)) infoVc (all_oneCell_toArray (vv_one x3 y3)) ?_
      have S_ := HB.out.boxTurn ((HB.out.boxGet k0m).setCells [iv x3, iv y3] 0) (gr_sets _ _ _ _)
      rw [over_all [iv 0, iv 0] [iv x3, iv y3] rfl] at S_
      refine hK.out _ _ S_.tail (fun hHeld => ?_)
      replace HB := Keep.mk S_
      clear hK K S_
      change Keep (Sep w (World.setCells wg vb 0 [iv x3, iv y3].toArray.toList) _) at HB
      generalize World.setCells wg vb 0 [iv x3, iv y3].toArray.toList = w9 at HB hHeld ⊢
      simp only [Act.put, List.getElem_toArray, List.getElem_cons_succ, List.getElem_cons_zero]
      refine wpAnyX_done (by kernel_rfl) ?_ _
      clear hHeld
      go_wp2_with fail
      go_meet
      exact ⟨vb, _, rfl, rfl, HB⟩
  case rest =>
  clear HS HU1 HM1 HA1
  obtain ⟨vb, W6, rfl, rfl, HS⟩ := hcut
  have HN1 := Keep.mk (fun W => rdown_g x3 16 ⟨by have := HZ3.out.1.1; omega, by have := HZ3.out.1.2; omega⟩ (by decide) (by decide) W)
  have HN2 := Keep.mk (fun W => rdown_g y3 16 ⟨by have := HZ3.out.2.1; omega, by have := HZ3.out.2.2; omega⟩ (by decide) (by decide) W)
  obtain ⟨x4, hx4⟩ : ∃ x4, x3 - x3 / 16 = x4 := ⟨_, rfl⟩
  obtain ⟨y4, hy4⟩ : ∃ y4, y3 - y3 / 16 = y4 := ⟨_, rfl⟩
  have ex : IntKind.i64.wrap (x3 - x3 / 16) = x4 := (sub16 _ HZ3.out.1).trans hx4
  have ey : IntKind.i64.wrap (y3 - y3 / 16) = y4 := (sub16 _ HZ3.out.2).trans hy4
  rw [hx4, hy4] at HC3
  clear HZ3 hx4 hy4
  go_upto_region 11 with fail
  go_cut [] (fun wx => ∃ u, u = wx ∧ Keep (Sep w u (boxA vb [iv x4, iv y3] 23 :: [boxA xb (crv c2) 25, boxA rb zC14 25, boxA ib (itv i) 34])))
  case first =>
    have HB := HS
    refine region_X (S := fun w' => Sep w w' (boxA vb [iv x3, iv y3] 23 :: [boxA xb (crv c2) 25, boxA rb zC14 25, boxA ib (itv i) 34])) [7] (by kernel_rfl) (HB.out.grown (gr_drew _ _)) (fun hHeld => ?_)
    replace HB := Keep.mk hHeld
    refine wpAnyX_take (i := 0) (oi := _) (v := ?_) rfl (by kernel_rfl) (by kernel_rfl) (by kernel_rfl) (by kernel_rfl) (by kernel_rfl) (fun _ _ _ h => h) (Or.inl ⟨by rfl, ?_⟩) (by assumption) ?_
    rotate_left
    · (intro w hSw; go_simp; first | done | (with_reducible rfl))
    simp only [Act.put, List.getElem_toArray, List.getElem_cons_zero, List.setIfInBounds_toArray, List.set_cons_zero, List.set_cons_succ]
    refine wpAnyX_take (i := 1) (oi := _) (v := ?_) rfl (by kernel_rfl) (by kernel_rfl) (by kernel_rfl) (by kernel_rfl) (by kernel_rfl) (fun _ _ _ h => h) (Or.inl ⟨by rfl, ?_⟩) (by assumption) ?_
    rotate_left
    · (intro w hSw; have q00 := (hSw.boxGet k0m).cellv 0 _ rfl; go_simp; first | done | (with_reducible rfl))
    simp only [Act.put, List.getElem_toArray, List.getElem_cons_succ, List.getElem_cons_zero, List.setIfInBounds_toArray, List.set_cons_zero, List.set_cons_succ]
    refine wpAnyX_take (i := 2) (oi := _) (v := ?_) rfl (by kernel_rfl) (by kernel_rfl) (by kernel_rfl) (by kernel_rfl) (by kernel_rfl) (fun _ _ _ h => h) (Or.inl ⟨by rfl, ?_⟩) (by assumption) ?_
    rotate_left
    · (intro w hSw; go_simp; first | done | (with_reducible rfl))
    simp only [Act.put, List.getElem_toArray, List.getElem_cons_succ, List.getElem_cons_zero, List.setIfInBounds_toArray, List.set_cons_zero, List.set_cons_succ]
    refine wpAnyX_take (i := 3) (oi := _) (v := ?_) rfl (by kernel_rfl) (by kernel_rfl) (by kernel_rfl) (by kernel_rfl) (by kernel_rfl) (fun _ _ _ h => h) (Or.inl ⟨by rfl, ?_⟩) (by assumption) ?_
    rotate_left
    · (intro w hSw; have q00 := (hSw.boxGet k0m).cellv 0 _ rfl; go_simp; first | done | (with_reducible rfl))
    simp only [Act.put, List.getElem_toArray, List.getElem_cons_succ, List.getElem_cons_zero, List.setIfInBounds_toArray, List.set_cons_zero, List.set_cons_succ]
    refine wpAnyX_one (i := 4) (by kernel_rfl) rfl (fun K hK => ?_)
    go_simp
    refine (HN1.out _).mono ?_
    rintro e wg ⟨rfl, hg⟩
    replace HB := Keep.mk (HB.out.grown hg)
    refine hK.out _ _ HB.out (fun hHeld => ?_)
    clear hK K hg
    refine wpAnyX_one (i := 5) (by kernel_rfl) rfl (fun K hK => ?_)
    go_simp
    refine hK.out _ _ HB.out (fun hHeld => ?_)
    clear hK K
    refine wpAnyX_take (i := 6) (oi := _) (v := ?_) rfl (by kernel_rfl) (by kernel_rfl) (by kernel_rfl) (by kernel_rfl) (by kernel_rfl) (fun _ _ _ h => h) (Or.inl ⟨by rfl, ?_⟩) (by assumption) ?_
    rotate_left
    · (intro w hSw; go_simp; first | done | (with_reducible rfl))
    simp only [Act.put, List.getElem_toArray, List.getElem_cons_succ, List.getElem_cons_zero, List.setIfInBounds_toArray, List.set_cons_zero, List.set_cons_succ]
    refine wpAnyX_late (i := 7) (by kernel_rfl) rfl (by kernel_rfl) (fun K hK => ?_)
    have yj := (HB.out.boxGet k0m).cellv 0 _ rfl
    have fj := (HB.out.boxGet k0m).frozen 0
    have S_ := HB.out.boxPut 0 (iv x4)
    change Sep w _ (boxA vb [iv x4, iv y3] 23 :: [boxA xb (crv c2) 25, boxA rb zC14 25, boxA ib (itv i) 34]) at S_
    have HS2 := Keep.mk S_
    clear S_ HB
    go_simp
    refine hK.out _ _ ?_
    clear hK K
    refine wpAnyX_done (by kernel_rfl) ?_ _
    go_wp2_with fail
    go_meet
    exact ⟨_, rfl, HS2⟩
  case rest =>
  clear HS
  obtain ⟨W7, rfl, HS⟩ := hcut
  go_upto_region 12 with fail
  go_cut [] (fun wx => ∃ u, u = wx ∧ Keep (Sep w u (boxA vb [iv x4, iv y4] 23 :: [boxA xb (crv c2) 25, boxA rb zC14 25, boxA ib (itv i) 34])))
  case first =>
    have HB := HS
    refine region_X (S := fun w' => Sep w w' (boxA vb [iv x4, iv y3] 23 :: [boxA xb (crv c2) 25, boxA rb zC14 25, boxA ib (itv i) 34])) [7] (by kernel_rfl) (HB.out.grown (gr_drew _ _)) (fun hHeld => ?_)
    replace HB := Keep.mk hHeld
    refine wpAnyX_take (i := 0) (oi := _) (v := ?_) rfl (by kernel_rfl) (by kernel_rfl) (by kernel_rfl) (by kernel_rfl) (by kernel_rfl) (fun _ _ _ h => h) (Or.inl ⟨by rfl, ?_⟩) (by assumption) ?_
    rotate_left
    · (intro w hSw; go_simp; first | done | (with_reducible rfl))
    simp only [Act.put, List.getElem_toArray, List.getElem_cons_zero, List.setIfInBounds_toArray, List.set_cons_zero, List.set_cons_succ]
    refine wpAnyX_take (i := 1) (oi := _) (v := ?_) rfl (by kernel_rfl) (by kernel_rfl) (by kernel_rfl) (by kernel_rfl) (by kernel_rfl) (fun _ _ _ h => h) (Or.inl ⟨by rfl, ?_⟩) (by assumption) ?_
    rotate_left
    · (intro w hSw; have q01 := (hSw.boxGet k0m).cellv 1 _ rfl; go_simp; first | done | (with_reducible rfl))
    simp only [Act.put, List.getElem_toArray, List.getElem_cons_succ, List.getElem_cons_zero, List.setIfInBounds_toArray, List.set_cons_zero, List.set_cons_succ]
    refine wpAnyX_take (i := 2) (oi := _) (v := ?_) rfl (by kernel_rfl) (by kernel_rfl) (by kernel_rfl) (by kernel_rfl) (by kernel_rfl) (fun _ _ _ h => h) (Or.inl ⟨by rfl, ?_⟩) (by assumption) ?_
    rotate_left
    · (intro w hSw; go_simp; first | done | (with_reducible rfl))
    simp only [Act.put, List.getElem_toArray, List.getElem_cons_succ, List.getElem_cons_zero, List.setIfInBounds_toArray, List.set_cons_zero, List.set_cons_succ]
    refine wpAnyX_take (i := 3) (oi := _) (v := ?_) rfl (by kernel_rfl) (by kernel_rfl) (by kernel_rfl) (by kernel_rfl) (by kernel_rfl) (fun _ _ _ h => h) (Or.inl ⟨by rfl, ?_⟩) (by assumption) ?_
    rotate_left
    · (intro w hSw; have q01 := (hSw.boxGet k0m).cellv 1 _ rfl; go_simp; first | done | (with_reducible rfl))
    simp only [Act.put, List.getElem_toArray, List.getElem_cons_succ, List.getElem_cons_zero, List.setIfInBounds_toArray, List.set_cons_zero, List.set_cons_succ]
    refine wpAnyX_one (i := 4) (by kernel_rfl) rfl (fun K hK => ?_)
    go_simp
    refine (HN2.out _).mono ?_
    rintro e wg ⟨rfl, hg⟩
    replace HB := Keep.mk (HB.out.grown hg)
    refine hK.out _ _ HB.out (fun hHeld => ?_)
    clear hK K hg
    refine wpAnyX_one (i := 5) (by kernel_rfl) rfl (fun K hK => ?_)
    go_simp
    refine hK.out _ _ HB.out (fun hHeld => ?_)
    clear hK K
    refine wpAnyX_take (i := 6) (oi := _) (v := ?_) rfl (by kernel_rfl) (by kernel_rfl) (by kernel_rfl) (by kernel_rfl) (by kernel_rfl) (fun _ _ _ h => h) (Or.inl ⟨by rfl, ?_⟩) (by assumption) ?_
    rotate_left
    · (intro w hSw; go_simp; first | done | (with_reducible rfl))
    simp only [Act.put, List.getElem_toArray, List.getElem_cons_succ, List.getElem_cons_zero, List.setIfInBounds_toArray, List.set_cons_zero, List.set_cons_succ]
    refine wpAnyX_late (i := 7) (by kernel_rfl) rfl (by kernel_rfl) (fun K hK => ?_)
    have yj := (HB.out.boxGet k0m).cellv 1 _ rfl
    have fj := (HB.out.boxGet k0m).frozen 1
    have S_ := HB.out.boxPut 1 (iv y4)
    change Sep w _ (boxA vb [iv x4, iv y4] 23 :: [boxA xb (crv c2) 25, boxA rb zC14 25, boxA ib (itv i) 34]) at S_
    have HS2 := Keep.mk S_
    clear S_ HB
    go_simp
    refine hK.out _ _ ?_
    clear hK K
    refine wpAnyX_done (by kernel_rfl) ?_ _
    go_wp2_with fail
    go_meet
    exact ⟨_, rfl, HS2⟩
  case rest =>
  clear HS
  obtain ⟨W8, rfl, HS⟩ := hcut
  clear HN1 HN2 ex ey
  have HCP := Keep.mk (fun W => rcap_c x4 y4 65536 W)
  rw [cap_eq, cap_eq] at HCP
  obtain ⟨hc5, hcx, hcy⟩ := HC3.out
  rw [← hcx, ← hcy] at HCP
  have hr5 : (-65536 ≤ c5.sx ∧ c5.sx ≤ 65536) ∧ (-65536 ≤ c5.sy ∧ c5.sy ≤ 65536) := by rw [hcx, hcy]; exact ⟨kz16 _, kz16 _⟩
  have hx5 : c5.x = c2.x := by rw [hc5]
  have hy5 : c5.y = c2.y := by rw [hc5]
  have HC5 := Keep.mk hc5
  have HR5 := Keep.mk hr5
  have HX5 := Keep.mk (And.intro hx5 hy5)
  clear HC3 hc5 hcx hcy hr5 hx5 hy5
  have y0 : W8.cell? ⟨vb, 0, none⟩ = some (iv x4) := (HS.out.boxGet k0m).cellv 0 _ rfl
  have y1 : W8.cell? ⟨vb, 1, none⟩ = some (iv y4) := (HS.out.boxGet k0m).cellv 1 _ rfl
  go_wp2_with fail
  refine (HCP.out _).mono ?_
  rintro e w9 ⟨rfl, g9⟩
  have HS9 := Keep.mk (HS.out.grown g9)
  clear g9 HS y0 y1 HCP
  have hvx : YtobdcngjpgndiabDoor.vv c5.sx c5.sy = .agg [iv c5.sx, iv c5.sy].toArray := rfl
  have HVB := Keep.mk (HS9.out.boxGet k0m)
  go_wp2_with (first
    | (show wpList _ _ _ ({ dst := _, op := Op.store 23 (Operand.tmp 10) _, type := _, pos := _, after := _, guard := _ } :: _) _ _
       refine store_at _ vb 0 [iv x4, iv y4] [iv c5.sx, iv c5.sy] 23 23 rfl rfl rfl rfl HVB.out (Nat.le_refl _) infoVc (vv_one _ _) ?_))
  intro wx hS_ g_
  have S_ := hS_ _ _ HS9.out
  rw [over_all [iv x4, iv y4] [iv c5.sx, iv c5.sy] rfl] at S_
  have HS := Keep.mk S_
  clear S_ hS_ g_ HVB HS9 hvx
  have HAX := Keep.mk (fun W => rfadd_g c2.x c5.sx HOK2.out.2.2.1 (in_of16 HR5.out.1) W)
  have hA6 := addZ_in c2.x c5.sx
  have HXX : Keep (stX L c5 = if blk L (addZ c2.x c5.sx, c2.y) 98304 then { c5 with sx := -(c5.sx / 2) } else { c5 with x := addZ c2.x c5.sx }) := ⟨by unfold stX; rw [HX5.out.1, HX5.out.2]⟩
  generalize addZ c2.x c5.sx = a6 at *
  have HA6 := Keep.mk hA6
  clear hA6
  go_upto_region 14 with fail
  go_cut [11] (fun sv wx => ∃ tb u, u = wx ∧ sv = pt tb ∧ Keep (Sep w u (boxA tb [iv a6, iv c2.y] 23 :: (boxA vb [iv c5.sx, iv c5.sy] 23 :: [boxA xb (crv c2) 25, boxA rb zC14 25, boxA ib (itv i) 34]))))
  case first =>
    have HB := HS
    refine region_X (S := fun w' => Sep w w' (boxA vb [iv c5.sx, iv c5.sy] 23 :: [boxA xb (crv c2) 25, boxA rb zC14 25, boxA ib (itv i) 34])) [] (by kernel_rfl) (HB.out.grown (gr_drew _ _)) (fun hHeld => ?_)
    replace HB := Keep.mk hHeld
    refine wpAnyX_take (i := 0) (oi := _) (v := ?_) rfl (by kernel_rfl) (by kernel_rfl) (by kernel_rfl) (by kernel_rfl) (by kernel_rfl) (fun _ _ _ h => h) (Or.inl ⟨by rfl, ?_⟩) (by assumption) ?_
    rotate_left
    · (intro w hSw; go_simp; first | done | (with_reducible rfl))
    simp only [Act.put, List.getElem_toArray, List.getElem_cons_zero, List.setIfInBounds_toArray, List.set_cons_zero, List.set_cons_succ]
    refine wpAnyX_take (i := 1) (oi := _) (v := ?_) rfl (by kernel_rfl) (by kernel_rfl) (by kernel_rfl) (by kernel_rfl) (by kernel_rfl) (fun _ _ _ h => h) (Or.inl ⟨by rfl, ?_⟩) (by assumption) ?_
    rotate_left
    · (intro w hSw; go_simp; first | done | (with_reducible rfl))
    simp only [Act.put, List.getElem_toArray, List.getElem_cons_succ, List.getElem_cons_zero, List.setIfInBounds_toArray, List.set_cons_zero, List.set_cons_succ]
    refine wpAnyX_take (i := 2) (oi := _) (v := ?_) rfl (by kernel_rfl) (by kernel_rfl) (by kernel_rfl) (by kernel_rfl) (by kernel_rfl) (fun _ _ _ h => h) (Or.inl ⟨by rfl, ?_⟩) (by assumption) ?_
    rotate_left
    · (intro w hSw; have q12 := (hSw.boxGet k1m).cellv 2 _ rfl; go_simp; first | done | (with_reducible rfl))
    simp only [Act.put, List.getElem_toArray, List.getElem_cons_succ, List.getElem_cons_zero, List.setIfInBounds_toArray, List.set_cons_zero, List.set_cons_succ]
    refine wpAnyX_take (i := 3) (oi := _) (v := ?_) rfl (by kernel_rfl) (by kernel_rfl) (by kernel_rfl) (by kernel_rfl) (by kernel_rfl) (fun _ _ _ h => h) (Or.inl ⟨by rfl, ?_⟩) (by assumption) ?_
    rotate_left
    · (intro w hSw; go_simp; first | done | (with_reducible rfl))
    simp only [Act.put, List.getElem_toArray, List.getElem_cons_succ, List.getElem_cons_zero, List.setIfInBounds_toArray, List.set_cons_zero, List.set_cons_succ]
    refine wpAnyX_take (i := 4) (oi := _) (v := ?_) rfl (by kernel_rfl) (by kernel_rfl) (by kernel_rfl) (by kernel_rfl) (by kernel_rfl) (fun _ _ _ h => h) (Or.inl ⟨by rfl, ?_⟩) (by assumption) ?_
    rotate_left
    · (intro w hSw; have q00 := (hSw.boxGet k0m).cellv 0 _ rfl; go_simp; first | done | (with_reducible rfl))
    simp only [Act.put, List.getElem_toArray, List.getElem_cons_succ, List.getElem_cons_zero, List.setIfInBounds_toArray, List.set_cons_zero, List.set_cons_succ]
    refine wpAnyX_take (i := 6) (oi := _) (v := ?_) rfl (by kernel_rfl) (by kernel_rfl) (by kernel_rfl) (by kernel_rfl) (by kernel_rfl) (fun _ _ _ h => h) (Or.inl ⟨by rfl, ?_⟩) (by assumption) ?_
    rotate_left
    · (intro w hSw; go_simp; first | done | (with_reducible rfl))
    simp only [Act.put, List.getElem_toArray, List.getElem_cons_succ, List.getElem_cons_zero, List.setIfInBounds_toArray, List.set_cons_zero, List.set_cons_succ]
    refine wpAnyX_take (i := 7) (oi := _) (v := ?_) rfl (by kernel_rfl) (by kernel_rfl) (by kernel_rfl) (by kernel_rfl) (by kernel_rfl) (fun _ _ _ h => h) (Or.inl ⟨by rfl, ?_⟩) (by assumption) ?_
    rotate_left
    · (intro w hSw; go_simp; first | done | (with_reducible rfl))
    simp only [Act.put, List.getElem_toArray, List.getElem_cons_succ, List.getElem_cons_zero, List.setIfInBounds_toArray, List.set_cons_zero, List.set_cons_succ]
    refine wpAnyX_take (i := 8) (oi := _) (v := ?_) rfl (by kernel_rfl) (by kernel_rfl) (by kernel_rfl) (by kernel_rfl) (by kernel_rfl) (fun _ _ _ h => h) (Or.inl ⟨by rfl, ?_⟩) (by assumption) ?_
    rotate_left
    · (intro w hSw; have q13 := (hSw.boxGet k1m).cellv 3 _ rfl; go_simp; first | done | (with_reducible rfl))
    simp only [Act.put, List.getElem_toArray, List.getElem_cons_succ, List.getElem_cons_zero, List.setIfInBounds_toArray, List.set_cons_zero, List.set_cons_succ]
    obtain ⟨W0, hW0⟩ : ∃ W_, wx.drew = W_ := ⟨_, rfl⟩
    rw [hW0] at HB hHeld ⊢
    clear hW0
    refine wpAnyX_two (i := 5) (j := 10) (by kernel_rfl) rfl rfl (fun K hK => ?_) (fun K hK => ?_)
    · skip
      go_simp
      refine (HAX.out _).mono ?_
      rintro e wg ⟨rfl, hg⟩
      replace HB := Keep.mk (HB.out.grown hg)
      refine hK.out _ _ HB.out (fun hHeld => ?_)
      clear hK K hg
      refine wpAnyX_take (i := 9) (oi := _) (v := .agg #[iv a6, iv c2.y]) rfl (by kernel_rfl) (by kernel_rfl) (by kernel_rfl) (by kernel_rfl) (by kernel_rfl) (fun _ _ _ h => h) (yieldsIf_build (by rfl) 23 _ rfl _ ?_) (by assumption) ?_
      · refine (congrArg (Tryd.prog.built 23) ?_).trans (built30 a6 c2.y)
        simp only [List.map_toArray, List.map_cons, List.map_nil]
        rfl
      simp only [Act.put, List.getElem_toArray, List.getElem_cons_succ, List.getElem_cons_zero, List.setIfInBounds_toArray, List.set_cons_zero, List.set_cons_succ]
      refine wpAnyX_one (i := 10) (by kernel_rfl) rfl (fun K hK => ?_)
      have S_ := HB.out.newBox #[iv 0, iv 0] 23
      obtain ⟨wa, hwa⟩ : ∃ W_, wg.alloc (.cells #[iv 0, iv 0] 23) = W_ := ⟨_, rfl⟩
      obtain ⟨tb, htb⟩ : ∃ b_, wg.heap.size = b_ := ⟨_, rfl⟩
      rw [hwa, htb] at S_
      change Sep w wa (boxA tb [iv 0, iv 0] 23 :: (boxA vb [iv c5.sx, iv c5.sy] 23 :: [boxA xb (crv c2) 25, boxA rb zC14 25, boxA ib (itv i) 34])) at S_
      replace HB := Keep.mk S_
      clear S_
      go_simp
      refine hK.out _ _ HB.out.tail (fun hHeld => ?_)
      clear hK K
      refine wpAnyX_one (i := 11) (by kernel_rfl) rfl (fun K hK => ?_)
      rw [if_pos (show Region.wanted _ _ = true from rfl)]
      refine wp_store_mid 23 _ _ rfl tb 0 [iv a6, iv c2.y].toArray rfl rfl ((HB.out.boxGet k0m).there 0 2 (Nat.le_refl _)) infoVc (all_oneCell_toArray (vv_one a6 c2.y)) ?_
      have S_ := HB.out.boxTurn ((HB.out.boxGet k0m).setCells [iv a6, iv c2.y] 0) (gr_sets _ _ _ _)
      rw [over_all [iv 0, iv 0] [iv a6, iv c2.y] rfl] at S_
      refine hK.out _ _ S_.tail (fun hHeld => ?_)
      replace HB := Keep.mk S_
      clear hK K S_
      change Keep (Sep w (World.setCells wa tb 0 [iv a6, iv c2.y].toArray.toList) _) at HB
      generalize World.setCells wa tb 0 [iv a6, iv c2.y].toArray.toList = w9 at HB hHeld ⊢
      simp only [Act.put, List.getElem_toArray, List.getElem_cons_succ, List.getElem_cons_zero]
      refine wpAnyX_done (by kernel_rfl) ?_ _
      clear hHeld
      go_wp2_with fail
      go_meet
      exact ⟨tb, _, rfl, rfl, HB⟩
    · skip
      have S_ := HB.out.newBox #[iv 0, iv 0] 23
      obtain ⟨wa, hwa⟩ : ∃ W_, W0.alloc (.cells #[iv 0, iv 0] 23) = W_ := ⟨_, rfl⟩
      obtain ⟨tb, htb⟩ : ∃ b_, W0.heap.size = b_ := ⟨_, rfl⟩
      rw [hwa, htb] at S_
      change Sep w wa (boxA tb [iv 0, iv 0] 23 :: (boxA vb [iv c5.sx, iv c5.sy] 23 :: [boxA xb (crv c2) 25, boxA rb zC14 25, boxA ib (itv i) 34])) at S_
      replace HB := Keep.mk S_
      clear S_
      go_simp
      refine hK.out _ _ HB.out.tail (fun hHeld => ?_)
      clear hK K
      refine wpAnyX_one (i := 5) (by kernel_rfl) rfl (fun K hK => ?_)
      go_simp
      refine (HAX.out _).mono ?_
      rintro e wg ⟨rfl, hg⟩
      replace HB := Keep.mk (HB.out.grown hg)
      refine hK.out _ _ HB.out.tail (fun hHeld => ?_)
      clear hK K hg
      refine wpAnyX_take (i := 9) (oi := _) (v := .agg #[iv a6, iv c2.y]) rfl (by kernel_rfl) (by kernel_rfl) (by kernel_rfl) (by kernel_rfl) (by kernel_rfl) (fun _ _ _ h => h) (yieldsIf_build (by rfl) 23 _ rfl _ ?_) (by assumption) ?_
      · refine (congrArg (Tryd.prog.built 23) ?_).trans (built30 a6 c2.y)
        simp only [List.map_toArray, List.map_cons, List.map_nil]
        rfl
      simp only [Act.put, List.getElem_toArray, List.getElem_cons_succ, List.getElem_cons_zero, List.setIfInBounds_toArray, List.set_cons_zero, List.set_cons_succ]
      refine wpAnyX_one (i := 11) (by kernel_rfl) rfl (fun K hK => ?_)
      rw [if_pos (show Region.wanted _ _ = true from rfl)]
      refine wp_store_mid 23 _ _ rfl tb 0 [iv a6, iv c2.y].toArray rfl rfl ((HB.out.boxGet k0m).there 0 2 (Nat.le_refl _)) infoVc (all_oneCell_toArray (vv_one a6 c2.y)) ?_
      have S_ := HB.out.boxTurn ((HB.out.boxGet k0m).setCells [iv a6, iv c2.y] 0) (gr_sets _ _ _ _)
      rw [over_all [iv 0, iv 0] [iv a6, iv c2.y] rfl] at S_
      refine hK.out _ _ S_.tail (fun hHeld => ?_)
      replace HB := Keep.mk S_
      clear hK K S_
      change Keep (Sep w (World.setCells wg tb 0 [iv a6, iv c2.y].toArray.toList) _) at HB
      generalize World.setCells wg tb 0 [iv a6, iv c2.y].toArray.toList = w9 at HB hHeld ⊢
      simp only [Act.put, List.getElem_toArray, List.getElem_cons_succ, List.getElem_cons_zero]
      refine wpAnyX_done (by kernel_rfl) ?_ _
      clear hHeld
      go_wp2_with fail
      go_meet
      exact ⟨tb, _, rfl, rfl, HB⟩
  case rest =>
  clear HS HAX
  obtain ⟨tb, W10, rfl, rfl, HS⟩ := hcut
  have y0 : W10.cell? ⟨tb, 0, none⟩ = some (iv a6) := (HS.out.boxGet k0m).cellv 0 _ rfl
  have y1 : W10.cell? ⟨tb, 1, none⟩ = some (iv c2.y) := (HS.out.boxGet k0m).cellv 1 _ rfl
  go_wp2_with fail
  refine (HBL.out _ a6 c2.y HS.out.g HA6.out HOK2.out.2.2.2.1).mono ?_
  rintro e w11 ⟨rfl, g11⟩
  replace HS := Keep.mk (HS.out.grown g11)
  clear g11 y0 y1
  have HF6 : Keep (c2.y = (stX L c5).y ∧ c5.sy = (stX L c5).sy ∧ In (stX L c5).x ∧ stX L c5 = { c2 with x := (stX L c5).x, sx := (stX L c5).sx, sy := c5.sy }) := ⟨by
    have h5 := HC5.out
    have hx := HXX.out
    split at hx
    · rw [hx]; exact ⟨HX5.out.2.symm, rfl, by show In c5.x; rw [HX5.out.1]; exact HOK2.out.2.2.1, by rw [h5]⟩
    · rw [hx]; exact ⟨HX5.out.2.symm, rfl, HA6.out, by rw [h5]⟩⟩
  have HX6 : Keep ((blk L (a6, c2.y) 98304 → (stX L c5).sx = -(c5.sx / 2) ∧ (stX L c5).x = c2.x) ∧ (¬ blk L (a6, c2.y) 98304 → (stX L c5).sx = c5.sx ∧ (stX L c5).x = a6)) := ⟨by
    constructor
    · intro h; rw [HXX.out, if_pos h]; exact ⟨rfl, HX5.out.1⟩
    · intro h; rw [HXX.out, if_neg h]; exact ⟨rfl, rfl⟩⟩
  clear HXX
  generalize stX L c5 = c6 at *
  go_upto_if 79 with fail
  go_cut [] (fun wx => ∃ u, u = wx ∧ Keep (Sep w u [boxA tb [iv a6, iv c2.y] 23, boxA vb [iv c6.sx, iv c5.sy] 23, boxA xb (crv { c2 with x := c6.x }) 25, boxA rb zC14 25, boxA ib (itv i) 34]))
  case first =>
    by_cases hbk : blk L (a6, c2.y) 98304
    · have hdb : decide (blk L (a6, c2.y) 98304) = true := decide_eq_true hbk
      obtain ⟨q1, q2⟩ := HX6.out.1 hbk
      have y0 : w11.cell? ⟨vb, 0, none⟩ = some (iv c5.sx) := (HS.out.boxGet k1m).cellv 0 _ rfl
      have f0 : w11.frozen? ⟨vb, 0, none⟩ = false := (HS.out.boxGet k1m).frozen 0
      have HDN := Keep.mk (rdown_c c5.sx 2 (in_of16 HR5.out.1) (by decide) (by decide) w11)
      have en : IntKind.i64.wrap (-(c5.sx / 2)) = c6.sx := by rw [q1]; have := HR5.out.1; exact wi _ (by omega) (by omega)
      have S_ := (fr1 [boxA tb [iv a6, iv c2.y] 23] HS.out).boxPut 0 (iv c6.sx)
      obtain ⟨W12, hW12⟩ : ∃ W_, w11.setCell ⟨vb, 0, none⟩ (iv c6.sx) = W_ := ⟨_, rfl⟩
      rw [hW12] at S_
      have S2 := bk1 [boxA tb [iv a6, iv c2.y] 23] S_
      have hcc : ({ c2 with x := c6.x } : Cr) = c2 := by rw [q2]
      have HS12 : Keep (Sep w W12 [boxA tb [iv a6, iv c2.y] 23, boxA vb [iv c6.sx, iv c5.sy] 23, boxA xb (crv { c2 with x := c6.x }) 25, boxA rb zC14 25, boxA ib (itv i) 34]) := ⟨by rw [hcc]; exact S2⟩
      clear S_ S2 hcc HX6 q1 q2
      go_wp2_with fail
      refine HDN.out.mono ?_
      rintro e w_ ⟨rfl, hw_⟩
      rw [hw_]
      clear hw_ HDN
      go_wp2_with fail
      go_meet
      exact ⟨_, rfl, HS12⟩
    · have hdb : decide (blk L (a6, c2.y) 98304) = false := decide_eq_false hbk
      obtain ⟨q1, q2⟩ := HX6.out.2 hbk
      have y0 : w11.cell? ⟨tb, 0, none⟩ = some (iv a6) := (HS.out.boxGet k0m).cellv 0 _ rfl
      have y1 : w11.cell? ⟨tb, 1, none⟩ = some (iv c2.y) := (HS.out.boxGet k0m).cellv 1 _ rfl
      have HXB := Keep.mk (HS.out.boxGet k2m)
      go_wp2_with (first
        | (show wpList _ _ _ ({ dst := _, op := Op.store 23 _ _, type := _, pos := _, after := _, guard := _ } :: _) _ _
           refine store_at _ xb 2 (crv c2) [iv a6, iv c2.y] 23 25 rfl rfl rfl rfl HXB.out (show 2 + 2 ≤ 14 from by decide) infoVc (vv_one _ _) ?_))
      intro wz hS_ g_
      have S_ := bk1 [boxA tb [iv a6, iv c2.y] 23, boxA vb [iv c5.sx, iv c5.sy] 23] (hS_ _ _ (fr1 [boxA tb [iv a6, iv c2.y] 23, boxA vb [iv c5.sx, iv c5.sy] 23] HS.out))
      have HS12 : Keep (Sep w wz [boxA tb [iv a6, iv c2.y] 23, boxA vb [iv c6.sx, iv c5.sy] 23, boxA xb (crv { c2 with x := c6.x }) 25, boxA rb zC14 25, boxA ib (itv i) 34]) := ⟨by rw [q1, q2]; exact S_⟩
      clear S_ hS_ g_ HX6 q1 q2 HXB y0 y1
      go_wp2_with fail
      go_meet
      exact ⟨_, rfl, HS12⟩
  case rest =>
  clear HS HX6 HA6
  obtain ⟨W12, rfl, HS⟩ := hcut
  have HAY := Keep.mk (fun W => rfadd_g c2.y c5.sy HOK2.out.2.2.2.1 (in_of16 HR5.out.2) W)
  have hA7 := addZ_in c2.y c5.sy
  have HYY : Keep (stY L c6 = if blk L (c6.x, addZ c2.y c5.sy) 98304 then { c6 with sy := -(c5.sy / 2) } else { c6 with y := addZ c2.y c5.sy }) := ⟨by unfold stY; rw [HF6.out.1, HF6.out.2.1]⟩
  generalize addZ c2.y c5.sy = a7 at *
  have HA7 := Keep.mk hA7
  clear hA7
  go_upto_region 18 with fail
  go_cut [] (fun wx => ∃ u, u = wx ∧ Keep (Sep w u [boxA tb [iv c6.x, iv a7] 23, boxA vb [iv c6.sx, iv c5.sy] 23, boxA xb (crv { c2 with x := c6.x }) 25, boxA rb zC14 25, boxA ib (itv i) 34]))
  case first =>
    have HB := HS
    refine region_X (S := fun w' => Sep w w' [boxA tb [iv a6, iv c2.y] 23, boxA vb [iv c6.sx, iv c5.sy] 23, boxA xb (crv { c2 with x := c6.x }) 25, boxA rb zC14 25, boxA ib (itv i) 34]) [10] (by kernel_rfl) (HB.out.grown (gr_drew _ _)) (fun hHeld => ?_)
    replace HB := Keep.mk hHeld
    refine wpAnyX_take (i := 0) (oi := _) (v := ?_) rfl (by kernel_rfl) (by kernel_rfl) (by kernel_rfl) (by kernel_rfl) (by kernel_rfl) (fun _ _ _ h => h) (Or.inl ⟨by rfl, ?_⟩) (by assumption) ?_
    rotate_left
    · (intro w hSw; go_simp; first | done | (with_reducible rfl))
    simp only [Act.put, List.getElem_toArray, List.getElem_cons_zero, List.setIfInBounds_toArray, List.set_cons_zero, List.set_cons_succ]
    refine wpAnyX_take (i := 1) (oi := _) (v := ?_) rfl (by kernel_rfl) (by kernel_rfl) (by kernel_rfl) (by kernel_rfl) (by kernel_rfl) (fun _ _ _ h => h) (Or.inl ⟨by rfl, ?_⟩) (by assumption) ?_
    rotate_left
    · (intro w hSw; go_simp; first | done | (with_reducible rfl))
    simp only [Act.put, List.getElem_toArray, List.getElem_cons_succ, List.getElem_cons_zero, List.setIfInBounds_toArray, List.set_cons_zero, List.set_cons_succ]
    refine wpAnyX_take (i := 2) (oi := _) (v := ?_) rfl (by kernel_rfl) (by kernel_rfl) (by kernel_rfl) (by kernel_rfl) (by kernel_rfl) (fun _ _ _ h => h) (Or.inl ⟨by rfl, ?_⟩) (by assumption) ?_
    rotate_left
    · (intro w hSw; have q22 := (hSw.boxGet k2m).cellv 2 _ rfl; go_simp; first | done | (with_reducible rfl))
    simp only [Act.put, List.getElem_toArray, List.getElem_cons_succ, List.getElem_cons_zero, List.setIfInBounds_toArray, List.set_cons_zero, List.set_cons_succ]
    refine wpAnyX_take (i := 3) (oi := _) (v := ?_) rfl (by kernel_rfl) (by kernel_rfl) (by kernel_rfl) (by kernel_rfl) (by kernel_rfl) (fun _ _ _ h => h) (Or.inl ⟨by rfl, ?_⟩) (by assumption) ?_
    rotate_left
    · (intro w hSw; go_simp; first | done | (with_reducible rfl))
    simp only [Act.put, List.getElem_toArray, List.getElem_cons_succ, List.getElem_cons_zero, List.setIfInBounds_toArray, List.set_cons_zero, List.set_cons_succ]
    refine wpAnyX_take (i := 4) (oi := _) (v := ?_) rfl (by kernel_rfl) (by kernel_rfl) (by kernel_rfl) (by kernel_rfl) (by kernel_rfl) (fun _ _ _ h => h) (Or.inl ⟨by rfl, ?_⟩) (by assumption) ?_
    rotate_left
    · (intro w hSw; go_simp; first | done | (with_reducible rfl))
    simp only [Act.put, List.getElem_toArray, List.getElem_cons_succ, List.getElem_cons_zero, List.setIfInBounds_toArray, List.set_cons_zero, List.set_cons_succ]
    refine wpAnyX_take (i := 5) (oi := _) (v := ?_) rfl (by kernel_rfl) (by kernel_rfl) (by kernel_rfl) (by kernel_rfl) (by kernel_rfl) (fun _ _ _ h => h) (Or.inl ⟨by rfl, ?_⟩) (by assumption) ?_
    rotate_left
    · (intro w hSw; have q23 := (hSw.boxGet k2m).cellv 3 _ rfl; go_simp; first | done | (with_reducible rfl))
    simp only [Act.put, List.getElem_toArray, List.getElem_cons_succ, List.getElem_cons_zero, List.setIfInBounds_toArray, List.set_cons_zero, List.set_cons_succ]
    refine wpAnyX_take (i := 6) (oi := _) (v := ?_) rfl (by kernel_rfl) (by kernel_rfl) (by kernel_rfl) (by kernel_rfl) (by kernel_rfl) (fun _ _ _ h => h) (Or.inl ⟨by rfl, ?_⟩) (by assumption) ?_
    rotate_left
    · (intro w hSw; go_simp; first | done | (with_reducible rfl))
    simp only [Act.put, List.getElem_toArray, List.getElem_cons_succ, List.getElem_cons_zero, List.setIfInBounds_toArray, List.set_cons_zero, List.set_cons_succ]
    refine wpAnyX_take (i := 7) (oi := _) (v := ?_) rfl (by kernel_rfl) (by kernel_rfl) (by kernel_rfl) (by kernel_rfl) (by kernel_rfl) (fun _ _ _ h => h) (Or.inl ⟨by rfl, ?_⟩) (by assumption) ?_
    rotate_left
    · (intro w hSw; have q11 := (hSw.boxGet k1m).cellv 1 _ rfl; go_simp; first | done | (with_reducible rfl))
    simp only [Act.put, List.getElem_toArray, List.getElem_cons_succ, List.getElem_cons_zero, List.setIfInBounds_toArray, List.set_cons_zero, List.set_cons_succ]
    refine wpAnyX_one (i := 8) (by kernel_rfl) rfl (fun K hK => ?_)
    go_simp
    refine (HAY.out _).mono ?_
    rintro e wg ⟨rfl, hg⟩
    replace HB := Keep.mk (HB.out.grown hg)
    refine hK.out _ _ HB.out (fun hHeld => ?_)
    clear hK K hg
    refine wpAnyX_take (i := 9) (oi := _) (v := .agg #[iv c6.x, iv a7]) rfl (by kernel_rfl) (by kernel_rfl) (by kernel_rfl) (by kernel_rfl) (by kernel_rfl) (fun _ _ _ h => h) (yieldsIf_build (by rfl) 23 _ rfl _ ?_) (by assumption) ?_
    · refine (congrArg (Tryd.prog.built 23) ?_).trans (built30 c6.x a7)
      simp only [List.map_toArray, List.map_cons, List.map_nil]
      rfl
    simp only [Act.put, List.getElem_toArray, List.getElem_cons_succ, List.getElem_cons_zero, List.setIfInBounds_toArray, List.set_cons_zero, List.set_cons_succ]
    refine wpAnyX_late (i := 10) (by kernel_rfl) rfl (by kernel_rfl) (fun K hK => ?_)
    rw [if_pos (show Region.wanted _ _ = true from rfl)]
    have HTB := Keep.mk (HB.out.boxGet k0m)
    refine wp_store_mid 23 _ _ rfl tb 0 [iv c6.x, iv a7].toArray rfl rfl (HTB.out.there 0 2 (Nat.le_refl _)) infoVc (all_oneCell_toArray (vv_one _ _)) ?_
    have S8 := HB.out.boxTurn (HTB.out.setCells [iv c6.x, iv a7] 0) (gr_sets _ _ _ _)
    rw [over_all [iv a6, iv c2.y] [iv c6.x, iv a7] rfl] at S8
    have HS8 := Keep.mk S8
    refine hK.out _ _ ?_
    clear hK K HB S8 HTB
    change Keep (Sep w (World.setCells wg tb 0 [iv c6.x, iv a7].toArray.toList) _) at HS8
    generalize World.setCells wg tb 0 [iv c6.x, iv a7].toArray.toList = w8 at HS8 ⊢
    refine wpAnyX_done (by kernel_rfl) ?_ _
    go_wp2_with fail
    go_meet
    exact ⟨_, rfl, HS8⟩
  case rest =>
  clear HS HAY
  obtain ⟨W13, rfl, HS⟩ := hcut
  have y0 : W13.cell? ⟨tb, 0, none⟩ = some (iv c6.x) := (HS.out.boxGet k0m).cellv 0 _ rfl
  have y1 : W13.cell? ⟨tb, 1, none⟩ = some (iv a7) := (HS.out.boxGet k0m).cellv 1 _ rfl
  go_wp2_with fail
  refine (HBL.out _ c6.x a7 HS.out.g HF6.out.2.2.1 HA7.out).mono ?_
  rintro e w14 ⟨rfl, g14⟩
  replace HS := Keep.mk (HS.out.grown g14)
  clear g14 y0 y1 HBL
  have HF7 : Keep (stY L c6 = { c2 with x := c6.x, y := (stY L c6).y, sx := c6.sx, sy := (stY L c6).sy }) := ⟨by
    have h5 := HF6.out.2.2.2
    have hx := HYY.out
    split at hx
    · rw [hx]; rw [h5]
    · rw [hx]; rw [h5]⟩
  have HX7 : Keep ((blk L (c6.x, a7) 98304 → (stY L c6).sy = -(c5.sy / 2) ∧ (stY L c6).y = c2.y) ∧ (¬ blk L (c6.x, a7) 98304 → (stY L c6).sy = c5.sy ∧ (stY L c6).y = a7)) := ⟨by
    constructor
    · intro h; rw [HYY.out, if_pos h]; exact ⟨rfl, HF6.out.1.symm⟩
    · intro h; rw [HYY.out, if_neg h]; exact ⟨HF6.out.2.1.symm, rfl⟩⟩
  clear HYY
  generalize stY L c6 = c7 at *
  go_upto_if 99 with fail
  go_cut [] (fun wx => ∃ u, u = wx ∧ Keep (Sep w u [boxA tb [iv c6.x, iv a7] 23, boxA vb [iv c6.sx, iv c7.sy] 23, boxA xb (crv { c2 with x := c6.x, y := c7.y }) 25, boxA rb zC14 25, boxA ib (itv i) 34]))
  case first =>
    by_cases hbk : blk L (c6.x, a7) 98304
    · have hdb : decide (blk L (c6.x, a7) 98304) = true := decide_eq_true hbk
      obtain ⟨q1, q2⟩ := HX7.out.1 hbk
      have y0 : w14.cell? ⟨vb, 1, none⟩ = some (iv c5.sy) := (HS.out.boxGet k1m).cellv 1 _ rfl
      have f0 : w14.frozen? ⟨vb, 1, none⟩ = false := (HS.out.boxGet k1m).frozen 1
      have HDN := Keep.mk (rdown_c c5.sy 2 (in_of16 HR5.out.2) (by decide) (by decide) w14)
      have en : IntKind.i64.wrap (-(c5.sy / 2)) = c7.sy := by rw [q1]; have := HR5.out.2; exact wi _ (by omega) (by omega)
      have S_ := (fr1 [boxA tb [iv c6.x, iv a7] 23] HS.out).boxPut 1 (iv c7.sy)
      obtain ⟨W15, hW15⟩ : ∃ W_, w14.setCell ⟨vb, 1, none⟩ (iv c7.sy) = W_ := ⟨_, rfl⟩
      rw [hW15] at S_
      have S2 := bk1 [boxA tb [iv c6.x, iv a7] 23] S_
      have hcc : ({ c2 with x := c6.x, y := c7.y } : Cr) = { c2 with x := c6.x } := by rw [q2]
      have HS12 : Keep (Sep w W15 [boxA tb [iv c6.x, iv a7] 23, boxA vb [iv c6.sx, iv c7.sy] 23, boxA xb (crv { c2 with x := c6.x, y := c7.y }) 25, boxA rb zC14 25, boxA ib (itv i) 34]) := ⟨by rw [hcc]; exact S2⟩
      clear S_ S2 hcc HX7 q1 q2
      go_wp2_with fail
      refine HDN.out.mono ?_
      rintro e w_ ⟨rfl, hw_⟩
      rw [hw_]
      clear hw_ HDN
      go_wp2_with fail
      go_meet
      exact ⟨_, rfl, HS12⟩
    · have hdb : decide (blk L (c6.x, a7) 98304) = false := decide_eq_false hbk
      obtain ⟨q1, q2⟩ := HX7.out.2 hbk
      have y0 : w14.cell? ⟨tb, 0, none⟩ = some (iv c6.x) := (HS.out.boxGet k0m).cellv 0 _ rfl
      have y1 : w14.cell? ⟨tb, 1, none⟩ = some (iv a7) := (HS.out.boxGet k0m).cellv 1 _ rfl
      have HXB := Keep.mk (HS.out.boxGet k2m)
      go_wp2_with (first
        | (show wpList _ _ _ ({ dst := _, op := Op.store 23 _ _, type := _, pos := _, after := _, guard := _ } :: _) _ _
           refine store_at _ xb 2 (crv { c2 with x := c6.x }) [iv c6.x, iv a7] 23 25 rfl rfl rfl rfl HXB.out (show 2 + 2 ≤ 14 from by decide) infoVc (vv_one _ _) ?_))
      intro wz hS_ g_
      have S_ := bk1 [boxA tb [iv c6.x, iv a7] 23, boxA vb [iv c6.sx, iv c5.sy] 23] (hS_ _ _ (fr1 [boxA tb [iv c6.x, iv a7] 23, boxA vb [iv c6.sx, iv c5.sy] 23] HS.out))
      have HS12 : Keep (Sep w wz [boxA tb [iv c6.x, iv a7] 23, boxA vb [iv c6.sx, iv c7.sy] 23, boxA xb (crv { c2 with x := c6.x, y := c7.y }) 25, boxA rb zC14 25, boxA ib (itv i) 34]) := ⟨by rw [q1, q2]; exact S_⟩
      clear S_ hS_ g_ HX7 q1 q2 HXB y0 y1
      go_wp2_with fail
      go_meet
      exact ⟨_, rfl, HS12⟩
  case rest =>
  clear HS HX7 HA7
  obtain ⟨W15, rfl, HS⟩ := hcut
  have y0 : W15.cell? ⟨vb, 0, none⟩ = some (iv c6.sx) := (HS.out.boxGet k1m).cellv 0 _ rfl
  have y1 : W15.cell? ⟨vb, 1, none⟩ = some (iv c7.sy) := (HS.out.boxGet k1m).cellv 1 _ rfl
  have HXB := Keep.mk (HS.out.boxGet k2m)
  go_wp2_with (first
    | (show wpList _ _ _ ({ dst := _, op := Op.store 23 _ _, type := _, pos := _, after := _, guard := _ } :: _) _ _
       refine store_at _ xb 4 (crv { c2 with x := c6.x, y := c7.y }) [iv c6.sx, iv c7.sy] 23 25 rfl rfl rfl rfl HXB.out (show 4 + 2 ≤ 14 from by decide) infoVc (vv_one _ _) ?_))
  intro wz hS_ g_
  have S_ := hS_ _ _ (fr1 [boxA tb [iv c6.x, iv a7] 23, boxA vb [iv c6.sx, iv c7.sy] 23] HS.out)
  change Sep w wz [boxA xb (crv { c2 with x := c6.x, y := c7.y, sx := c6.sx, sy := c7.sy }) 25, boxA tb [iv c6.x, iv a7] 23, boxA vb [iv c6.sx, iv c7.sy] 23, boxA rb zC14 25, boxA ib (itv i) 34] at S_
  rw [← HF7.out] at S_
  replace HS := Keep.mk S_
  clear S_ hS_ g_ HXB y0 y1
  have RNG := Keep.mk (HS.out.boxGet k0m).range
  have HRB := Keep.mk (HS.out.boxGet k3m)
  have HL7 := Keep.mk (crv_one c7)
  go_wp2_with (first
    | (show wpList _ _ _ ({ dst := _, op := Op.load 25 _, type := _, pos := _, after := _, guard := _ } :: _) _ _
       refine wpList_load_mid rfl 25 _ rfl _ _ rfl _ _ RNG.out hdu hdr (infoC' c7) ?_)
    | (show wpList _ _ _ ({ dst := _, op := Op.store 25 _ _, type := _, pos := _, after := _, guard := _ } :: _) _ _
       refine store_at _ rb 0 zC14 (crv c7) 25 25 rfl rfl rfl rfl HRB.out (Nat.le_refl _) (infoC' c7) HL7.out ?_))
  intro wy hS_ g_
  have S_ := hS_ _ _ (fr1 [boxA xb (crv c7) 25, boxA tb [iv c6.x, iv a7] 23, boxA vb [iv c6.sx, iv c7.sy] 23] HS.out)
  rw [over_all zC14 (crv c7) rfl] at S_
  have HSZ := Keep.mk S_
  clear hS_ g_ S_ RNG HRB HS
  go_wp2_with fail
  exact ret_c rfl rfl (HSZ.out.boxGet k0m) hdu hdr (infoC' c7) rfl ⟨by rw [HD.out], HSZ.out.g⟩
end Go.Proofs.YtobdcngjpgndiabDoor.Bo
