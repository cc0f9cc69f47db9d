/- the reference's Fire -/
import Derived.Test.YtmacmoikjgmaoaaDoorH2
import Derived.Test.YtmacmoikjgmaoaaDoorH4
namespace Go.Proofs.YtmacmoikjgmaoaaDoor.Bo
open Go Go.RowKit

theorem vec_one (x y : Int) : ∀ v ∈ [iv x, iv y], v.oneCell' = true := by
  intro v hv
  simp only [List.mem_cons, List.not_mem_nil, or_false] at hv
  rcases hv with rfl | rfl <;> rfl
set_option maxRecDepth 100000 in
theorem built26r (a b l : Int) : Tryd.prog.built 26 [(0, iv a), (1, iv b), (4, iv l)] = some (shv ⟨a, b, 0, 0, 0, 0, l⟩).toArray := by kernel_rfl
theorem rsum_g (a b : Int) (ha : In a) (hb : In b) (w : World) :
    Calls Tryd.prog 39 #[.int .i64 a, .int .i64 b, .int .i64 1099511627776] w fun e w' => e = .returned (.int .i64 (addZ a b)) ∧ w.grownBy w' none :=
  (rsum_c a b ha hb w).mono fun e w' q => ⟨q.1, by rw [q.2]; exact World.grownBy.refl w _⟩
set_option maxRecDepth 100000 in
set_option maxHeartbeats 32000000 in
theorem rfire_c (w : World) (c : Cr) (id : Int) (ok : CrOk c) (hk : Kc w) :
    Calls Tryd.prog 19 #[.agg (crv c).toArray, iv id] w fun e w' => e = .returned (.tuple #[.agg (crv (firC c)).toArray, .agg (shv (firS c id)).toArray, .bool (rdy c)]) ∧ w.grownBy w' none := by
  obtain ⟨du, hdu, hdr⟩ := underC
  obtain ⟨ds, hds, hdsr⟩ := underS
  obtain ⟨dv, hdv, hdvr⟩ := underVc
  have S3 := (((Sep.nil w).newBox (crv c).toArray 38).newBox zC14.toArray 38).newBox zS7.toArray 26
  obtain ⟨W1, hW1⟩ : ∃ W1, w.alloc (.cells (crv c).toArray 38) = W1 := ⟨_, rfl⟩
  obtain ⟨xb, hxb⟩ : ∃ xb, w.heap.size = xb := ⟨_, rfl⟩
  rw [hW1, hxb] at S3
  obtain ⟨W2, hW2⟩ : ∃ W2, W1.alloc (.cells zC14.toArray 38) = W2 := ⟨_, rfl⟩
  obtain ⟨rc, hrc⟩ : ∃ rb, W1.heap.size = rb := ⟨_, rfl⟩
  rw [hW2, hrc] at S3
  obtain ⟨W3, hW3⟩ : ∃ W3, W2.alloc (.cells zS7.toArray 26) = W3 := ⟨_, rfl⟩
  obtain ⟨rs, hrs⟩ : ∃ rb, W2.heap.size = rb := ⟨_, rfl⟩
  rw [hW3, hrs] at S3
  rw [zC14_lit] at hW2
  rw [zS7_lit] at hW3
  change Sep w W3 [boxA rs zS7 26, boxA rc zC14 38, boxA xb (crv c) 38] at S3
  have hsz : (crv c).toArray.size = 14 := rfl
  have HU := Keep.mk (fun W (g : w.grownBy W none) => runit_c c.hd ok.hd W (hk.kept g))
  have HCO := Keep.mk (crv_one c)
  have HOK := Keep.mk ok
  have HD : Keep ((rdy c = true → (firC c = paid c ∧ firS c id = shot c id) ∧ 0 < c.am ∧ 8 ≤ c.en) ∧ (rdy c = false → firC c = c ∧ firS c id = zS)) := ⟨fun h => ⟨by unfold firC firS; rw [if_pos h, if_pos h]; exact ⟨rfl, rfl⟩, rdy_in h⟩, fun h => by unfold firC firS; rw [h]; exact ⟨rfl, rfl⟩⟩
  generalize firC c = fc at HD ⊢
  generalize firS c id = fs at HD ⊢
  have HRD : Keep (rdy c = (decide (¬ 0 < c.wa) && (decide (c.co = 0) && (decide (0 < c.am) && decide (8 ≤ c.en))))) := ⟨rfl⟩
  generalize rdy c = r at HD HRD ⊢
  have HS : Keep (Sep w W3 [boxA xb (crv c) 38, boxA rs zS7 26, boxA rc zC14 38]) := ⟨S3.third⟩
  have y11 : W3.cell? ⟨xb, 11, none⟩ = some (iv c.wa) := (HS.out.boxGet k0m).cellv 11 _ rfl
  have y10 : W3.cell? ⟨xb, 10, none⟩ = some (iv c.co) := (HS.out.boxGet k0m).cellv 10 _ rfl
  have y9 : W3.cell? ⟨xb, 9, none⟩ = some (iv c.am) := (HS.out.boxGet k0m).cellv 9 _ rfl
  have y8 : W3.cell? ⟨xb, 8, none⟩ = some (iv c.en) := (HS.out.boxGet k0m).cellv 8 _ rfl
  clear S3 hk ok
  go_enter Tryd.func19, Tryd.ntmps19
  go_upto_region 1 with fail
  go_cut [26] (fun sv wx => sv = .bool (!r) ∧ Keep (Sep w wx [boxA xb (crv c) 38, boxA rs zS7 26, boxA rc zC14 38]))
  case first =>
    by_cases hwa : 0 < c.wa
    · have d1 : decide (0 < c.wa) = true := decide_eq_true hwa
      have HE : Keep (r = false) := ⟨by rw [HRD.out]; simp [hwa]⟩
      go_wp2_with fail
      go_meet
      exact ⟨by rw [HE.out]; rfl, HS⟩
    have d1 : decide (0 < c.wa) = false := decide_eq_false hwa
    by_cases hco : c.co = 0
    · have d2 : (c.co != 0) = false := by simp [hco]
      have d2' : (c.co == 0) = true := by simp [hco]
      by_cases ham : 0 < c.am
      · have d3 : decide (c.am ≤ 0) = false := decide_eq_false (by omega)
        have HE : Keep ((!r) = decide (c.en < 8)) := ⟨by
          rw [HRD.out]
          by_cases q : c.en < 8
          · simp [hwa, hco, ham, q]
          · simp [hwa, hco, ham, q]; omega⟩
        clear hwa hco ham
        go_wp2_with fail
        go_meet
        exact ⟨by rw [HE.out], HS⟩
      · have d3 : decide (c.am ≤ 0) = true := decide_eq_true (by omega)
        have HE : Keep (r = false) := ⟨by rw [HRD.out]; simp [hwa, hco, ham]⟩
        clear hwa hco ham
        go_wp2_with fail
        go_meet
        exact ⟨by rw [HE.out]; rfl, HS⟩
    · have d2 : (c.co != 0) = true := by simp [hco]
      have d2' : (c.co == 0) = false := by simp [hco]
      have HE : Keep (r = false) := ⟨by rw [HRD.out]; simp [hwa, hco]⟩
      clear hwa hco
      go_wp2_with fail
      go_meet
      exact ⟨by rw [HE.out]; rfl, HS⟩
  case rest =>
  replace HS := hcut.2
  replace hcut := hcut.1
  subst hcut
  rename World => w3
  clear HRD y11 y10 y9 y8 hW1 hW2 hW3 hxb hrc hrs
  cases r
  case true =>
    obtain ⟨hf, hr2⟩ := HD.out.1 rfl
    have HFE := Keep.mk hf
    have HR2 := Keep.mk hr2
    clear HD hf hr2
    have y6 : w3.cell? ⟨xb, 6, none⟩ = some (iv c.hd) := (HS.out.boxGet k0m).cellv 6 _ rfl
    go_wp2_with fail
    refine (HU.out _ HS.out.g).mono ?_
    rintro e w4 ⟨rfl, g_⟩
    replace HS := Keep.mk (HS.out.grown g_)
    clear g_ HU y6
    have b1 := sin_range (c.hd + 64)
    have b2 := sin_range c.hd
    have k2x : Keep (IntKind.i64.wrap (2 * sinZ (c.hd + 64)) = 2 * sinZ (c.hd + 64)) := ⟨wi _ (by omega) (by omega)⟩
    have k2y : Keep (IntKind.i64.wrap (2 * sinZ c.hd) = 2 * sinZ c.hd) := ⟨wi _ (by omega) (by omega)⟩
    have k3x : Keep (IntKind.i64.wrap (3 * sinZ (c.hd + 64)) = 3 * sinZ (c.hd + 64)) := ⟨wi _ (by omega) (by omega)⟩
    have k3y : Keep (IntKind.i64.wrap (3 * sinZ c.hd) = 3 * sinZ c.hd) := ⟨wi _ (by omega) (by omega)⟩
    have HSk2x := Keep.mk (fun W => rsum_g c.x (2 * sinZ (c.hd + 64)) HOK.out.x ⟨by omega, by omega⟩ W)
    have HSk2y := Keep.mk (fun W => rsum_g c.y (2 * sinZ c.hd) HOK.out.y ⟨by omega, by omega⟩ W)
    have HSk3x := Keep.mk (fun W => rsum_g c.sx (3 * sinZ (c.hd + 64)) HOK.out.sx ⟨by omega, by omega⟩ W)
    have HSk3y := Keep.mk (fun W => rsum_g c.sy (3 * sinZ c.hd) HOK.out.sy ⟨by omega, by omega⟩ W)
    clear b1 b2
    have HSH : Keep (shot c id = ⟨id, c.pl, addZ c.x (2 * sinZ (c.hd + 64)), addZ c.y (2 * sinZ c.hd), addZ c.sx (3 * sinZ (c.hd + 64)), addZ c.sy (3 * sinZ c.hd), 48⟩) := ⟨rfl⟩
    generalize addZ c.x (2 * sinZ (c.hd + 64)) = s2 at *
    generalize addZ c.y (2 * sinZ c.hd) = s3 at *
    generalize addZ c.sx (3 * sinZ (c.hd + 64)) = s4 at *
    generalize addZ c.sy (3 * sinZ c.hd) = s5 at *
    generalize sinZ (c.hd + 64) = ux at *
    generalize sinZ c.hd = uy at *
    obtain ⟨s, hs⟩ : ∃ s, shot c id = s := ⟨_, rfl⟩
    rw [hs] at HFE HSH
    clear hs
    obtain ⟨m2, hm2⟩ : ∃ m, 2 * ux = m := ⟨_, rfl⟩
    rw [hm2] at HSk2x
    have k2x : Keep (IntKind.i64.wrap (2 * ux) = m2) := ⟨k2x.out.trans hm2⟩
    obtain ⟨m3, hm3⟩ : ∃ m, 2 * uy = m := ⟨_, rfl⟩
    rw [hm3] at HSk2y
    have k2y : Keep (IntKind.i64.wrap (2 * uy) = m3) := ⟨k2y.out.trans hm3⟩
    obtain ⟨m4, hm4⟩ : ∃ m, 3 * ux = m := ⟨_, rfl⟩
    rw [hm4] at HSk3x
    have k3x : Keep (IntKind.i64.wrap (3 * ux) = m4) := ⟨k3x.out.trans hm4⟩
    obtain ⟨m5, hm5⟩ : ∃ m, 3 * uy = m := ⟨_, rfl⟩
    rw [hm5] at HSk3y
    have k3y : Keep (IntKind.i64.wrap (3 * uy) = m5) := ⟨k3y.out.trans hm5⟩
    clear hm2 hm3 hm4 hm5
    have HBU := Keep.mk (built26r id c.pl 48)
    have HSO := Keep.mk (shv_one ⟨id, c.pl, 0, 0, 0, 0, 48⟩)
    have S5 := HS.out.newBox #[iv ux, iv uy] 24
    obtain ⟨W5, hW5⟩ : ∃ W_, w4.alloc (.cells #[iv ux, iv uy] 24) = W_ := ⟨_, rfl⟩
    obtain ⟨ub, hub⟩ : ∃ b_, w4.heap.size = b_ := ⟨_, rfl⟩
    rw [hW5, hub] at S5
    change Sep w W5 [boxA ub [iv ux, iv uy] 24, boxA xb (crv c) 38, boxA rs zS7 26, boxA rc zC14 38] at S5
    have z0 : W5.cell? ⟨xb, 0, none⟩ = some (iv c.pl) := (S5.boxGet k1m).cellv 0 _ rfl
    have S6 := S5.newBox zS7.toArray 26
    obtain ⟨W6, hW6⟩ : ∃ W_, W5.alloc (.cells zS7.toArray 26) = W_ := ⟨_, rfl⟩
    obtain ⟨tb, htb⟩ : ∃ b_, W5.heap.size = b_ := ⟨_, rfl⟩
    rw [hW6, htb] at S6
    rw [zS7_lit] at hW6
    change Sep w W6 (boxA tb zS7 26 :: [boxA ub [iv ux, iv uy] 24, boxA xb (crv c) 38, boxA rs zS7 26, boxA rc zC14 38]) at S6
    have HX := Keep.mk (S6.boxGet k0m)
    have HB := Keep.mk S6
    clear S5 S6 HS
    go_wp2_with (first
      | (show wpList _ _ _ ({ dst := _, op := Op.build 26 _, type := _, pos := _, after := _, guard := _ } :: _) _ _
         refine build_g (by rfl) 26 _ rfl _ ((congrArg (Tryd.prog.built 26) (by simp only [List.map_toArray, List.map_cons, List.map_nil]; rfl)).trans HBU.out) ?_)
      | (show wpList _ _ _ ({ dst := _, op := Op.store 26 _ _, type := _, pos := _, after := _, guard := _ } :: _) _ _
         refine store_at _ tb 0 zS7 (shv ⟨id, c.pl, 0, 0, 0, 0, 48⟩) 26 26 rfl rfl rfl rfl HX.out (Nat.le_refl _) infoS HSO.out ?_))
    intro wq hS5 g5
    have S5 := hS5 _ _ HB.out
    rw [over_all zS7 (shv ⟨id, c.pl, 0, 0, 0, 0, 48⟩) rfl] at S5
    replace HB : Keep (Sep w wq (boxA tb (shv ⟨id, c.pl, 0, 0, 0, 0, 48⟩) 26 :: [boxA ub [iv ux, iv uy] 24, boxA xb (crv c) 38, boxA rs zS7 26, boxA rc zC14 38])) := Keep.mk S5
    clear hS5 g5 S5 HX hW5 hub hW6 htb z0 HSO HBU
    go_wp2_with fail
    replace HB := Keep.mk (HB.out.grown (gr_drew _ none))
    refine region_X (S := fun w' => Sep w w' [boxA ub [iv ux, iv uy] 24, boxA xb (crv c) 38, boxA rs zS7 26, boxA rc zC14 38]) [] (by kernel_rfl) HB.out.tail (fun hHeld => ?_)
    obtain ⟨W0, hW0⟩ : ∃ W_, wq.drew = W_ := ⟨_, rfl⟩
    rw [hW0] at HB hHeld ⊢
    clear hW0
    refine wpAnyX_take (i := 0) (oi := _) (v := ?_) rfl (by kernel_rfl) (by kernel_rfl) (by kernel_rfl) (by kernel_rfl) (by kernel_rfl) (fun _ _ _ h => h) (Or.inl ⟨by rfl, ?_⟩) (by assumption) ?_
    rotate_left
    · (intro w hSw; go_simp; first | done | (with_reducible rfl))
    simp only [Act.put, List.getElem_toArray, List.getElem_cons_zero, List.setIfInBounds_toArray, List.set_cons_zero, List.set_cons_succ]
    refine wpAnyX_take (i := 1) (oi := _) (v := ?_) rfl (by kernel_rfl) (by kernel_rfl) (by kernel_rfl) (by kernel_rfl) (by kernel_rfl) (fun _ _ _ h => h) (Or.inl ⟨by rfl, ?_⟩) (by assumption) ?_
    rotate_left
    · (intro w hSw; go_simp; first | done | (with_reducible rfl))
    simp only [Act.put, List.getElem_toArray, List.getElem_cons_succ, List.getElem_cons_zero, List.setIfInBounds_toArray, List.set_cons_zero, List.set_cons_succ]
    refine wpAnyX_take (i := 2) (oi := _) (v := ?_) rfl (by kernel_rfl) (by kernel_rfl) (by kernel_rfl) (by kernel_rfl) (by kernel_rfl) (fun _ _ _ h => h) (Or.inl ⟨by rfl, ?_⟩) (by assumption) ?_
    rotate_left
    · (intro w hSw; have q0 := (hSw.boxGet k1m).cellv 2 _ rfl; go_simp; first | done | (with_reducible rfl))
    simp only [Act.put, List.getElem_toArray, List.getElem_cons_succ, List.getElem_cons_zero, List.setIfInBounds_toArray, List.set_cons_zero, List.set_cons_succ]
    refine wpAnyX_take (i := 3) (oi := _) (v := ?_) rfl (by kernel_rfl) (by kernel_rfl) (by kernel_rfl) (by kernel_rfl) (by kernel_rfl) (fun _ _ _ h => h) (Or.inl ⟨by rfl, ?_⟩) (by assumption) ?_
    rotate_left
    · (intro w hSw; go_simp; first | done | (with_reducible rfl))
    simp only [Act.put, List.getElem_toArray, List.getElem_cons_succ, List.getElem_cons_zero, List.setIfInBounds_toArray, List.set_cons_zero, List.set_cons_succ]
    refine wpAnyX_take (i := 4) (oi := _) (v := ?_) rfl (by kernel_rfl) (by kernel_rfl) (by kernel_rfl) (by kernel_rfl) (by kernel_rfl) (fun _ _ _ h => h) (Or.inl ⟨by rfl, ?_⟩) (by assumption) ?_
    rotate_left
    · (intro w hSw; have q0 := (hSw.boxGet k0m).cellv 0 _ rfl; go_simp; first | done | (with_reducible rfl))
    simp only [Act.put, List.getElem_toArray, List.getElem_cons_succ, List.getElem_cons_zero, List.setIfInBounds_toArray, List.set_cons_zero, List.set_cons_succ]
    refine wpAnyX_take (i := 5) (oi := _) (v := ?_) rfl (by kernel_rfl) (by kernel_rfl) (by kernel_rfl) (by kernel_rfl) (by kernel_rfl) (fun _ _ _ h => h) (Or.inl ⟨by rfl, ?_⟩) (by assumption) ?_
    rotate_left
    · (intro w hSw; have q0 := k2x.out; go_simp; first | done | (with_reducible rfl))
    simp only [Act.put, List.getElem_toArray, List.getElem_cons_succ, List.getElem_cons_zero, List.setIfInBounds_toArray, List.set_cons_zero, List.set_cons_succ]
    refine wpAnyX_take (i := 7) (oi := _) (v := ?_) rfl (by kernel_rfl) (by kernel_rfl) (by kernel_rfl) (by kernel_rfl) (by kernel_rfl) (fun _ _ _ h => h) (Or.inl ⟨by rfl, ?_⟩) (by assumption) ?_
    rotate_left
    · (intro w hSw; go_simp; first | done | (with_reducible rfl))
    simp only [Act.put, List.getElem_toArray, List.getElem_cons_succ, List.getElem_cons_zero, List.setIfInBounds_toArray, List.set_cons_zero, List.set_cons_succ]
    refine wpAnyX_take (i := 8) (oi := _) (v := ?_) rfl (by kernel_rfl) (by kernel_rfl) (by kernel_rfl) (by kernel_rfl) (by kernel_rfl) (fun _ _ _ h => h) (Or.inl ⟨by rfl, ?_⟩) (by assumption) ?_
    rotate_left
    · (intro w hSw; go_simp; first | done | (with_reducible rfl))
    simp only [Act.put, List.getElem_toArray, List.getElem_cons_succ, List.getElem_cons_zero, List.setIfInBounds_toArray, List.set_cons_zero, List.set_cons_succ]
    refine wpAnyX_take (i := 9) (oi := _) (v := ?_) rfl (by kernel_rfl) (by kernel_rfl) (by kernel_rfl) (by kernel_rfl) (by kernel_rfl) (fun _ _ _ h => h) (Or.inl ⟨by rfl, ?_⟩) (by assumption) ?_
    rotate_left
    · (intro w hSw; have q0 := (hSw.boxGet k1m).cellv 3 _ rfl; go_simp; first | done | (with_reducible rfl))
    simp only [Act.put, List.getElem_toArray, List.getElem_cons_succ, List.getElem_cons_zero, List.setIfInBounds_toArray, List.set_cons_zero, List.set_cons_succ]
    refine wpAnyX_take (i := 10) (oi := _) (v := ?_) rfl (by kernel_rfl) (by kernel_rfl) (by kernel_rfl) (by kernel_rfl) (by kernel_rfl) (fun _ _ _ h => h) (Or.inl ⟨by rfl, ?_⟩) (by assumption) ?_
    rotate_left
    · (intro w hSw; go_simp; first | done | (with_reducible rfl))
    simp only [Act.put, List.getElem_toArray, List.getElem_cons_succ, List.getElem_cons_zero, List.setIfInBounds_toArray, List.set_cons_zero, List.set_cons_succ]
    refine wpAnyX_take (i := 11) (oi := _) (v := ?_) rfl (by kernel_rfl) (by kernel_rfl) (by kernel_rfl) (by kernel_rfl) (by kernel_rfl) (fun _ _ _ h => h) (Or.inl ⟨by rfl, ?_⟩) (by assumption) ?_
    rotate_left
    · (intro w hSw; have q0 := (hSw.boxGet k0m).cellv 1 _ rfl; go_simp; first | done | (with_reducible rfl))
    simp only [Act.put, List.getElem_toArray, List.getElem_cons_succ, List.getElem_cons_zero, List.setIfInBounds_toArray, List.set_cons_zero, List.set_cons_succ]
    refine wpAnyX_take (i := 12) (oi := _) (v := ?_) rfl (by kernel_rfl) (by kernel_rfl) (by kernel_rfl) (by kernel_rfl) (by kernel_rfl) (fun _ _ _ h => h) (Or.inl ⟨by rfl, ?_⟩) (by assumption) ?_
    rotate_left
    · (intro w hSw; have q0 := k2y.out; go_simp; first | done | (with_reducible rfl))
    simp only [Act.put, List.getElem_toArray, List.getElem_cons_succ, List.getElem_cons_zero, List.setIfInBounds_toArray, List.set_cons_zero, List.set_cons_succ]
    refine wpAnyX_one (i := 6) (by kernel_rfl) rfl (fun K hK => ?_)
    go_simp
    refine (HSk2x.out _).mono ?_
    rintro e wg1 ⟨rfl, hg⟩
    replace HB := Keep.mk (HB.out.grown hg)
    refine hK.out _ _ HB.out.tail (fun hHeld => ?_)
    clear hK K hg
    refine wpAnyX_one (i := 13) (by kernel_rfl) rfl (fun K hK => ?_)
    go_simp
    refine (HSk2y.out _).mono ?_
    rintro e wg2 ⟨rfl, hg⟩
    replace HB := Keep.mk (HB.out.grown hg)
    refine hK.out _ _ HB.out.tail (fun hHeld => ?_)
    clear hK K hg
    refine wpAnyX_take (i := 14) (oi := _) (v := ?_) rfl (by kernel_rfl) (by kernel_rfl) (by kernel_rfl) (by kernel_rfl) (by kernel_rfl) (fun _ _ _ h => h) (Or.inl ⟨by rfl, ?_⟩) (by assumption) ?_
    rotate_left
    · (intro w hSw; go_simp; first | done | (with_reducible rfl))
    simp only [Act.put, List.getElem_toArray, List.getElem_cons_succ, List.getElem_cons_zero, List.setIfInBounds_toArray, List.set_cons_zero, List.set_cons_succ]
    refine wpAnyX_take (i := 15) (oi := _) (v := ?_) rfl (by kernel_rfl) (by kernel_rfl) (by kernel_rfl) (by kernel_rfl) (by kernel_rfl) (fun _ _ _ h => h) (Or.inl ⟨by rfl, ?_⟩) (by assumption) ?_
    rotate_left
    · (intro w hSw; go_simp; first | done | (with_reducible rfl))
    simp only [Act.put, List.getElem_toArray, List.getElem_cons_succ, List.getElem_cons_zero, List.setIfInBounds_toArray, List.set_cons_zero, List.set_cons_succ]
    refine wpAnyX_one (i := 16) (by kernel_rfl) rfl (fun K hK => ?_)
    rw [if_pos (show Region.wanted _ _ = true from rfl)]
    refine wp_store_mid 24 _ _ rfl tb 2 #[iv s2, iv s3] rfl rfl ((HB.out.boxGet k0m).there 2 2 (by rw [shv_len]; decide)) infoVc (all_oneCell_toArray (vec_one s2 s3)) ?_
    have S_ := HB.out.boxTurn ((HB.out.boxGet k0m).setCells [iv s2, iv s3] 2) (gr_sets _ _ _ _)
    change Sep w _ (boxA tb (shv ⟨id, c.pl, s2, s3, 0, 0, 48⟩) 26 :: [boxA ub [iv ux, iv uy] 24, boxA xb (crv c) 38, boxA rs zS7 26, boxA rc zC14 38]) at S_
    refine hK.out _ _ S_.tail (fun hHeld => ?_)
    replace HB := Keep.mk S_
    clear hK K S_
    change Keep (Sep w (World.setCells wg2 tb 2 [iv s2, iv s3]) _) at HB
    change wpAnyX _ _ _ _ _ _ _ _ _ (World.setCells wg2 tb 2 [iv s2, iv s3])
    change Sep w (World.setCells wg2 tb 2 [iv s2, iv s3]) _ at hHeld
    generalize World.setCells wg2 tb 2 [iv s2, iv s3] = ws3 at HB hHeld ⊢
    simp only [Act.put, List.getElem_toArray, List.getElem_cons_succ, List.getElem_cons_zero]
    refine wpAnyX_done (by kernel_rfl) ?_ _
    clear hHeld
    go_wp2_with fail
    have HE : Keep (s = ⟨id, c.pl, s2, s3, s4, s5, 48⟩) := HSH
    obtain ⟨wp, hwp⟩ : ∃ wp, ws3 = wp := ⟨_, rfl⟩
    rw [hwp] at HB
    rw [show Code.wp Tryd.prog _ _ _ ws3 = Code.wp Tryd.prog _ _ _ wp from by rw [hwp]]
    clear hwp
    obtain rfl := HE.out
    replace HB := Keep.mk (HB.out.grown (gr_drew _ none))
    refine region_X (S := fun w' => Sep w w' [boxA ub [iv ux, iv uy] 24, boxA xb (crv c) 38, boxA rs zS7 26, boxA rc zC14 38]) [] (by kernel_rfl) HB.out.tail (fun hHeld => ?_)
    obtain ⟨W0, hW0⟩ : ∃ W_, wp.drew = W_ := ⟨_, rfl⟩
    rw [hW0] at HB hHeld ⊢
    clear hW0
    refine wpAnyX_take (i := 0) (oi := _) (v := ?_) rfl (by kernel_rfl) (by kernel_rfl) (by kernel_rfl) (by kernel_rfl) (by kernel_rfl) (fun _ _ _ h => h) (Or.inl ⟨by rfl, ?_⟩) (by assumption) ?_
    rotate_left
    · (intro w hSw; go_simp; first | done | (with_reducible rfl))
    simp only [Act.put, List.getElem_toArray, List.getElem_cons_zero, List.setIfInBounds_toArray, List.set_cons_zero, List.set_cons_succ]
    refine wpAnyX_take (i := 1) (oi := _) (v := ?_) rfl (by kernel_rfl) (by kernel_rfl) (by kernel_rfl) (by kernel_rfl) (by kernel_rfl) (fun _ _ _ h => h) (Or.inl ⟨by rfl, ?_⟩) (by assumption) ?_
    rotate_left
    · (intro w hSw; go_simp; first | done | (with_reducible rfl))
    simp only [Act.put, List.getElem_toArray, List.getElem_cons_succ, List.getElem_cons_zero, List.setIfInBounds_toArray, List.set_cons_zero, List.set_cons_succ]
    refine wpAnyX_take (i := 2) (oi := _) (v := ?_) rfl (by kernel_rfl) (by kernel_rfl) (by kernel_rfl) (by kernel_rfl) (by kernel_rfl) (fun _ _ _ h => h) (Or.inl ⟨by rfl, ?_⟩) (by assumption) ?_
    rotate_left
    · (intro w hSw; have q0 := (hSw.boxGet k1m).cellv 4 _ rfl; go_simp; first | done | (with_reducible rfl))
    simp only [Act.put, List.getElem_toArray, List.getElem_cons_succ, List.getElem_cons_zero, List.setIfInBounds_toArray, List.set_cons_zero, List.set_cons_succ]
    refine wpAnyX_take (i := 3) (oi := _) (v := ?_) rfl (by kernel_rfl) (by kernel_rfl) (by kernel_rfl) (by kernel_rfl) (by kernel_rfl) (fun _ _ _ h => h) (Or.inl ⟨by rfl, ?_⟩) (by assumption) ?_
    rotate_left
    · (intro w hSw; go_simp; first | done | (with_reducible rfl))
    simp only [Act.put, List.getElem_toArray, List.getElem_cons_succ, List.getElem_cons_zero, List.setIfInBounds_toArray, List.set_cons_zero, List.set_cons_succ]
    refine wpAnyX_take (i := 4) (oi := _) (v := ?_) rfl (by kernel_rfl) (by kernel_rfl) (by kernel_rfl) (by kernel_rfl) (by kernel_rfl) (fun _ _ _ h => h) (Or.inl ⟨by rfl, ?_⟩) (by assumption) ?_
    rotate_left
    · (intro w hSw; have q0 := (hSw.boxGet k0m).cellv 0 _ rfl; go_simp; first | done | (with_reducible rfl))
    simp only [Act.put, List.getElem_toArray, List.getElem_cons_succ, List.getElem_cons_zero, List.setIfInBounds_toArray, List.set_cons_zero, List.set_cons_succ]
    refine wpAnyX_take (i := 5) (oi := _) (v := ?_) rfl (by kernel_rfl) (by kernel_rfl) (by kernel_rfl) (by kernel_rfl) (by kernel_rfl) (fun _ _ _ h => h) (Or.inl ⟨by rfl, ?_⟩) (by assumption) ?_
    rotate_left
    · (intro w hSw; have q0 := k3x.out; go_simp; first | done | (with_reducible rfl))
    simp only [Act.put, List.getElem_toArray, List.getElem_cons_succ, List.getElem_cons_zero, List.setIfInBounds_toArray, List.set_cons_zero, List.set_cons_succ]
    refine wpAnyX_take (i := 7) (oi := _) (v := ?_) rfl (by kernel_rfl) (by kernel_rfl) (by kernel_rfl) (by kernel_rfl) (by kernel_rfl) (fun _ _ _ h => h) (Or.inl ⟨by rfl, ?_⟩) (by assumption) ?_
    rotate_left
    · (intro w hSw; go_simp; first | done | (with_reducible rfl))
    simp only [Act.put, List.getElem_toArray, List.getElem_cons_succ, List.getElem_cons_zero, List.setIfInBounds_toArray, List.set_cons_zero, List.set_cons_succ]
    refine wpAnyX_take (i := 8) (oi := _) (v := ?_) rfl (by kernel_rfl) (by kernel_rfl) (by kernel_rfl) (by kernel_rfl) (by kernel_rfl) (fun _ _ _ h => h) (Or.inl ⟨by rfl, ?_⟩) (by assumption) ?_
    rotate_left
    · (intro w hSw; go_simp; first | done | (with_reducible rfl))
    simp only [Act.put, List.getElem_toArray, List.getElem_cons_succ, List.getElem_cons_zero, List.setIfInBounds_toArray, List.set_cons_zero, List.set_cons_succ]
    refine wpAnyX_take (i := 9) (oi := _) (v := ?_) rfl (by kernel_rfl) (by kernel_rfl) (by kernel_rfl) (by kernel_rfl) (by kernel_rfl) (fun _ _ _ h => h) (Or.inl ⟨by rfl, ?_⟩) (by assumption) ?_
    rotate_left
    · (intro w hSw; have q0 := (hSw.boxGet k1m).cellv 5 _ rfl; go_simp; first | done | (with_reducible rfl))
    simp only [Act.put, List.getElem_toArray, List.getElem_cons_succ, List.getElem_cons_zero, List.setIfInBounds_toArray, List.set_cons_zero, List.set_cons_succ]
    refine wpAnyX_take (i := 10) (oi := _) (v := ?_) rfl (by kernel_rfl) (by kernel_rfl) (by kernel_rfl) (by kernel_rfl) (by kernel_rfl) (fun _ _ _ h => h) (Or.inl ⟨by rfl, ?_⟩) (by assumption) ?_
    rotate_left
    · (intro w hSw; go_simp; first | done | (with_reducible rfl))
    simp only [Act.put, List.getElem_toArray, List.getElem_cons_succ, List.getElem_cons_zero, List.setIfInBounds_toArray, List.set_cons_zero, List.set_cons_succ]
    refine wpAnyX_take (i := 11) (oi := _) (v := ?_) rfl (by kernel_rfl) (by kernel_rfl) (by kernel_rfl) (by kernel_rfl) (by kernel_rfl) (fun _ _ _ h => h) (Or.inl ⟨by rfl, ?_⟩) (by assumption) ?_
    rotate_left
    · (intro w hSw; have q0 := (hSw.boxGet k0m).cellv 1 _ rfl; go_simp; first | done | (with_reducible rfl))
    simp only [Act.put, List.getElem_toArray, List.getElem_cons_succ, List.getElem_cons_zero, List.setIfInBounds_toArray, List.set_cons_zero, List.set_cons_succ]
    refine wpAnyX_take (i := 12) (oi := _) (v := ?_) rfl (by kernel_rfl) (by kernel_rfl) (by kernel_rfl) (by kernel_rfl) (by kernel_rfl) (fun _ _ _ h => h) (Or.inl ⟨by rfl, ?_⟩) (by assumption) ?_
    rotate_left
    · (intro w hSw; have q0 := k3y.out; go_simp; first | done | (with_reducible rfl))
    simp only [Act.put, List.getElem_toArray, List.getElem_cons_succ, List.getElem_cons_zero, List.setIfInBounds_toArray, List.set_cons_zero, List.set_cons_succ]
    refine wpAnyX_one (i := 6) (by kernel_rfl) rfl (fun K hK => ?_)
    go_simp
    refine (HSk3x.out _).mono ?_
    rintro e wg1 ⟨rfl, hg⟩
    replace HB := Keep.mk (HB.out.grown hg)
    refine hK.out _ _ HB.out.tail (fun hHeld => ?_)
    clear hK K hg
    refine wpAnyX_one (i := 13) (by kernel_rfl) rfl (fun K hK => ?_)
    go_simp
    refine (HSk3y.out _).mono ?_
    rintro e wg2 ⟨rfl, hg⟩
    replace HB := Keep.mk (HB.out.grown hg)
    refine hK.out _ _ HB.out.tail (fun hHeld => ?_)
    clear hK K hg
    refine wpAnyX_take (i := 14) (oi := _) (v := ?_) rfl (by kernel_rfl) (by kernel_rfl) (by kernel_rfl) (by kernel_rfl) (by kernel_rfl) (fun _ _ _ h => h) (Or.inl ⟨by rfl, ?_⟩) (by assumption) ?_
    rotate_left
    · (intro w hSw; go_simp; first | done | (with_reducible rfl))
    simp only [Act.put, List.getElem_toArray, List.getElem_cons_succ, List.getElem_cons_zero, List.setIfInBounds_toArray, List.set_cons_zero, List.set_cons_succ]
    refine wpAnyX_take (i := 15) (oi := _) (v := ?_) rfl (by kernel_rfl) (by kernel_rfl) (by kernel_rfl) (by kernel_rfl) (by kernel_rfl) (fun _ _ _ h => h) (Or.inl ⟨by rfl, ?_⟩) (by assumption) ?_
    rotate_left
    · (intro w hSw; go_simp; first | done | (with_reducible rfl))
    simp only [Act.put, List.getElem_toArray, List.getElem_cons_succ, List.getElem_cons_zero, List.setIfInBounds_toArray, List.set_cons_zero, List.set_cons_succ]
    refine wpAnyX_one (i := 16) (by kernel_rfl) rfl (fun K hK => ?_)
    rw [if_pos (show Region.wanted _ _ = true from rfl)]
    refine wp_store_mid 24 _ _ rfl tb 4 #[iv s4, iv s5] rfl rfl ((HB.out.boxGet k0m).there 4 2 (by rw [shv_len]; decide)) infoVc (all_oneCell_toArray (vec_one s4 s5)) ?_
    have S_ := HB.out.boxTurn ((HB.out.boxGet k0m).setCells [iv s4, iv s5] 4) (gr_sets _ _ _ _)
    change Sep w _ (boxA tb (shv ⟨id, c.pl, s2, s3, s4, s5, 48⟩) 26 :: [boxA ub [iv ux, iv uy] 24, boxA xb (crv c) 38, boxA rs zS7 26, boxA rc zC14 38]) at S_
    refine hK.out _ _ S_.tail (fun hHeld => ?_)
    replace HB := Keep.mk S_
    clear hK K S_
    change Keep (Sep w (World.setCells wg2 tb 4 [iv s4, iv s5]) _) at HB
    change wpAnyX _ _ _ _ _ _ _ _ _ (World.setCells wg2 tb 4 [iv s4, iv s5])
    change Sep w (World.setCells wg2 tb 4 [iv s4, iv s5]) _ at hHeld
    generalize World.setCells wg2 tb 4 [iv s4, iv s5] = ws3 at HB hHeld ⊢
    simp only [Act.put, List.getElem_toArray, List.getElem_cons_succ, List.getElem_cons_zero]
    refine wpAnyX_done (by kernel_rfl) ?_ _
    clear hHeld
    generalize (⟨id, c.pl, s2, s3, s4, s5, 48⟩ : Sh) = s at *
    have HSO := Keep.mk (shv_one s)
    rename_i w6
    have HS : Keep (Sep w ws3 [boxA xb (crv c) 38, boxA rs zS7 26, boxA rc zC14 38, boxA tb (shv s) 26]) := ⟨(fr1 [_] HB.out).tail |>.perm (List.perm_append_comm (l₁ := [boxA tb (shv s) 26]) (l₂ := [boxA xb (crv c) 38, boxA rs zS7 26, boxA rc zC14 38]))⟩
    obtain ⟨w6, hw6⟩ : ∃ w6, ws3 = w6 := ⟨_, rfl⟩
    subst hw6
    have y9 : ws3.cell? ⟨xb, 9, none⟩ = some (iv c.am) := (HS.out.boxGet k0m).cellv 9 _ rfl
    have f9 : ws3.frozen? ⟨xb, 9, none⟩ = false := (HS.out.boxGet k0m).frozen 9
    have k9 : IntKind.i64.wrap (c.am - 1) = c.am - 1 := wi _ (by have := HR2.out.1; omega) (by have := HOK.out.am.2; omega)
    have k8 : IntKind.i64.wrap (c.en - 8) = c.en - 8 := wi _ (by have := HR2.out.2; omega) (by have := HOK.out.en.2; omega)
    have S7 := HS.out.boxPut 9 (iv (c.am - 1))
    obtain ⟨w7, hw7⟩ : ∃ w4, ws3.setCell ⟨xb, 9, none⟩ (iv (c.am - 1)) = w4 := ⟨_, rfl⟩
    rw [hw7] at S7
    have y8 : w7.cell? ⟨xb, 8, none⟩ = some (iv c.en) := (S7.boxGet k0m).cellv 8 _ rfl
    have f8 : w7.frozen? ⟨xb, 8, none⟩ = false := (S7.boxGet k0m).frozen 8
    have S8 := S7.boxPut 8 (iv (c.en - 8))
    obtain ⟨w8, hw8⟩ : ∃ w4, w7.setCell ⟨xb, 8, none⟩ (iv (c.en - 8)) = w4 := ⟨_, rfl⟩
    rw [hw8] at S8
    have y10 : w8.cell? ⟨xb, 10, none⟩ = some (iv c.co) := (S8.boxGet k0m).cellv 10 _ rfl
    have f10 : w8.frozen? ⟨xb, 10, none⟩ = false := (S8.boxGet k0m).frozen 10
    have S9 := S8.boxPut 10 (iv 8)
    obtain ⟨w9, hw9⟩ : ∃ w4, w8.setCell ⟨xb, 10, none⟩ (iv 8) = w4 := ⟨_, rfl⟩
    rw [hw9] at S9
    change Sep w w9 [boxA xb (crv (paid c)) 38, boxA rs zS7 26, boxA rc zC14 38, boxA tb (shv s) 26] at S9
    generalize paid c = d at *
    have HDO := Keep.mk (crv_one d)
    have HF0 : Keep (Sep w w9 [boxA rc zC14 38, boxA rs zS7 26, boxA xb (crv d) 38, boxA tb (shv s) 26]) := ⟨S9.third.third.swap⟩
    clear S7 S8 S9 HS
    go_wp2_with fail
    have HF := Keep.mk (HF0.out.grown (gr_drew _ none))
    clear HF0 hw7 hw8 hw9 y8 y9 y10 f8 f9 f10
    refine region_X (S := fun w' => Sep w w' [boxA xb (crv d) 38, boxA tb (shv s) 26]) [] (by kernel_rfl) (HF.out.tail.tail) (fun hHeld => ?_)
    obtain ⟨W9, hW9⟩ : ∃ W_, w9.drew = W_ := ⟨_, rfl⟩
    rw [hW9] at HF hHeld ⊢
    clear hW9
    refine wpAnyX_take (i := 0) (oi := _) (v := _) rfl (by kernel_rfl) (by kernel_rfl) (by kernel_rfl) (by kernel_rfl) (by kernel_rfl) (fun _ _ _ h => h) (yieldsIf_load_mid (by rfl) 38 _ rfl _ _ rfl _ _ (fun w_ hS_ => (hS_.boxGet k0m).range) hdu hdr (infoC' d)) (by assumption) ?_
    simp only [Act.put, List.getElem_toArray, List.getElem_cons_zero, List.setIfInBounds_toArray, List.set_cons_zero, List.set_cons_succ]
    refine wpAnyX_take (i := 1) (oi := _) (v := _) rfl (by kernel_rfl) (by kernel_rfl) (by kernel_rfl) (by kernel_rfl) (by kernel_rfl) (fun _ _ _ h => h) (yieldsIf_load_mid (by rfl) 26 _ rfl _ _ rfl _ _ (fun w_ hS_ => (hS_.boxGet k1m).range) hds hdsr (infoS' s)) (by assumption) ?_
    simp only [Act.put, List.getElem_toArray, List.getElem_cons_succ, List.getElem_cons_zero, List.setIfInBounds_toArray, List.set_cons_zero, List.set_cons_succ]
    refine wpAnyX_one (i := 2) (by kernel_rfl) rfl (fun K hK => ?_)
    rw [if_pos (show Region.wanted _ _ = true from rfl)]
    refine wp_store_mid 38 _ _ rfl rc 0 (crv d).toArray rfl rfl ((HF.out.boxGet k0m).there 0 14 (Nat.le_refl _)) infoC (all_oneCell_toArray HDO.out) ?_
    have S8 := HF.out.boxTurn ((HF.out.boxGet k0m).setCells (crv d) 0) (gr_sets _ _ _ _)
    rw [over_all zC14 (crv d) rfl] at S8
    refine hK.out _ _ S8.tail.tail (fun hHeld => ?_)
    replace HF := Keep.mk S8
    clear hK K S8
    change Keep (Sep w (World.setCells W9 rc 0 (crv d).toArray.toList) _) at HF
    generalize World.setCells W9 rc 0 (crv d).toArray.toList = w10 at HF hHeld ⊢
    simp only [Act.put, List.getElem_toArray, List.getElem_cons_succ, List.getElem_cons_zero]
    refine wpAnyX_one (i := 3) (by kernel_rfl) rfl (fun K hK => ?_)
    rw [if_pos (show Region.wanted _ _ = true from rfl)]
    refine wp_store_mid 26 _ _ rfl rs 0 (shv s).toArray rfl rfl ((HF.out.boxGet k1m).there 0 7 (Nat.le_refl _)) infoS (all_oneCell_toArray HSO.out) ?_
    have S8 := (HF.out.swap.boxTurn ((HF.out.boxGet k1m).setCells (shv s) 0) (gr_sets _ _ _ _)).swap
    rw [over_all zS7 (shv s) rfl] at S8
    refine hK.out _ _ S8.tail.tail (fun hHeld => ?_)
    replace HF := Keep.mk S8
    clear hK K S8
    change Keep (Sep w (World.setCells w10 rs 0 (shv s).toArray.toList) _) at HF
    generalize World.setCells w10 rs 0 (shv s).toArray.toList = w11 at HF hHeld ⊢
    simp only [Act.put, List.getElem_toArray, List.getElem_cons_succ, List.getElem_cons_zero]
    refine wpAnyX_take (i := 4) (oi := _) (v := ?_) rfl (by kernel_rfl) (by kernel_rfl) (by kernel_rfl) (by kernel_rfl) (by kernel_rfl) (fun _ _ _ h => h) (Or.inl ⟨by rfl, ?_⟩) (by assumption) ?_
    rotate_left
    · (intro w hSw; go_simp; first | done | (with_reducible rfl))
    simp only [Act.put, List.getElem_toArray, List.getElem_cons_succ, List.getElem_cons_zero, List.setIfInBounds_toArray, List.set_cons_zero, List.set_cons_succ]
    refine wpAnyX_done (by kernel_rfl) ?_ _
    go_wp2_with fail
    exact ret_cst rfl rfl rfl (HF.out.boxGet k0m) (HF.out.boxGet k1m) hdu hdr hds hdsr (infoC' d) (infoS' s) rfl ⟨by rw [HFE.out.1, HFE.out.2]; rfl, HF.out.g⟩
  case false =>
    have HFE := Keep.mk (HD.out.2 rfl)
    clear HD HU HOK
    have HBU := Keep.mk built26z
    have HSO : Keep (∀ v ∈ zS7, v.oneCell' = true) := ⟨shv_one zS⟩
    have RN := Keep.mk (HS.out.boxGet k0m).range
    have HX := Keep.mk (HS.out.boxGet k2m)
    go_wp2_with (first
      | (show wpList _ _ _ ({ dst := _, op := Op.load 38 _, type := _, pos := _, after := _, guard := _ } :: _) _ _
         refine load_g (by rfl) 38 _ rfl _ _ rfl _ _ RN.out hdu hdr (infoC' c) ?_)
      | (show wpList _ _ _ ({ dst := _, op := Op.build 26 _, type := _, pos := _, after := _, guard := _ } :: _) _ _
         refine wpList_build rfl 26 _ rfl _ ((congrArg (Tryd.prog.built 26) (by simp only [List.map_toArray, List.map_nil])).trans HBU.out) ?_)
      | (show wpList _ _ _ ({ dst := _, op := Op.store 38 _ _, type := _, pos := _, after := _, guard := _ } :: _) _ _
         refine store_at _ rc 0 zC14 (crv c) 38 38 rfl rfl rfl rfl HX.out (Nat.le_refl _) (infoC' c) HCO.out ?_))
    intro w4 hS4 g4
    have S4 := hS4 _ _ HS.out.third
    rw [over_all zC14 (crv c) rfl] at S4
    replace HS := Keep.mk S4
    have HX := Keep.mk (HS.out.boxGet k2m)
    clear hS4 g4 S4 RN
    go_wp2_with (first
      | (show wpList _ _ _ ({ dst := _, op := Op.store 26 _ _, type := _, pos := _, after := _, guard := _ } :: _) _ _
         refine store_at _ rs 0 zS7 zS7 26 26 rfl rfl rfl rfl HX.out (Nat.le_refl _) (infoS' zS) HSO.out ?_))
    intro w5 hS5 g5
    have S5 := hS5 _ _ HS.out.third
    rw [over_all zS7 zS7 rfl] at S5
    replace HS := Keep.mk S5
    clear hS5 g5 S5 HX
    go_wp2_with fail
    exact ret_cst rfl rfl rfl (HS.out.boxGet k1m) (HS.out.boxGet k0m) hdu hdr hds hdsr (infoC' c) (infoS' zS) rfl ⟨by rw [HFE.out.1, HFE.out.2]; rfl, HS.out.g⟩
end Go.Proofs.YtmacmoikjgmaoaaDoor.Bo
