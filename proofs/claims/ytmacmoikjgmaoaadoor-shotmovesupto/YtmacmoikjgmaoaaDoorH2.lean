/- shot: Fire -/
import Derived.Test.YtmacmoikjgmaoaaDoorH1
import Derived.Deep.DeepCutAuto
namespace Go.Proofs.YtmacmoikjgmaoaaDoor.Bo
open Go Go.RowKit

theorem zS7_lit : zS7 = [iv 0, iv 0, iv 0, iv 0, iv 0, iv 0, iv 0] := rfl
theorem zC14_lit : zC14 = [iv 0, .string ⟨#[]⟩, iv 0, iv 0, iv 0, iv 0, iv 0, iv 0, iv 0, iv 0, iv 0, iv 0, iv 0, iv 0] := rfl
set_option maxRecDepth 100000 in
theorem built26 (a b x y p q l : Int) : Tryd.prog.built 26 [(0, iv a), (1, iv b), (2, vv x y), (3, vv p q), (4, iv l)] = some (shv ⟨a, b, x, y, p, q, l⟩).toArray := by kernel_rfl
set_option maxRecDepth 100000 in
theorem built26z : Tryd.prog.built 26 [] = some zS7.toArray := by kernel_rfl
theorem rdy_in {c : Cr} (h : rdy c = true) : 0 < c.am ∧ 8 ≤ c.en := by
  simp only [rdy, Bool.and_eq_true, decide_eq_true_eq] at h
  exact ⟨h.2.2.1, h.2.2.2⟩
set_option maxRecDepth 100000 in
set_option maxHeartbeats 32000000 in
theorem fire_c (w : World) (c : Cr) (id : Int) (ok : CrOk c) (hk : Kc w) :
    Calls Tryd.prog 15 #[.agg (crv c).toArray, iv id] w fun e w' => e = .returned (.tuple #[.agg (crv (firC c)).toArray, .agg (shv (firS c id)).toArray, .bool (rdy c)]) ∧ w.grownBy w' none := by
  obtain ⟨du, hdu, hdr⟩ := underC
  obtain ⟨ds, hds, hdsr⟩ := underS
  obtain ⟨dv, hdv, hdvr⟩ := underVc
  have S3 := (((Sep.nil w).newBox (crv c).toArray 38).newBox zC14.toArray 38).newBox zS7.toArray 26
  obtain ⟨W1, hW1⟩ : ∃ W1, w.alloc (.cells (crv c).toArray 38) = W1 := ⟨_, rfl⟩
  obtain ⟨xb, hxb⟩ : ∃ xb, w.heap.size = xb := ⟨_, rfl⟩
  rw [hW1, hxb] at S3
  obtain ⟨W2, hW2⟩ : ∃ W2, W1.alloc (.cells zC14.toArray 38) = W2 := ⟨_, rfl⟩
  obtain ⟨rc, hrc⟩ : ∃ rb, W1.heap.size = rb := ⟨_, rfl⟩
  rw [hW2, hrc] at S3
  obtain ⟨W3, hW3⟩ : ∃ W3, W2.alloc (.cells zS7.toArray 26) = W3 := ⟨_, rfl⟩
  obtain ⟨rs, hrs⟩ : ∃ rb, W2.heap.size = rb := ⟨_, rfl⟩
  rw [hW3, hrs] at S3
  rw [zC14_lit] at hW2
  rw [zS7_lit] at hW3
  change Sep w W3 [boxA rs zS7 26, boxA rc zC14 38, boxA xb (crv c) 38] at S3
  have hsz : (crv c).toArray.size = 14 := rfl
  have HN := Keep.mk (fun W => clone_c c.nm W ok.nm)
  have HR := Keep.mk (fun W => ready_c W c)
  have HU := Keep.mk (fun W (g : w.grownBy W none) => unit_c c.hd W (hk.kept g))
  have HCO := Keep.mk (crv_one c)
  have HOK := Keep.mk ok
  have HD : Keep ((rdy c = true → (firC c = paid c ∧ firS c id = shot c id) ∧ 0 < c.am ∧ 8 ≤ c.en) ∧ (rdy c = false → firC c = c ∧ firS c id = zS)) := ⟨fun h => ⟨by unfold firC firS; rw [if_pos h, if_pos h]; exact ⟨rfl, rfl⟩, rdy_in h⟩, fun h => by unfold firC firS; rw [h]; exact ⟨rfl, rfl⟩⟩
  generalize firC c = fc at HD ⊢
  generalize firS c id = fs at HD ⊢
  generalize rdy c = r at HD HR ⊢
  have HS : Keep (Sep w W3 [boxA xb (crv c) 38, boxA rs zS7 26, boxA rc zC14 38]) := ⟨S3.third⟩
  have y1 : W3.cell? ⟨xb, 1, none⟩ = some (.string c.nm) := (HS.out.boxGet k0m).cellv 1 _ rfl
  clear S3 hk ok
  go_enter Tryd.func15, Tryd.ntmps15
  go_wp2_with fail
  refine (HN.out _).mono ?_
  rintro e w1 ⟨rfl, g_⟩
  replace HS := Keep.mk (HS.out.grown g_)
  clear g_ HN y1 hW1 hW2 hW3 hxb hrc hrs
  have f1 : w1.frozen? ⟨xb, 1, none⟩ = false := (HS.out.boxGet k0m).frozen 1
  have y1 : w1.cell? ⟨xb, 1, none⟩ = some (.string c.nm) := (HS.out.boxGet k0m).cellv 1 _ rfl
  have S4 := HS.out.boxPut 1 (.string c.nm)
  rw [show (crv c).set 1 (.string c.nm) = crv c from rfl] at S4
  obtain ⟨w2, hw2⟩ : ∃ w4, w1.setCell ⟨xb, 1, none⟩ (.string c.nm) = w4 := ⟨_, rfl⟩
  rw [hw2] at S4
  replace HS := Keep.mk S4
  have RN := Keep.mk (S4.boxGet k0m).range
  clear S4
  go_wp2_with (first
    | (show wpList _ _ _ ({ dst := _, op := Op.load 38 _, type := _, pos := _, after := _, guard := _ } :: _) _ _
       refine load_g (by rfl) 38 _ rfl _ _ rfl _ _ RN.out hdu hdr (infoC' c) ?_))
  refine (HR.out _).mono ?_
  rintro e w3 ⟨rfl, g_⟩
  replace HS := Keep.mk (HS.out.grown g_)
  clear g_ RN HR hw2 f1 y1
  cases r
  case true =>
    obtain ⟨hf, hr2⟩ := HD.out.1 rfl
    have HFE := Keep.mk hf
    have HR2 := Keep.mk hr2
    clear HD hf hr2
    have y6 : w3.cell? ⟨xb, 6, none⟩ = some (iv c.hd) := (HS.out.boxGet k0m).cellv 6 _ rfl
    go_wp2_with fail
    refine (HU.out _ HS.out.g).mono ?_
    rintro e w4 ⟨rfl, g_⟩
    replace HS := Keep.mk (HS.out.grown g_)
    clear g_ HU y6
    have HSC2 := Keep.mk (fun W => vscale_c (sinZ (c.hd + 64)) (sinZ c.hd) 131072 ⟨by have := sin_range (c.hd + 64); omega, by have := sin_range (c.hd + 64); omega⟩ ⟨by have := sin_range c.hd; omega, by have := sin_range c.hd; omega⟩ ⟨by decide, by decide⟩ W)
    have HSC3 := Keep.mk (fun W => vscale_c (sinZ (c.hd + 64)) (sinZ c.hd) 196608 ⟨by have := sin_range (c.hd + 64); omega, by have := sin_range (c.hd + 64); omega⟩ ⟨by have := sin_range c.hd; omega, by have := sin_range c.hd; omega⟩ ⟨by decide, by decide⟩ W)
    rw [mul2, mul2] at HSC2
    rw [mul3, mul3] at HSC3
    have HAD2 := Keep.mk (fun W => vadd_c c.x c.y (2 * sinZ (c.hd + 64)) (2 * sinZ c.hd) HOK.out.x HOK.out.y ⟨by have := sin_range (c.hd + 64); omega, by have := sin_range (c.hd + 64); omega⟩ ⟨by have := sin_range c.hd; omega, by have := sin_range c.hd; omega⟩ W)
    have HAD3 := Keep.mk (fun W => vadd_c c.sx c.sy (3 * sinZ (c.hd + 64)) (3 * sinZ c.hd) HOK.out.sx HOK.out.sy ⟨by have := sin_range (c.hd + 64); omega, by have := sin_range (c.hd + 64); omega⟩ ⟨by have := sin_range c.hd; omega, by have := sin_range c.hd; omega⟩ W)
    have HBU0 := Keep.mk (built26 id c.pl (addZ c.x (2 * sinZ (c.hd + 64))) (addZ c.y (2 * sinZ c.hd)) (addZ c.sx (3 * sinZ (c.hd + 64))) (addZ c.sy (3 * sinZ c.hd)) 48)
    obtain ⟨s, hs⟩ : ∃ s, shot c id = s := ⟨_, rfl⟩
    have HBU : Keep (Tryd.prog.built 26 [(0, iv id), (1, iv c.pl), (2, vv (addZ c.x (2 * sinZ (c.hd + 64))) (addZ c.y (2 * sinZ c.hd))), (3, vv (addZ c.sx (3 * sinZ (c.hd + 64))) (addZ c.sy (3 * sinZ c.hd))), (4, iv 48)] = some (shv s).toArray) := ⟨by rw [← hs]; exact HBU0.out⟩
    rw [hs] at HFE
    clear hs HBU0
    generalize addZ c.x (2 * sinZ (c.hd + 64)) = s2 at *
    generalize addZ c.y (2 * sinZ c.hd) = s3 at *
    generalize addZ c.sx (3 * sinZ (c.hd + 64)) = s4 at *
    generalize addZ c.sy (3 * sinZ c.hd) = s5 at *
    generalize 2 * sinZ (c.hd + 64) = m2 at *
    generalize 2 * sinZ c.hd = m3 at *
    generalize 3 * sinZ (c.hd + 64) = m4 at *
    generalize 3 * sinZ c.hd = m5 at *
    generalize sinZ (c.hd + 64) = ux at *
    generalize sinZ c.hd = uy at *
    have HSO := Keep.mk (shv_one s)
    have S5 := HS.out.newBox #[iv ux, iv uy] 24
    obtain ⟨W5, hW5⟩ : ∃ W_, w4.alloc (.cells #[iv ux, iv uy] 24) = W_ := ⟨_, rfl⟩
    obtain ⟨ub, hub⟩ : ∃ b_, w4.heap.size = b_ := ⟨_, rfl⟩
    rw [hW5, hub] at S5
    change Sep w W5 [boxA ub [iv ux, iv uy] 24, boxA xb (crv c) 38, boxA rs zS7 26, boxA rc zC14 38] at S5
    have HB := Keep.mk S5
    clear S5 HS
    go_upto_region 5 with fail
    obtain ⟨wq, hwq⟩ : ∃ wq, W5 = wq := ⟨_, rfl⟩
    rw [hwq] at HB
    rw [show Code.wp Tryd.prog _ _ _ W5 = Code.wp Tryd.prog _ _ _ wq from by rw [hwq]]
    clear hwq hW5 hub
    go_cut [8] (fun sv wx => ∃ tb, sv = pt tb ∧ Keep (Sep w wx (boxA tb (shv s) 26 :: [boxA ub [iv ux, iv uy] 24, boxA xb (crv c) 38, boxA rs zS7 26, boxA rc zC14 38])))
    case first =>
      refine region_X (S := fun w' => Sep w w' [boxA ub [iv ux, iv uy] 24, boxA xb (crv c) 38, boxA rs zS7 26, boxA rc zC14 38]) [] (by kernel_rfl) (HB.out.grown (gr_drew _ _)) (fun hHeld => ?_)
      replace HB := Keep.mk hHeld
      obtain ⟨W0, hW0⟩ : ∃ W_, wq.drew = W_ := ⟨_, rfl⟩
      rw [hW0] at HB hHeld ⊢
      clear hW0
      refine wpAnyX_take (i := 0) (oi := _) (v := ?_) rfl (by kernel_rfl) (by kernel_rfl) (by kernel_rfl) (by kernel_rfl) (by kernel_rfl) (fun _ _ _ h => h) (Or.inl ⟨by rfl, ?_⟩) (by assumption) ?_
      rotate_left
      · (intro w hSw; go_simp; first | done | (with_reducible rfl))
      simp only [Act.put, List.getElem_toArray, List.getElem_cons_zero, List.setIfInBounds_toArray, List.set_cons_zero, List.set_cons_succ]
      refine wpAnyX_take (i := 1) (oi := _) (v := ?_) rfl (by kernel_rfl) (by kernel_rfl) (by kernel_rfl) (by kernel_rfl) (by kernel_rfl) (fun _ _ _ h => h) (Or.inl ⟨by rfl, ?_⟩) (by assumption) ?_
      rotate_left
      · (intro w hSw; go_simp; first | done | (with_reducible rfl))
      simp only [Act.put, List.getElem_toArray, List.getElem_cons_succ, List.getElem_cons_zero, List.setIfInBounds_toArray, List.set_cons_zero, List.set_cons_succ]
      refine wpAnyX_take (i := 2) (oi := _) (v := ?_) rfl (by kernel_rfl) (by kernel_rfl) (by kernel_rfl) (by kernel_rfl) (by kernel_rfl) (fun _ _ _ h => h) (Or.inl ⟨by rfl, ?_⟩) (by assumption) ?_
      rotate_left
      · (intro w hSw; have q0 := (hSw.boxGet k1m).cellv 0 _ rfl; go_simp; first | done | (with_reducible rfl))
      simp only [Act.put, List.getElem_toArray, List.getElem_cons_succ, List.getElem_cons_zero, List.setIfInBounds_toArray, List.set_cons_zero, List.set_cons_succ]
      refine wpAnyX_take (i := 3) (oi := _) (v := ?_) rfl (by kernel_rfl) (by kernel_rfl) (by kernel_rfl) (by kernel_rfl) (by kernel_rfl) (fun _ _ _ h => h) (Or.inl ⟨by rfl, ?_⟩) (by assumption) ?_
      rotate_left
      · (intro w hSw; go_simp; first | done | (with_reducible rfl))
      simp only [Act.put, List.getElem_toArray, List.getElem_cons_succ, List.getElem_cons_zero, List.setIfInBounds_toArray, List.set_cons_zero, List.set_cons_succ]
      refine wpAnyX_take (i := 4) (oi := _) (v := _) rfl (by kernel_rfl) (by kernel_rfl) (by kernel_rfl) (by kernel_rfl) (by kernel_rfl) (fun _ _ _ h => h) (yieldsIf_load_mid (by rfl) 24 _ rfl _ _ rfl _ _ (fun w_ hS_ => (hS_.boxGet k1m).vec2 2 c.x c.y rfl rfl) hdv hdvr infoVc) (by assumption) ?_
      simp only [Act.put, List.getElem_toArray, List.getElem_cons_succ, List.getElem_cons_zero, List.setIfInBounds_toArray, List.set_cons_zero, List.set_cons_succ]
      refine wpAnyX_take (i := 5) (oi := _) (v := _) rfl (by kernel_rfl) (by kernel_rfl) (by kernel_rfl) (by kernel_rfl) (by kernel_rfl) (fun _ _ _ h => h) (yieldsIf_load_mid (by rfl) 24 _ rfl _ _ rfl _ _ (fun w_ hS_ => (hS_.boxGet k0m).vec2 0 ux uy rfl rfl) hdv hdvr infoVc) (by assumption) ?_
      simp only [Act.put, List.getElem_toArray, List.getElem_cons_succ, List.getElem_cons_zero, List.setIfInBounds_toArray, List.set_cons_zero, List.set_cons_succ]
      refine wpAnyX_take (i := 8) (oi := _) (v := ?_) rfl (by kernel_rfl) (by kernel_rfl) (by kernel_rfl) (by kernel_rfl) (by kernel_rfl) (fun _ _ _ h => h) (Or.inl ⟨by rfl, ?_⟩) (by assumption) ?_
      rotate_left
      · (intro w hSw; go_simp; first | done | (with_reducible rfl))
      simp only [Act.put, List.getElem_toArray, List.getElem_cons_succ, List.getElem_cons_zero, List.setIfInBounds_toArray, List.set_cons_zero, List.set_cons_succ]
      refine wpAnyX_take (i := 9) (oi := _) (v := _) rfl (by kernel_rfl) (by kernel_rfl) (by kernel_rfl) (by kernel_rfl) (by kernel_rfl) (fun _ _ _ h => h) (yieldsIf_load_mid (by rfl) 24 _ rfl _ _ rfl _ _ (fun w_ hS_ => (hS_.boxGet k1m).vec2 4 c.sx c.sy rfl rfl) hdv hdvr infoVc) (by assumption) ?_
      simp only [Act.put, List.getElem_toArray, List.getElem_cons_succ, List.getElem_cons_zero, List.setIfInBounds_toArray, List.set_cons_zero, List.set_cons_succ]
      refine wpAnyX_take (i := 10) (oi := _) (v := _) rfl (by kernel_rfl) (by kernel_rfl) (by kernel_rfl) (by kernel_rfl) (by kernel_rfl) (fun _ _ _ h => h) (yieldsIf_load_mid (by rfl) 24 _ rfl _ _ rfl _ _ (fun w_ hS_ => (hS_.boxGet k0m).vec2 0 ux uy rfl rfl) hdv hdvr infoVc) (by assumption) ?_
      simp only [Act.put, List.getElem_toArray, List.getElem_cons_succ, List.getElem_cons_zero, List.setIfInBounds_toArray, List.set_cons_zero, List.set_cons_succ]
      refine wpAnyX_two (i := 6) (j := 14) (by kernel_rfl) rfl rfl (fun K hK => ?_) (fun K hK => ?_)
      · skip
        go_simp
        refine (HSC2.out _).mono ?_
        rintro e wg1 ⟨rfl, hg⟩
        replace HB := Keep.mk (HB.out.grown hg)
        refine hK.out _ _ HB.out (fun hHeld => ?_)
        clear hK K hg
        refine wpAnyX_two (i := 7) (j := 14) (by kernel_rfl) rfl rfl (fun K hK => ?_) (fun K hK => ?_)
        · skip
          go_simp
          refine (HAD2.out _).mono ?_
          rintro e wg2 ⟨rfl, hg⟩
          replace HB := Keep.mk (HB.out.grown hg)
          refine hK.out _ _ HB.out (fun hHeld => ?_)
          clear hK K hg
          refine wpAnyX_two (i := 11) (j := 14) (by kernel_rfl) rfl rfl (fun K hK => ?_) (fun K hK => ?_)
          · skip
            go_simp
            refine (HSC3.out _).mono ?_
            rintro e wg3 ⟨rfl, hg⟩
            replace HB := Keep.mk (HB.out.grown hg)
            refine hK.out _ _ HB.out (fun hHeld => ?_)
            clear hK K hg
            refine wpAnyX_two (i := 12) (j := 14) (by kernel_rfl) rfl rfl (fun K hK => ?_) (fun K hK => ?_)
            · skip
              go_simp
              refine (HAD3.out _).mono ?_
              rintro e wg4 ⟨rfl, hg⟩
              replace HB := Keep.mk (HB.out.grown hg)
              refine hK.out _ _ HB.out (fun hHeld => ?_)
              clear hK K hg
              refine wpAnyX_take (i := 13) (oi := _) (v := .agg (shv s).toArray) rfl (by kernel_rfl) (by kernel_rfl) (by kernel_rfl) (by kernel_rfl) (by kernel_rfl) (fun _ _ _ h => h) (yieldsIf_build (by rfl) 26 _ rfl _ ?_) (by assumption) ?_
              · refine (congrArg (Tryd.prog.built 26) ?_).trans HBU.out
                simp only [List.map_toArray, List.map_cons, List.map_nil]
                rfl
              simp only [Act.put, List.getElem_toArray, List.getElem_cons_succ, List.getElem_cons_zero, List.setIfInBounds_toArray, List.set_cons_zero, List.set_cons_succ]
              refine wpAnyX_one (i := 14) (by kernel_rfl) rfl (fun K hK => ?_)
              have S_ := HB.out.newBox zS7.toArray 26
              obtain ⟨wa5, hwa5⟩ : ∃ W_, wg4.alloc (.cells zS7.toArray 26) = W_ := ⟨_, rfl⟩
              obtain ⟨tb, htb⟩ : ∃ b_, wg4.heap.size = b_ := ⟨_, rfl⟩
              rw [hwa5, htb] at S_
              rw [zS7_lit] at hwa5
              replace HB := Keep.mk S_
              clear S_
              go_simp
              refine hK.out _ _ HB.out.tail (fun hHeld => ?_)
              clear hK K
              refine wpAnyX_one (i := 15) (by kernel_rfl) rfl (fun K hK => ?_)
              rw [if_pos (show Region.wanted _ _ = true from rfl)]
              refine wp_store_mid 26 _ _ rfl tb 0 (shv s).toArray rfl rfl ((HB.out.boxGet k0m).there 0 7 (Nat.le_refl _)) infoS (all_oneCell_toArray HSO.out) ?_
              have S_ := HB.out.boxTurn ((HB.out.boxGet k0m).setCells (shv s) 0) (gr_sets _ _ _ _)
              rw [over_all zS7 (shv s) rfl] at S_
              refine hK.out _ _ S_.tail (fun hHeld => ?_)
              replace HB := Keep.mk S_
              clear hK K S_
              change Keep (Sep w (World.setCells wa5 tb 0 (shv s).toArray.toList) _) at HB
              generalize World.setCells wa5 tb 0 (shv s).toArray.toList = ws6 at HB hHeld ⊢
              simp only [Act.put, List.getElem_toArray, List.getElem_cons_succ, List.getElem_cons_zero]
              refine wpAnyX_done (by kernel_rfl) ?_ _
              clear hHeld
              go_wp2_with fail
              go_meet
              exact ⟨tb, rfl, HB⟩
            · skip
              have S_ := HB.out.newBox zS7.toArray 26
              obtain ⟨wa7, hwa7⟩ : ∃ W_, wg3.alloc (.cells zS7.toArray 26) = W_ := ⟨_, rfl⟩
              obtain ⟨tb, htb⟩ : ∃ b_, wg3.heap.size = b_ := ⟨_, rfl⟩
              rw [hwa7, htb] at S_
              rw [zS7_lit] at hwa7
              replace HB := Keep.mk S_
              clear S_
              go_simp
              refine hK.out _ _ HB.out.tail (fun hHeld => ?_)
              clear hK K
              refine wpAnyX_one (i := 12) (by kernel_rfl) rfl (fun K hK => ?_)
              go_simp
              refine (HAD3.out _).mono ?_
              rintro e wg8 ⟨rfl, hg⟩
              replace HB := Keep.mk (HB.out.grown hg)
              refine hK.out _ _ HB.out.tail (fun hHeld => ?_)
              clear hK K hg
              refine wpAnyX_take (i := 13) (oi := _) (v := .agg (shv s).toArray) rfl (by kernel_rfl) (by kernel_rfl) (by kernel_rfl) (by kernel_rfl) (by kernel_rfl) (fun _ _ _ h => h) (yieldsIf_build (by rfl) 26 _ rfl _ ?_) (by assumption) ?_
              · refine (congrArg (Tryd.prog.built 26) ?_).trans HBU.out
                simp only [List.map_toArray, List.map_cons, List.map_nil]
                rfl
              simp only [Act.put, List.getElem_toArray, List.getElem_cons_succ, List.getElem_cons_zero, List.setIfInBounds_toArray, List.set_cons_zero, List.set_cons_succ]
              refine wpAnyX_one (i := 15) (by kernel_rfl) rfl (fun K hK => ?_)
              rw [if_pos (show Region.wanted _ _ = true from rfl)]
              refine wp_store_mid 26 _ _ rfl tb 0 (shv s).toArray rfl rfl ((HB.out.boxGet k0m).there 0 7 (Nat.le_refl _)) infoS (all_oneCell_toArray HSO.out) ?_
              have S_ := HB.out.boxTurn ((HB.out.boxGet k0m).setCells (shv s) 0) (gr_sets _ _ _ _)
              rw [over_all zS7 (shv s) rfl] at S_
              refine hK.out _ _ S_.tail (fun hHeld => ?_)
              replace HB := Keep.mk S_
              clear hK K S_
              change Keep (Sep w (World.setCells wg8 tb 0 (shv s).toArray.toList) _) at HB
              generalize World.setCells wg8 tb 0 (shv s).toArray.toList = ws9 at HB hHeld ⊢
              simp only [Act.put, List.getElem_toArray, List.getElem_cons_succ, List.getElem_cons_zero]
              refine wpAnyX_done (by kernel_rfl) ?_ _
              clear hHeld
              go_wp2_with fail
              go_meet
              exact ⟨tb, rfl, HB⟩
          · skip
            have S_ := HB.out.newBox zS7.toArray 26
            obtain ⟨wa10, hwa10⟩ : ∃ W_, wg2.alloc (.cells zS7.toArray 26) = W_ := ⟨_, rfl⟩
            obtain ⟨tb, htb⟩ : ∃ b_, wg2.heap.size = b_ := ⟨_, rfl⟩
            rw [hwa10, htb] at S_
            rw [zS7_lit] at hwa10
            replace HB := Keep.mk S_
            clear S_
            go_simp
            refine hK.out _ _ HB.out.tail (fun hHeld => ?_)
            clear hK K
            refine wpAnyX_one (i := 11) (by kernel_rfl) rfl (fun K hK => ?_)
            go_simp
            refine (HSC3.out _).mono ?_
            rintro e wg11 ⟨rfl, hg⟩
            replace HB := Keep.mk (HB.out.grown hg)
            refine hK.out _ _ HB.out.tail (fun hHeld => ?_)
            clear hK K hg
            refine wpAnyX_one (i := 12) (by kernel_rfl) rfl (fun K hK => ?_)
            go_simp
            refine (HAD3.out _).mono ?_
            rintro e wg12 ⟨rfl, hg⟩
            replace HB := Keep.mk (HB.out.grown hg)
            refine hK.out _ _ HB.out.tail (fun hHeld => ?_)
            clear hK K hg
            refine wpAnyX_take (i := 13) (oi := _) (v := .agg (shv s).toArray) rfl (by kernel_rfl) (by kernel_rfl) (by kernel_rfl) (by kernel_rfl) (by kernel_rfl) (fun _ _ _ h => h) (yieldsIf_build (by rfl) 26 _ rfl _ ?_) (by assumption) ?_
            · refine (congrArg (Tryd.prog.built 26) ?_).trans HBU.out
              simp only [List.map_toArray, List.map_cons, List.map_nil]
              rfl
            simp only [Act.put, List.getElem_toArray, List.getElem_cons_succ, List.getElem_cons_zero, List.setIfInBounds_toArray, List.set_cons_zero, List.set_cons_succ]
            refine wpAnyX_one (i := 15) (by kernel_rfl) rfl (fun K hK => ?_)
            rw [if_pos (show Region.wanted _ _ = true from rfl)]
            refine wp_store_mid 26 _ _ rfl tb 0 (shv s).toArray rfl rfl ((HB.out.boxGet k0m).there 0 7 (Nat.le_refl _)) infoS (all_oneCell_toArray HSO.out) ?_
            have S_ := HB.out.boxTurn ((HB.out.boxGet k0m).setCells (shv s) 0) (gr_sets _ _ _ _)
            rw [over_all zS7 (shv s) rfl] at S_
            refine hK.out _ _ S_.tail (fun hHeld => ?_)
            replace HB := Keep.mk S_
            clear hK K S_
            change Keep (Sep w (World.setCells wg12 tb 0 (shv s).toArray.toList) _) at HB
            generalize World.setCells wg12 tb 0 (shv s).toArray.toList = ws13 at HB hHeld ⊢
            simp only [Act.put, List.getElem_toArray, List.getElem_cons_succ, List.getElem_cons_zero]
            refine wpAnyX_done (by kernel_rfl) ?_ _
            clear hHeld
            go_wp2_with fail
            go_meet
            exact ⟨tb, rfl, HB⟩
        · skip
          have S_ := HB.out.newBox zS7.toArray 26
          obtain ⟨wa14, hwa14⟩ : ∃ W_, wg1.alloc (.cells zS7.toArray 26) = W_ := ⟨_, rfl⟩
          obtain ⟨tb, htb⟩ : ∃ b_, wg1.heap.size = b_ := ⟨_, rfl⟩
          rw [hwa14, htb] at S_
          rw [zS7_lit] at hwa14
          replace HB := Keep.mk S_
          clear S_
          go_simp
          refine hK.out _ _ HB.out.tail (fun hHeld => ?_)
          clear hK K
          refine wpAnyX_one (i := 7) (by kernel_rfl) rfl (fun K hK => ?_)
          go_simp
          refine (HAD2.out _).mono ?_
          rintro e wg15 ⟨rfl, hg⟩
          replace HB := Keep.mk (HB.out.grown hg)
          refine hK.out _ _ HB.out.tail (fun hHeld => ?_)
          clear hK K hg
          refine wpAnyX_one (i := 11) (by kernel_rfl) rfl (fun K hK => ?_)
          go_simp
          refine (HSC3.out _).mono ?_
          rintro e wg16 ⟨rfl, hg⟩
          replace HB := Keep.mk (HB.out.grown hg)
          refine hK.out _ _ HB.out.tail (fun hHeld => ?_)
          clear hK K hg
          refine wpAnyX_one (i := 12) (by kernel_rfl) rfl (fun K hK => ?_)
          go_simp
          refine (HAD3.out _).mono ?_
          rintro e wg17 ⟨rfl, hg⟩
          replace HB := Keep.mk (HB.out.grown hg)
          refine hK.out _ _ HB.out.tail (fun hHeld => ?_)
          clear hK K hg
          refine wpAnyX_take (i := 13) (oi := _) (v := .agg (shv s).toArray) rfl (by kernel_rfl) (by kernel_rfl) (by kernel_rfl) (by kernel_rfl) (by kernel_rfl) (fun _ _ _ h => h) (yieldsIf_build (by rfl) 26 _ rfl _ ?_) (by assumption) ?_
          · refine (congrArg (Tryd.prog.built 26) ?_).trans HBU.out
            simp only [List.map_toArray, List.map_cons, List.map_nil]
            rfl
          simp only [Act.put, List.getElem_toArray, List.getElem_cons_succ, List.getElem_cons_zero, List.setIfInBounds_toArray, List.set_cons_zero, List.set_cons_succ]
          refine wpAnyX_one (i := 15) (by kernel_rfl) rfl (fun K hK => ?_)
          rw [if_pos (show Region.wanted _ _ = true from rfl)]
          refine wp_store_mid 26 _ _ rfl tb 0 (shv s).toArray rfl rfl ((HB.out.boxGet k0m).there 0 7 (Nat.le_refl _)) infoS (all_oneCell_toArray HSO.out) ?_
          have S_ := HB.out.boxTurn ((HB.out.boxGet k0m).setCells (shv s) 0) (gr_sets _ _ _ _)
          rw [over_all zS7 (shv s) rfl] at S_
          refine hK.out _ _ S_.tail (fun hHeld => ?_)
          replace HB := Keep.mk S_
          clear hK K S_
          change Keep (Sep w (World.setCells wg17 tb 0 (shv s).toArray.toList) _) at HB
          generalize World.setCells wg17 tb 0 (shv s).toArray.toList = ws18 at HB hHeld ⊢
          simp only [Act.put, List.getElem_toArray, List.getElem_cons_succ, List.getElem_cons_zero]
          refine wpAnyX_done (by kernel_rfl) ?_ _
          clear hHeld
          go_wp2_with fail
          go_meet
          exact ⟨tb, rfl, HB⟩
      · skip
        have S_ := HB.out.newBox zS7.toArray 26
        obtain ⟨wa19, hwa19⟩ : ∃ W_, W0.alloc (.cells zS7.toArray 26) = W_ := ⟨_, rfl⟩
        obtain ⟨tb, htb⟩ : ∃ b_, W0.heap.size = b_ := ⟨_, rfl⟩
        rw [hwa19, htb] at S_
        rw [zS7_lit] at hwa19
        replace HB := Keep.mk S_
        clear S_
        go_simp
        refine hK.out _ _ HB.out.tail (fun hHeld => ?_)
        clear hK K
        refine wpAnyX_one (i := 6) (by kernel_rfl) rfl (fun K hK => ?_)
        go_simp
        refine (HSC2.out _).mono ?_
        rintro e wg20 ⟨rfl, hg⟩
        replace HB := Keep.mk (HB.out.grown hg)
        refine hK.out _ _ HB.out.tail (fun hHeld => ?_)
        clear hK K hg
        refine wpAnyX_one (i := 7) (by kernel_rfl) rfl (fun K hK => ?_)
        go_simp
        refine (HAD2.out _).mono ?_
        rintro e wg21 ⟨rfl, hg⟩
        replace HB := Keep.mk (HB.out.grown hg)
        refine hK.out _ _ HB.out.tail (fun hHeld => ?_)
        clear hK K hg
        refine wpAnyX_one (i := 11) (by kernel_rfl) rfl (fun K hK => ?_)
        go_simp
        refine (HSC3.out _).mono ?_
        rintro e wg22 ⟨rfl, hg⟩
        replace HB := Keep.mk (HB.out.grown hg)
        refine hK.out _ _ HB.out.tail (fun hHeld => ?_)
        clear hK K hg
        refine wpAnyX_one (i := 12) (by kernel_rfl) rfl (fun K hK => ?_)
        go_simp
        refine (HAD3.out _).mono ?_
        rintro e wg23 ⟨rfl, hg⟩
        replace HB := Keep.mk (HB.out.grown hg)
        refine hK.out _ _ HB.out.tail (fun hHeld => ?_)
        clear hK K hg
        refine wpAnyX_take (i := 13) (oi := _) (v := .agg (shv s).toArray) rfl (by kernel_rfl) (by kernel_rfl) (by kernel_rfl) (by kernel_rfl) (by kernel_rfl) (fun _ _ _ h => h) (yieldsIf_build (by rfl) 26 _ rfl _ ?_) (by assumption) ?_
        · refine (congrArg (Tryd.prog.built 26) ?_).trans HBU.out
          simp only [List.map_toArray, List.map_cons, List.map_nil]
          rfl
        simp only [Act.put, List.getElem_toArray, List.getElem_cons_succ, List.getElem_cons_zero, List.setIfInBounds_toArray, List.set_cons_zero, List.set_cons_succ]
        refine wpAnyX_one (i := 15) (by kernel_rfl) rfl (fun K hK => ?_)
        rw [if_pos (show Region.wanted _ _ = true from rfl)]
        refine wp_store_mid 26 _ _ rfl tb 0 (shv s).toArray rfl rfl ((HB.out.boxGet k0m).there 0 7 (Nat.le_refl _)) infoS (all_oneCell_toArray HSO.out) ?_
        have S_ := HB.out.boxTurn ((HB.out.boxGet k0m).setCells (shv s) 0) (gr_sets _ _ _ _)
        rw [over_all zS7 (shv s) rfl] at S_
        refine hK.out _ _ S_.tail (fun hHeld => ?_)
        replace HB := Keep.mk S_
        clear hK K S_
        change Keep (Sep w (World.setCells wg23 tb 0 (shv s).toArray.toList) _) at HB
        generalize World.setCells wg23 tb 0 (shv s).toArray.toList = ws24 at HB hHeld ⊢
        simp only [Act.put, List.getElem_toArray, List.getElem_cons_succ, List.getElem_cons_zero]
        refine wpAnyX_done (by kernel_rfl) ?_ _
        clear hHeld
        go_wp2_with fail
        go_meet
        exact ⟨tb, rfl, HB⟩
    case rest =>
    obtain ⟨tb, rfl, HS⟩ := hcut
    rename World => w6
    clear HSC2 HSC3 HAD2 HAD3 HBU HB
    replace HS : Keep (Sep w w6 [boxA xb (crv c) 38, boxA rs zS7 26, boxA rc zC14 38, boxA tb (shv s) 26]) := ⟨(fr1 [_] HS.out).tail |>.perm (List.perm_append_comm (l₁ := [boxA tb (shv s) 26]) (l₂ := [boxA xb (crv c) 38, boxA rs zS7 26, boxA rc zC14 38]))⟩
    have y9 : w6.cell? ⟨xb, 9, none⟩ = some (iv c.am) := (HS.out.boxGet k0m).cellv 9 _ rfl
    have f9 : w6.frozen? ⟨xb, 9, none⟩ = false := (HS.out.boxGet k0m).frozen 9
    have k9 : IntKind.i64.wrap (c.am - 1) = c.am - 1 := wi _ (by have := HR2.out.1; omega) (by have := HOK.out.am.2; omega)
    have k8 : IntKind.i64.wrap (c.en - 8) = c.en - 8 := wi _ (by have := HR2.out.2; omega) (by have := HOK.out.en.2; omega)
    have S7 := HS.out.boxPut 9 (iv (c.am - 1))
    obtain ⟨w7, hw7⟩ : ∃ w4, w6.setCell ⟨xb, 9, none⟩ (iv (c.am - 1)) = w4 := ⟨_, rfl⟩
    rw [hw7] at S7
    have y8 : w7.cell? ⟨xb, 8, none⟩ = some (iv c.en) := (S7.boxGet k0m).cellv 8 _ rfl
    have f8 : w7.frozen? ⟨xb, 8, none⟩ = false := (S7.boxGet k0m).frozen 8
    have S8 := S7.boxPut 8 (iv (c.en - 8))
    obtain ⟨w8, hw8⟩ : ∃ w4, w7.setCell ⟨xb, 8, none⟩ (iv (c.en - 8)) = w4 := ⟨_, rfl⟩
    rw [hw8] at S8
    have y10 : w8.cell? ⟨xb, 10, none⟩ = some (iv c.co) := (S8.boxGet k0m).cellv 10 _ rfl
    have f10 : w8.frozen? ⟨xb, 10, none⟩ = false := (S8.boxGet k0m).frozen 10
    have S9 := S8.boxPut 10 (iv 8)
    obtain ⟨w9, hw9⟩ : ∃ w4, w8.setCell ⟨xb, 10, none⟩ (iv 8) = w4 := ⟨_, rfl⟩
    rw [hw9] at S9
    change Sep w w9 [boxA xb (crv (paid c)) 38, boxA rs zS7 26, boxA rc zC14 38, boxA tb (shv s) 26] at S9
    generalize paid c = d at *
    have HDO := Keep.mk (crv_one d)
    have HF0 : Keep (Sep w w9 [boxA rc zC14 38, boxA rs zS7 26, boxA xb (crv d) 38, boxA tb (shv s) 26]) := ⟨S9.third.third.swap⟩
    clear S7 S8 S9 HS
    go_wp2_with fail
    have HF := Keep.mk (HF0.out.grown (gr_drew _ none))
    clear HF0 hw7 hw8 hw9 y8 y9 y10 f8 f9 f10
    refine region_X (S := fun w' => Sep w w' [boxA xb (crv d) 38, boxA tb (shv s) 26]) [] (by kernel_rfl) (HF.out.tail.tail) (fun hHeld => ?_)
    obtain ⟨W9, hW9⟩ : ∃ W_, w9.drew = W_ := ⟨_, rfl⟩
    rw [hW9] at HF hHeld ⊢
    clear hW9
    refine wpAnyX_take (i := 0) (oi := _) (v := _) rfl (by kernel_rfl) (by kernel_rfl) (by kernel_rfl) (by kernel_rfl) (by kernel_rfl) (fun _ _ _ h => h) (yieldsIf_load_mid (by rfl) 38 _ rfl _ _ rfl _ _ (fun w_ hS_ => (hS_.boxGet k0m).range) hdu hdr (infoC' d)) (by assumption) ?_
    simp only [Act.put, List.getElem_toArray, List.getElem_cons_zero, List.setIfInBounds_toArray, List.set_cons_zero, List.set_cons_succ]
    refine wpAnyX_take (i := 1) (oi := _) (v := _) rfl (by kernel_rfl) (by kernel_rfl) (by kernel_rfl) (by kernel_rfl) (by kernel_rfl) (fun _ _ _ h => h) (yieldsIf_load_mid (by rfl) 26 _ rfl _ _ rfl _ _ (fun w_ hS_ => (hS_.boxGet k1m).range) hds hdsr (infoS' s)) (by assumption) ?_
    simp only [Act.put, List.getElem_toArray, List.getElem_cons_succ, List.getElem_cons_zero, List.setIfInBounds_toArray, List.set_cons_zero, List.set_cons_succ]
    refine wpAnyX_one (i := 2) (by kernel_rfl) rfl (fun K hK => ?_)
    rw [if_pos (show Region.wanted _ _ = true from rfl)]
    refine wp_store_mid 38 _ _ rfl rc 0 (crv d).toArray rfl rfl ((HF.out.boxGet k0m).there 0 14 (Nat.le_refl _)) infoC (all_oneCell_toArray HDO.out) ?_
    have S8 := HF.out.boxTurn ((HF.out.boxGet k0m).setCells (crv d) 0) (gr_sets _ _ _ _)
    rw [over_all zC14 (crv d) rfl] at S8
    refine hK.out _ _ S8.tail.tail (fun hHeld => ?_)
    replace HF := Keep.mk S8
    clear hK K S8
    change Keep (Sep w (World.setCells W9 rc 0 (crv d).toArray.toList) _) at HF
    generalize World.setCells W9 rc 0 (crv d).toArray.toList = w10 at HF hHeld ⊢
    simp only [Act.put, List.getElem_toArray, List.getElem_cons_succ, List.getElem_cons_zero]
    refine wpAnyX_one (i := 3) (by kernel_rfl) rfl (fun K hK => ?_)
    rw [if_pos (show Region.wanted _ _ = true from rfl)]
    refine wp_store_mid 26 _ _ rfl rs 0 (shv s).toArray rfl rfl ((HF.out.boxGet k1m).there 0 7 (Nat.le_refl _)) infoS (all_oneCell_toArray HSO.out) ?_
    have S8 := (HF.out.swap.boxTurn ((HF.out.boxGet k1m).setCells (shv s) 0) (gr_sets _ _ _ _)).swap
    rw [over_all zS7 (shv s) rfl] at S8
    refine hK.out _ _ S8.tail.tail (fun hHeld => ?_)
    replace HF := Keep.mk S8
    clear hK K S8
    change Keep (Sep w (World.setCells w10 rs 0 (shv s).toArray.toList) _) at HF
    generalize World.setCells w10 rs 0 (shv s).toArray.toList = w11 at HF hHeld ⊢
    simp only [Act.put, List.getElem_toArray, List.getElem_cons_succ, List.getElem_cons_zero]
    refine wpAnyX_take (i := 4) (oi := _) (v := ?_) rfl (by kernel_rfl) (by kernel_rfl) (by kernel_rfl) (by kernel_rfl) (by kernel_rfl) (fun _ _ _ h => h) (Or.inl ⟨by rfl, ?_⟩) (by assumption) ?_
    rotate_left
    · (intro w hSw; go_simp; first | done | (with_reducible rfl))
    simp only [Act.put, List.getElem_toArray, List.getElem_cons_succ, List.getElem_cons_zero, List.setIfInBounds_toArray, List.set_cons_zero, List.set_cons_succ]
    refine wpAnyX_done (by kernel_rfl) ?_ _
    go_wp2_with fail
    exact ret_cst rfl rfl rfl (HF.out.boxGet k0m) (HF.out.boxGet k1m) hdu hdr hds hdsr (infoC' d) (infoS' s) rfl ⟨by rw [HFE.out.1, HFE.out.2]; rfl, HF.out.g⟩
  case false =>
    have HFE := Keep.mk (HD.out.2 rfl)
    clear HD HU HOK
    have HBU := Keep.mk built26z
    have HSO : Keep (∀ v ∈ zS7, v.oneCell' = true) := ⟨shv_one zS⟩
    have RN := Keep.mk (HS.out.boxGet k0m).range
    have HX := Keep.mk (HS.out.boxGet k2m)
    go_wp2_with (first
      | (show wpList _ _ _ ({ dst := _, op := Op.load 38 _, type := _, pos := _, after := _, guard := _ } :: _) _ _
         refine load_g (by rfl) 38 _ rfl _ _ rfl _ _ RN.out hdu hdr (infoC' c) ?_)
      | (show wpList _ _ _ ({ dst := _, op := Op.build 26 _, type := _, pos := _, after := _, guard := _ } :: _) _ _
         refine wpList_build rfl 26 _ rfl _ ((congrArg (Tryd.prog.built 26) (by simp only [List.map_toArray, List.map_nil])).trans HBU.out) ?_)
      | (show wpList _ _ _ ({ dst := _, op := Op.store 38 _ _, type := _, pos := _, after := _, guard := _ } :: _) _ _
         refine store_at _ rc 0 zC14 (crv c) 38 38 rfl rfl rfl rfl HX.out (Nat.le_refl _) (infoC' c) HCO.out ?_))
    intro w4 hS4 g4
    have S4 := hS4 _ _ HS.out.third
    rw [over_all zC14 (crv c) rfl] at S4
    replace HS := Keep.mk S4
    have HX := Keep.mk (HS.out.boxGet k2m)
    clear hS4 g4 S4 RN
    go_wp2_with (first
      | (show wpList _ _ _ ({ dst := _, op := Op.store 26 _ _, type := _, pos := _, after := _, guard := _ } :: _) _ _
         refine store_at _ rs 0 zS7 zS7 26 26 rfl rfl rfl rfl HX.out (Nat.le_refl _) (infoS' zS) HSO.out ?_))
    intro w5 hS5 g5
    have S5 := hS5 _ _ HS.out.third
    rw [over_all zS7 zS7 rfl] at S5
    replace HS := Keep.mk S5
    clear hS5 g5 S5 HX
    go_wp2_with fail
    exact ret_cst rfl rfl rfl (HS.out.boxGet k1m) (HS.out.boxGet k0m) hdu hdr hds hdsr (infoC' c) (infoS' zS) rfl ⟨by rw [HFE.out.1, HFE.out.2]; rfl, HS.out.g⟩
end Go.Proofs.YtmacmoikjgmaoaaDoor.Bo
