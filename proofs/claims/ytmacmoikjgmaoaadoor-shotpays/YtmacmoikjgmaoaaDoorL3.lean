/- ShotPays: the walk -/
import Derived.Test.YtmacmoikjgmaoaaDoorH7
namespace Go.Proofs.YtmacmoikjgmaoaaDoor.Bo
open Go Go.RowKit

set_option maxRecDepth 100000 in
set_option maxHeartbeats 64000000 in
theorem pays_c (w : World) (c : Cr) (id : Int) (ok : CrOk c) (hk : Kc w) :
    Calls Tryd.prog 5 #[.agg (crv c).toArray, iv id] w fun e w' => e = .returned (.bool true) ∧ w.grownBy w' none := by
  obtain ⟨du, hdu, hdr⟩ := underC
  obtain ⟨ds, hds, hdsr⟩ := underS
  obtain ⟨dv, hdv, hdvr⟩ := underVc
  have HA := Keep.mk (fun W (g : w.grownBy W none) => alive_c W (hk.kept g))
  have HF := Keep.mk (fun W (g : w.grownBy W none) => fire_c W c id ok (hk.kept g))
  obtain ⟨id2, hid2⟩ : ∃ z, IntKind.i64.wrap (id + 1) = z := ⟨_, rfl⟩
  have HF2 : Keep (rdy c = true → ∀ W, w.grownBy W none → Calls Tryd.prog 15 #[.agg (crv (paid c)).toArray, iv id2] W fun e w' => e = .returned (.tuple #[.agg (crv (paid c)).toArray, .agg (shv zS).toArray, .bool false]) ∧ W.grownBy w' none) := ⟨fun hr W g => by
    have q := fire_c W (paid c) id2 (paid_ok ok hr) (hk.kept g)
    have hn : rdy (paid c) = false := by simp [rdy, paid]
    have h1 : firC (paid c) = paid c := by unfold firC; rw [hn]; rfl
    have h2 : firS (paid c) id2 = zS := by unfold firS; rw [hn]; rfl
    rw [h1, h2, hn] at q
    exact q⟩
  have HU := Keep.mk (fun W (g : w.grownBy W none) => unit_c c.hd W (hk.kept g))
  have HOK := Keep.mk ok
  have HD : Keep ((rdy c = true → (firC c = paid c ∧ firS c id = shot c id) ∧ ¬ 0 < c.wa ∧ c.co = 0 ∧ 0 < c.am ∧ 8 ≤ c.en) ∧ (rdy c = false → (firC c = c ∧ firS c id = zS) ∧ rdy c = false)) := ⟨fun h => ⟨by unfold firC firS; rw [if_pos h, if_pos h]; exact ⟨rfl, rfl⟩, by
    simp only [rdy, Bool.and_eq_true, decide_eq_true_eq] at h
    exact h⟩, fun h => ⟨by unfold firC firS; rw [h]; exact ⟨rfl, rfl⟩, h⟩⟩
  have HRR : Keep (rdy c = rdy c) := ⟨rfl⟩
  have HP1 := Keep.mk (fun W => vadd_c c.x c.y (sinZ (c.hd + 64)) (sinZ c.hd) ok.x ok.y ⟨by have := sin_range (c.hd + 64); omega, by have := sin_range (c.hd + 64); omega⟩ ⟨by have := sin_range c.hd; omega, by have := sin_range c.hd; omega⟩ W)
  have HP2 := Keep.mk (fun W => vadd_c (addZ c.x (sinZ (c.hd + 64))) (addZ c.y (sinZ c.hd)) (sinZ (c.hd + 64)) (sinZ c.hd) (addZ_in _ _) (addZ_in _ _) ⟨by have := sin_range (c.hd + 64); omega, by have := sin_range (c.hd + 64); omega⟩ ⟨by have := sin_range c.hd; omega, by have := sin_range c.hd; omega⟩ W)
  have HQ1 := Keep.mk (fun W => vadd_c c.sx c.sy (sinZ (c.hd + 64)) (sinZ c.hd) ok.sx ok.sy ⟨by have := sin_range (c.hd + 64); omega, by have := sin_range (c.hd + 64); omega⟩ ⟨by have := sin_range c.hd; omega, by have := sin_range c.hd; omega⟩ W)
  have HQ2 := Keep.mk (fun W => vadd_c (addZ c.sx (sinZ (c.hd + 64))) (addZ c.sy (sinZ c.hd)) (sinZ (c.hd + 64)) (sinZ c.hd) (addZ_in _ _) (addZ_in _ _) ⟨by have := sin_range (c.hd + 64); omega, by have := sin_range (c.hd + 64); omega⟩ ⟨by have := sin_range c.hd; omega, by have := sin_range c.hd; omega⟩ W)
  have HQ3 := Keep.mk (fun W => vadd_c (addZ (addZ c.sx (sinZ (c.hd + 64))) (sinZ (c.hd + 64))) (addZ (addZ c.sy (sinZ c.hd)) (sinZ c.hd)) (sinZ (c.hd + 64)) (sinZ c.hd) (addZ_in _ _) (addZ_in _ _) ⟨by have := sin_range (c.hd + 64); omega, by have := sin_range (c.hd + 64); omega⟩ ⟨by have := sin_range c.hd; omega, by have := sin_range c.hd; omega⟩ W)
  have HEQ : Keep (fa c.x c.y = false → fa c.sx c.sy = false → (shot c id).x = addZ (addZ c.x (sinZ (c.hd + 64))) (sinZ (c.hd + 64)) ∧ (shot c id).y = addZ (addZ c.y (sinZ c.hd)) (sinZ c.hd) ∧ (shot c id).sx = addZ (addZ (addZ c.sx (sinZ (c.hd + 64))) (sinZ (c.hd + 64))) (sinZ (c.hd + 64)) ∧ (shot c id).sy = addZ (addZ (addZ c.sy (sinZ c.hd)) (sinZ c.hd)) (sinZ c.hd)) := ⟨fun h1 h2 => by
    have r1 := sin_range (c.hd + 64)
    have r2 := sin_range c.hd
    exact ⟨(add2 (fa_false h1).1 r1).symm, (add2 (fa_false h1).2 r2).symm, (add3 (fa_false h2).1 r1).symm, (add3 (fa_false h2).2 r2).symm⟩⟩
  generalize addZ (addZ (addZ c.sx (sinZ (c.hd + 64))) (sinZ (c.hd + 64))) (sinZ (c.hd + 64)) = a4 at *
  generalize addZ (addZ (addZ c.sy (sinZ c.hd)) (sinZ c.hd)) (sinZ c.hd) = b4 at *
  generalize addZ (addZ c.sx (sinZ (c.hd + 64))) (sinZ (c.hd + 64)) = a5 at *
  generalize addZ (addZ c.sy (sinZ c.hd)) (sinZ c.hd) = b5 at *
  generalize addZ c.sx (sinZ (c.hd + 64)) = a6 at *
  generalize addZ c.sy (sinZ c.hd) = b6 at *
  generalize addZ (addZ c.x (sinZ (c.hd + 64))) (sinZ (c.hd + 64)) = a2 at *
  generalize addZ (addZ c.y (sinZ c.hd)) (sinZ c.hd) = b2 at *
  generalize addZ c.x (sinZ (c.hd + 64)) = a3 at *
  generalize addZ c.y (sinZ c.hd) = b3 at *
  generalize firC c = fc at HF HD
  generalize firS c id = fs at HF HD
  generalize hr : rdy c = r at HF HD HF2
  have HRD := Keep.mk hr
  generalize sinZ (c.hd + 64) = ux at *
  generalize sinZ c.hd = uy at *
  have S1 := (Sep.nil w).newBox (crv c).toArray 38
  obtain ⟨W1, hW1⟩ : ∃ W1, w.alloc (.cells (crv c).toArray 38) = W1 := ⟨_, rfl⟩
  obtain ⟨cb, hcb⟩ : ∃ xb, w.heap.size = xb := ⟨_, rfl⟩
  rw [hW1, hcb] at S1
  change Sep w W1 [boxA cb (crv c) 38] at S1
  have HS := Keep.mk S1
  have hsz : (crv c).toArray.size = 14 := rfl
  clear S1 hk ok hr HRR
  go_enter Tryd.func5, Tryd.ntmps5
  have RN2 := Keep.mk (HS.out.boxGet k0m).range
  go_wp2_with (first
    | (show wpList _ _ _ ({ dst := _, op := Op.load 38 (Operand.tmp 2), type := _, pos := _, after := _, guard := _ } :: _) _ _
       refine load_g (by rfl) 38 _ rfl _ _ rfl _ _ RN2.out hdu hdr (infoC' c) ?_))
  refine (HA.out _ HS.out.g).mono ?_
  rintro e w1_ ⟨rfl, g_⟩
  clear RN2
  replace HS := Keep.mk (HS.out.grown g_)
  clear g_
  have RN2 := Keep.mk (HS.out.boxGet k0m).range
  go_wp2_with (first
    | (show wpList _ _ _ ({ dst := _, op := Op.load 38 (Operand.tmp 2), type := _, pos := _, after := _, guard := _ } :: _) _ _
       refine load_g (by rfl) 38 _ rfl _ _ rfl _ _ RN2.out hdu hdr (infoC' c) ?_))
  refine (HF.out _ HS.out.g).mono ?_
  rintro e w2_ ⟨rfl, g_⟩
  clear RN2
  replace HS := Keep.mk (HS.out.grown g_)
  clear g_
  have RN2 := Keep.mk (HS.out.boxGet k0m).range
  clear RN2
  have S_ := HS.out.newBox zC14.toArray 38
  obtain ⟨w3_, hw3_⟩ : ∃ W_, w2_.alloc (.cells zC14.toArray 38) = W_ := ⟨_, rfl⟩
  obtain ⟨xb, hxb⟩ : ∃ b_, w2_.heap.size = b_ := ⟨_, rfl⟩
  rw [hw3_, hxb] at S_
  rw [zC14_lit] at hw3_
  change Sep w w3_ [boxA xb zC14 38, boxA cb (crv c) 38] at S_
  replace HS := Keep.mk S_
  clear S_
  have RN5 := Keep.mk (HS.out.boxGet k0m).range
  have RN2 := Keep.mk (HS.out.boxGet k1m).range
  clear RN5 RN2
  have S_ := HS.out.newBox zS7.toArray 26
  obtain ⟨w4_, hw4_⟩ : ∃ W_, w3_.alloc (.cells zS7.toArray 26) = W_ := ⟨_, rfl⟩
  obtain ⟨sb, hsb⟩ : ∃ b_, w3_.heap.size = b_ := ⟨_, rfl⟩
  rw [hw4_, hsb] at S_
  rw [zS7_lit] at hw4_
  change Sep w w4_ [boxA sb zS7 26, boxA xb zC14 38, boxA cb (crv c) 38] at S_
  replace HS := Keep.mk S_
  clear S_
  have RN6 := Keep.mk (HS.out.boxGet k0m).range
  have RN5 := Keep.mk (HS.out.boxGet k1m).range
  have RN2 := Keep.mk (HS.out.boxGet k2m).range
  have HX_ := Keep.mk (HS.out.boxGet k1m)
  have HO_ := Keep.mk (crv_one fc)
  go_wp2_with (first
    | (show wpList _ _ _ ({ dst := _, op := Op.load 26 (Operand.tmp 6), type := _, pos := _, after := _, guard := _ } :: _) _ _
       refine load_g (by rfl) 26 _ rfl _ _ rfl _ _ RN6.out hds hdsr (infoS' zS) ?_)
    | (show wpList _ _ _ ({ dst := _, op := Op.load 38 (Operand.tmp 2), type := _, pos := _, after := _, guard := _ } :: _) _ _
       refine load_g (by rfl) 38 _ rfl _ _ rfl _ _ RN2.out hdu hdr (infoC' c) ?_)
    | (show wpList _ _ _ ({ dst := _, op := Op.store 38 (Operand.tmp 5) _, type := _, pos := _, after := _, guard := _ } :: _) _ _
       refine store_at _ xb 0 zC14 (crv fc) 38 38 rfl rfl rfl rfl HX_.out (Nat.le_refl _) (infoC' fc) HO_.out ?_))
  intro w5_ hS_ g_
  have S_ := hS_ _ _ (fr1 [boxA sb zS7 26] HS.out)
  rw [over_all zC14 (crv fc) rfl] at S_
  clear RN6 RN5 RN2
  change Sep w w5_ [boxA xb (crv fc) 38, boxA sb zS7 26, boxA cb (crv c) 38] at S_
  replace HS := Keep.mk S_
  clear S_ hS_ g_ HX_ HO_
  have RN5 := Keep.mk (HS.out.boxGet k0m).range
  have RN6 := Keep.mk (HS.out.boxGet k1m).range
  have RN2 := Keep.mk (HS.out.boxGet k2m).range
  have HX_ := Keep.mk (HS.out.boxGet k1m)
  have HO_ := Keep.mk (shv_one fs)
  go_wp2_with (first
    | (show wpList _ _ _ ({ dst := _, op := Op.load 38 (Operand.tmp 5), type := _, pos := _, after := _, guard := _ } :: _) _ _
       refine load_g (by rfl) 38 _ rfl _ _ rfl _ _ RN5.out hdu hdr (infoC' fc) ?_)
    | (show wpList _ _ _ ({ dst := _, op := Op.load 26 (Operand.tmp 6), type := _, pos := _, after := _, guard := _ } :: _) _ _
       refine load_g (by rfl) 26 _ rfl _ _ rfl _ _ RN6.out hds hdsr (infoS' zS) ?_)
    | (show wpList _ _ _ ({ dst := _, op := Op.load 38 (Operand.tmp 2), type := _, pos := _, after := _, guard := _ } :: _) _ _
       refine load_g (by rfl) 38 _ rfl _ _ rfl _ _ RN2.out hdu hdr (infoC' c) ?_)
    | (show wpList _ _ _ ({ dst := _, op := Op.store 26 (Operand.tmp 6) _, type := _, pos := _, after := _, guard := _ } :: _) _ _
       refine store_at _ sb 0 zS7 (shv fs) 26 26 rfl rfl rfl rfl HX_.out (Nat.le_refl _) (infoS' fs) HO_.out ?_))
  intro w6_ hS_ g_
  have S_ := hS_ _ _ (fr1 [boxA xb (crv fc) 38] HS.out)
  rw [over_all zS7 (shv fs) rfl] at S_
  clear RN5 RN6 RN2
  change Sep w w6_ [boxA sb (shv fs) 26, boxA xb (crv fc) 38, boxA cb (crv c) 38] at S_
  replace HS := Keep.mk S_
  clear S_ hS_ g_ HX_ HO_
  have RN6 := Keep.mk (HS.out.boxGet k0m).range
  have RN5 := Keep.mk (HS.out.boxGet k1m).range
  have RN2 := Keep.mk (HS.out.boxGet k2m).range
  clear RN6 RN5 RN2
  cases r
  case false =>
    obtain ⟨⟨e1, e2⟩, _⟩ := HD.out.2 rfl
    have e1 := e1.symm
    subst e1
    subst e2
    have hnr := HRD.out
    have HNR := Keep.mk hnr
    clear hnr HD
    change Keep (Sep w w6_ [boxA sb (shv zS) 26, boxA xb (crv c) 38, boxA cb (crv c) 38]) at HS
    have RN6 := Keep.mk (HS.out.boxGet k0m).range
    have RN5 := Keep.mk (HS.out.boxGet k1m).range
    have RN2 := Keep.mk (HS.out.boxGet k2m).range
    have c2x11 : w6_.cell? ⟨cb, 11, none⟩ = some (iv c.wa) := (HS.out.boxGet k2m).cellv 11 _ rfl
    have c2x10 : w6_.cell? ⟨cb, 10, none⟩ = some (iv c.co) := (HS.out.boxGet k2m).cellv 10 _ rfl
    have c2x9 : w6_.cell? ⟨cb, 9, none⟩ = some (iv c.am) := (HS.out.boxGet k2m).cellv 9 _ rfl
    have c2x8 : w6_.cell? ⟨cb, 8, none⟩ = some (iv c.en) := (HS.out.boxGet k2m).cellv 8 _ rfl
    have hEC := fun w => eq32 c w
    have hES := fun w => eq26 zS w
    have HBZ : Keep (Tryd.prog.built 26 [] = some (shv zS).toArray) := ⟨built26z⟩
    by_cases hwa : 0 < c.wa
    · have d1 : decide (0 < c.wa) = true := decide_eq_true hwa
      go_wp2_with (first
        | (show wpList _ _ _ ({ dst := _, op := Op.load 26 (Operand.tmp 6), type := _, pos := _, after := _, guard := _ } :: _) _ _
           refine load_g (by rfl) 26 _ rfl _ _ rfl _ _ RN6.out hds hdsr (infoS' zS) ?_)
        | (show wpList _ _ _ ({ dst := _, op := Op.load 38 (Operand.tmp 5), type := _, pos := _, after := _, guard := _ } :: _) _ _
           refine load_g (by rfl) 38 _ rfl _ _ rfl _ _ RN5.out hdu hdr (infoC' c) ?_)
        | (show wpList _ _ _ ({ dst := _, op := Op.load 38 (Operand.tmp 2), type := _, pos := _, after := _, guard := _ } :: _) _ _
           refine load_g (by rfl) 38 _ rfl _ _ rfl _ _ RN2.out hdu hdr (infoC' c) ?_)
        | (show wpList _ _ _ ({ dst := _, op := Op.build 26 #[], type := _, pos := _, after := _, guard := _ } :: _) _ _
           refine build_g (by rfl) 26 _ rfl _ ((congrArg (Tryd.prog.built 26) (by simp only [List.map_toArray, List.map_nil])).trans HBZ.out) ?_))
      go_ret
      exact ⟨rfl, HS.out.g⟩
    have d1 : decide (0 < c.wa) = false := decide_eq_false (by omega)
    by_cases hco : c.co = 0
    · have d2 : (c.co != 0) = false := by simp [hco]
      have d2' : (c.co == 0) = true := by simp [hco]
      by_cases ham : c.am ≤ 0
      · have d3 : decide (c.am ≤ 0) = true := decide_eq_true ham
        clear hwa hco ham
        go_wp2_with (first
          | (show wpList _ _ _ ({ dst := _, op := Op.load 26 (Operand.tmp 6), type := _, pos := _, after := _, guard := _ } :: _) _ _
             refine load_g (by rfl) 26 _ rfl _ _ rfl _ _ RN6.out hds hdsr (infoS' zS) ?_)
          | (show wpList _ _ _ ({ dst := _, op := Op.load 38 (Operand.tmp 5), type := _, pos := _, after := _, guard := _ } :: _) _ _
             refine load_g (by rfl) 38 _ rfl _ _ rfl _ _ RN5.out hdu hdr (infoC' c) ?_)
          | (show wpList _ _ _ ({ dst := _, op := Op.load 38 (Operand.tmp 2), type := _, pos := _, after := _, guard := _ } :: _) _ _
             refine load_g (by rfl) 38 _ rfl _ _ rfl _ _ RN2.out hdu hdr (infoC' c) ?_)
          | (show wpList _ _ _ ({ dst := _, op := Op.build 26 #[], type := _, pos := _, after := _, guard := _ } :: _) _ _
             refine build_g (by rfl) 26 _ rfl _ ((congrArg (Tryd.prog.built 26) (by simp only [List.map_toArray, List.map_nil])).trans HBZ.out) ?_))
        go_ret
        exact ⟨rfl, HS.out.g⟩
      have d3 : decide (c.am ≤ 0) = false := decide_eq_false ham
      have d4 : decide (c.en < 8) = true := decide_eq_true (by have := HNR.out; simp [rdy, hwa, hco] at this; omega)
      clear hwa hco ham
      go_wp2_with (first
        | (show wpList _ _ _ ({ dst := _, op := Op.load 26 (Operand.tmp 6), type := _, pos := _, after := _, guard := _ } :: _) _ _
           refine load_g (by rfl) 26 _ rfl _ _ rfl _ _ RN6.out hds hdsr (infoS' zS) ?_)
        | (show wpList _ _ _ ({ dst := _, op := Op.load 38 (Operand.tmp 5), type := _, pos := _, after := _, guard := _ } :: _) _ _
           refine load_g (by rfl) 38 _ rfl _ _ rfl _ _ RN5.out hdu hdr (infoC' c) ?_)
        | (show wpList _ _ _ ({ dst := _, op := Op.load 38 (Operand.tmp 2), type := _, pos := _, after := _, guard := _ } :: _) _ _
           refine load_g (by rfl) 38 _ rfl _ _ rfl _ _ RN2.out hdu hdr (infoC' c) ?_)
        | (show wpList _ _ _ ({ dst := _, op := Op.build 26 #[], type := _, pos := _, after := _, guard := _ } :: _) _ _
           refine build_g (by rfl) 26 _ rfl _ ((congrArg (Tryd.prog.built 26) (by simp only [List.map_toArray, List.map_nil])).trans HBZ.out) ?_))
      go_ret
      exact ⟨rfl, HS.out.g⟩
    · have d2 : (c.co != 0) = true := by simp [hco]
      have d2' : (c.co == 0) = false := by simp [hco]
      clear hwa hco
      go_wp2_with (first
        | (show wpList _ _ _ ({ dst := _, op := Op.load 26 (Operand.tmp 6), type := _, pos := _, after := _, guard := _ } :: _) _ _
           refine load_g (by rfl) 26 _ rfl _ _ rfl _ _ RN6.out hds hdsr (infoS' zS) ?_)
        | (show wpList _ _ _ ({ dst := _, op := Op.load 38 (Operand.tmp 5), type := _, pos := _, after := _, guard := _ } :: _) _ _
           refine load_g (by rfl) 38 _ rfl _ _ rfl _ _ RN5.out hdu hdr (infoC' c) ?_)
        | (show wpList _ _ _ ({ dst := _, op := Op.load 38 (Operand.tmp 2), type := _, pos := _, after := _, guard := _ } :: _) _ _
           refine load_g (by rfl) 38 _ rfl _ _ rfl _ _ RN2.out hdu hdr (infoC' c) ?_)
        | (show wpList _ _ _ ({ dst := _, op := Op.build 26 #[], type := _, pos := _, after := _, guard := _ } :: _) _ _
           refine build_g (by rfl) 26 _ rfl _ ((congrArg (Tryd.prog.built 26) (by simp only [List.map_toArray, List.map_nil])).trans HBZ.out) ?_))
      go_ret
      exact ⟨rfl, HS.out.g⟩
  case true =>
    replace HF2 := Keep.mk (HF2.out rfl)
    obtain ⟨⟨rfl, rfl⟩, hwa, hco, ham, hen⟩ := HD.out.1 rfl
    have HQ := Keep.mk (And.intro hwa (And.intro hco (And.intro ham hen)))
    clear hwa hco ham hen HD
    change Keep (Sep w w6_ [boxA sb (shv (shot c id)) 26, boxA xb (crv (paid c)) 38, boxA cb (crv c) 38]) at HS
    have RN6 := Keep.mk (HS.out.boxGet k0m).range
    have RN5 := Keep.mk (HS.out.boxGet k1m).range
    have RN2 := Keep.mk (HS.out.boxGet k2m).range
    have RO5 := RN5
    clear RN6 RN5 RN2
    have S_ := HS.out.newBox zC14.toArray 38
    obtain ⟨w7_, hw7_⟩ : ∃ W_, w6_.alloc (.cells zC14.toArray 38) = W_ := ⟨_, rfl⟩
    obtain ⟨yb, hyb⟩ : ∃ b_, w6_.heap.size = b_ := ⟨_, rfl⟩
    rw [hw7_, hyb] at S_
    rw [zC14_lit] at hw7_
    change Sep w w7_ [boxA yb zC14 38, boxA sb (shv (shot c id)) 26, boxA xb (crv (paid c)) 38, boxA cb (crv c) 38] at S_
    replace HS := Keep.mk S_
    clear S_
    have RN8 := Keep.mk (HS.out.boxGet k0m).range
    have RN6 := Keep.mk (HS.out.boxGet k1m).range
    have RN5 := Keep.mk (HS.out.boxGet k2m).range
    have RN2 := Keep.mk (HS.out.boxGet k3m).range
    have HX_ := Keep.mk (HS.out.boxGet k0m)
    have HO_ := Keep.mk (crv_one (paid c))
    go_wp2_with (first
      | (show wpList _ _ _ ({ dst := _, op := Op.store 38 (Operand.tmp 8) _, type := _, pos := _, after := _, guard := _ } :: _) _ _
         refine store_at _ yb 0 zC14 (crv (paid c)) 38 38 rfl rfl rfl rfl HX_.out (Nat.le_refl _) (infoC' (paid c)) HO_.out ?_)
      | (show wpList _ _ _ ({ dst := _, op := Op.load 38 (Operand.tmp 5), type := _, pos := _, after := _, guard := _ } :: _) _ _
         refine load_g (by rfl) 38 _ rfl _ _ rfl _ _ RO5.out hdu hdr (infoC' (paid c)) ?_))
    intro w8_ hS_ g_
    have S_ := hS_ _ _ (fr1 [] HS.out)
    rw [over_all zC14 (crv (paid c)) rfl] at S_
    clear RN8 RN6 RN5 RN2
    change Sep w w8_ [boxA yb (crv (paid c)) 38, boxA sb (shv (shot c id)) 26, boxA xb (crv (paid c)) 38, boxA cb (crv c) 38] at S_
    replace HS := Keep.mk S_
    clear S_ hS_ g_ HX_ HO_
    have RN8 := Keep.mk (HS.out.boxGet k0m).range
    have RN6 := Keep.mk (HS.out.boxGet k1m).range
    have RN5 := Keep.mk (HS.out.boxGet k2m).range
    have RN2 := Keep.mk (HS.out.boxGet k3m).range
    clear RO5
    have r9 : w8_.cell? ⟨cb, 9, none⟩ = some (iv c.am) := (HS.out.boxGet k3m).cellv 9 _ rfl
    have y9_ : w8_.cell? ⟨yb, 9, none⟩ = some (iv (c.am - 1)) := (HS.out.boxGet k0m).cellv 9 _ rfl
    have f9_ : w8_.frozen? ⟨yb, 9, none⟩ = false := (HS.out.boxGet k0m).frozen 9
    have S_ := (fr1 [] HS.out).boxPut 9 (iv c.am)
    obtain ⟨w9_, hw9_⟩ : ∃ W_, w8_.setCell ⟨yb, 9, none⟩ (iv c.am) = W_ := ⟨_, rfl⟩
    rw [hw9_] at S_
    clear RN8 RN6 RN5 RN2
    change Sep w w9_ [boxA yb (crv { paid c with am := c.am }) 38, boxA sb (shv (shot c id)) 26, boxA xb (crv (paid c)) 38, boxA cb (crv c) 38] at S_
    replace HS := Keep.mk S_
    clear S_
    have r8 : w9_.cell? ⟨cb, 8, none⟩ = some (iv c.en) := (HS.out.boxGet k3m).cellv 8 _ rfl
    have y10_ : w9_.cell? ⟨yb, 8, none⟩ = some (iv (c.en - 8)) := (HS.out.boxGet k0m).cellv 8 _ rfl
    have f10_ : w9_.frozen? ⟨yb, 8, none⟩ = false := (HS.out.boxGet k0m).frozen 8
    have S_ := (fr1 [] HS.out).boxPut 8 (iv c.en)
    obtain ⟨w10_, hw10_⟩ : ∃ W_, w9_.setCell ⟨yb, 8, none⟩ (iv c.en) = W_ := ⟨_, rfl⟩
    rw [hw10_] at S_
    change Sep w w10_ [boxA yb (crv { paid c with am := c.am, en := c.en }) 38, boxA sb (shv (shot c id)) 26, boxA xb (crv (paid c)) 38, boxA cb (crv c) 38] at S_
    replace HS := Keep.mk S_
    clear S_
    have r10 : w10_.cell? ⟨cb, 10, none⟩ = some (iv c.co) := (HS.out.boxGet k3m).cellv 10 _ rfl
    have y11_ : w10_.cell? ⟨yb, 10, none⟩ = some (iv 8) := (HS.out.boxGet k0m).cellv 10 _ rfl
    have f11_ : w10_.frozen? ⟨yb, 10, none⟩ = false := (HS.out.boxGet k0m).frozen 10
    have S_ := (fr1 [] HS.out).boxPut 10 (iv c.co)
    obtain ⟨w11_, hw11_⟩ : ∃ W_, w10_.setCell ⟨yb, 10, none⟩ (iv c.co) = W_ := ⟨_, rfl⟩
    rw [hw11_] at S_
    change Sep w w11_ [boxA yb (crv c) 38, boxA sb (shv (shot c id)) 26, boxA xb (crv (paid c)) 38, boxA cb (crv c) 38] at S_
    replace HS := Keep.mk S_
    clear S_
    have RN8 := Keep.mk (HS.out.boxGet k0m).range
    have RN6 := Keep.mk (HS.out.boxGet k1m).range
    have RN5 := Keep.mk (HS.out.boxGet k2m).range
    have RN2 := Keep.mk (HS.out.boxGet k3m).range
    have c2x11 : w11_.cell? ⟨cb, 11, none⟩ = some (iv c.wa) := (HS.out.boxGet k3m).cellv 11 _ rfl
    have c2x10 : w11_.cell? ⟨cb, 10, none⟩ = some (iv c.co) := (HS.out.boxGet k3m).cellv 10 _ rfl
    have c2x9 : w11_.cell? ⟨cb, 9, none⟩ = some (iv c.am) := (HS.out.boxGet k3m).cellv 9 _ rfl
    have c2x8 : w11_.cell? ⟨cb, 8, none⟩ = some (iv c.en) := (HS.out.boxGet k3m).cellv 8 _ rfl
    have c2x0 : w11_.cell? ⟨cb, 0, none⟩ = some (iv c.pl) := (HS.out.boxGet k3m).cellv 0 _ rfl
    have c5x9 : w11_.cell? ⟨xb, 9, none⟩ = some (iv (c.am - 1)) := (HS.out.boxGet k2m).cellv 9 _ rfl
    have c5x8 : w11_.cell? ⟨xb, 8, none⟩ = some (iv (c.en - 8)) := (HS.out.boxGet k2m).cellv 8 _ rfl
    have c5x10 : w11_.cell? ⟨xb, 10, none⟩ = some (iv 8) := (HS.out.boxGet k2m).cellv 10 _ rfl
    have c6x0 : w11_.cell? ⟨sb, 0, none⟩ = some (iv id) := (HS.out.boxGet k1m).cellv 0 _ rfl
    have c6x1 : w11_.cell? ⟨sb, 1, none⟩ = some (iv c.pl) := (HS.out.boxGet k1m).cellv 1 _ rfl
    have c6x6 : w11_.cell? ⟨sb, 6, none⟩ = some (iv 48) := (HS.out.boxGet k1m).cellv 6 _ rfl
    have hEC := fun w => eq32 c w
    obtain ⟨hwa, hco, ham, hen⟩ := HQ.out
    have d1 : decide (0 < c.wa) = false := decide_eq_false (by omega)
    have d2 : (c.co != 0) = false := by simp [hco]
    have d2' : (c.co == 0) = true := by simp [hco]
    have k1 : IntKind.i64.wrap (c.am - 1) = c.am - 1 := wi _ (by omega) (by have := HOK.out.am.2; omega)
    have k2 : IntKind.i64.wrap (c.en - 8) = c.en - 8 := wi _ (by omega) (by have := HOK.out.en.2; omega)
    have d3 : decide (c.am ≤ 0) = false := decide_eq_false (by omega)
    have d4 : decide (c.en - 8 < 0) = false := decide_eq_false (by omega)
    clear hwa hco ham hen
    go_wp2_with (first
      | (show wpList _ _ _ ({ dst := _, op := Op.load 38 (Operand.tmp 8), type := _, pos := _, after := _, guard := _ } :: _) _ _
         refine load_g (by rfl) 38 _ rfl _ _ rfl _ _ RN8.out hdu hdr (infoC' c) ?_)
      | (show wpList _ _ _ ({ dst := _, op := Op.load 26 (Operand.tmp 6), type := _, pos := _, after := _, guard := _ } :: _) _ _
         refine load_g (by rfl) 26 _ rfl _ _ rfl _ _ RN6.out hds hdsr (infoS' (shot c id)) ?_)
      | (show wpList _ _ _ ({ dst := _, op := Op.load 38 (Operand.tmp 5), type := _, pos := _, after := _, guard := _ } :: _) _ _
         refine load_g (by rfl) 38 _ rfl _ _ rfl _ _ RN5.out hdu hdr (infoC' (paid c)) ?_)
      | (show wpList _ _ _ ({ dst := _, op := Op.load 38 (Operand.tmp 2), type := _, pos := _, after := _, guard := _ } :: _) _ _
         refine load_g (by rfl) 38 _ rfl _ _ rfl _ _ RN2.out hdu hdr (infoC' c) ?_))
    refine (HF2.out _ HS.out.g).mono ?_
    rintro e w12_ ⟨rfl, g_⟩
    clear RN8 RN6 RN5 RN2
    replace HS := Keep.mk (HS.out.grown g_)
    clear g_
    have RN8 := Keep.mk (HS.out.boxGet k0m).range
    have RN6 := Keep.mk (HS.out.boxGet k1m).range
    have RN5 := Keep.mk (HS.out.boxGet k2m).range
    have RN2 := Keep.mk (HS.out.boxGet k3m).range
    clear hEC d1 d2 d2' k1 k2 d3 d4 r8 r9 r10 c2x11 c2x10 c2x9 c2x8 c2x0 c5x9 c5x8 c5x10 c6x0 c6x1 c6x6
    clear RN8 RN6 RN5 RN2
    have S_ := HS.out.newBox zC14.toArray 38
    obtain ⟨w13_, hw13_⟩ : ∃ W_, w12_.alloc (.cells zC14.toArray 38) = W_ := ⟨_, rfl⟩
    obtain ⟨pb, hpb⟩ : ∃ b_, w12_.heap.size = b_ := ⟨_, rfl⟩
    rw [hw13_, hpb] at S_
    rw [zC14_lit] at hw13_
    change Sep w w13_ [boxA pb zC14 38, boxA yb (crv c) 38, boxA sb (shv (shot c id)) 26, boxA xb (crv (paid c)) 38, boxA cb (crv c) 38] at S_
    replace HS := Keep.mk S_
    clear S_
    have RN9 := Keep.mk (HS.out.boxGet k0m).range
    have RN8 := Keep.mk (HS.out.boxGet k1m).range
    have RN6 := Keep.mk (HS.out.boxGet k2m).range
    have RN5 := Keep.mk (HS.out.boxGet k3m).range
    have RN2 := Keep.mk (HS.out.boxGet k4m).range
    clear RN9 RN8 RN6 RN5 RN2
    have S_ := HS.out.newBox zS7.toArray 26
    obtain ⟨w14_, hw14_⟩ : ∃ W_, w13_.alloc (.cells zS7.toArray 26) = W_ := ⟨_, rfl⟩
    obtain ⟨qb, hqb⟩ : ∃ b_, w13_.heap.size = b_ := ⟨_, rfl⟩
    rw [hw14_, hqb] at S_
    rw [zS7_lit] at hw14_
    change Sep w w14_ [boxA qb zS7 26, boxA pb zC14 38, boxA yb (crv c) 38, boxA sb (shv (shot c id)) 26, boxA xb (crv (paid c)) 38, boxA cb (crv c) 38] at S_
    replace HS := Keep.mk S_
    clear S_
    have RN10 := Keep.mk (HS.out.boxGet k0m).range
    have RN9 := Keep.mk (HS.out.boxGet k1m).range
    have RN8 := Keep.mk (HS.out.boxGet k2m).range
    have RN6 := Keep.mk (HS.out.boxGet k3m).range
    have RN5 := Keep.mk (HS.out.boxGet k4m).range
    have RN2 := Keep.mk (HS.out.boxGet k5m).range
    have HX_ := Keep.mk (HS.out.boxGet k1m)
    have HO_ := Keep.mk (crv_one (paid c))
    go_wp2_with (first
      | (show wpList _ _ _ ({ dst := _, op := Op.load 26 (Operand.tmp 10), type := _, pos := _, after := _, guard := _ } :: _) _ _
         refine load_g (by rfl) 26 _ rfl _ _ rfl _ _ RN10.out hds hdsr (infoS' zS) ?_)
      | (show wpList _ _ _ ({ dst := _, op := Op.load 38 (Operand.tmp 8), type := _, pos := _, after := _, guard := _ } :: _) _ _
         refine load_g (by rfl) 38 _ rfl _ _ rfl _ _ RN8.out hdu hdr (infoC' c) ?_)
      | (show wpList _ _ _ ({ dst := _, op := Op.load 26 (Operand.tmp 6), type := _, pos := _, after := _, guard := _ } :: _) _ _
         refine load_g (by rfl) 26 _ rfl _ _ rfl _ _ RN6.out hds hdsr (infoS' (shot c id)) ?_)
      | (show wpList _ _ _ ({ dst := _, op := Op.load 38 (Operand.tmp 5), type := _, pos := _, after := _, guard := _ } :: _) _ _
         refine load_g (by rfl) 38 _ rfl _ _ rfl _ _ RN5.out hdu hdr (infoC' (paid c)) ?_)
      | (show wpList _ _ _ ({ dst := _, op := Op.load 38 (Operand.tmp 2), type := _, pos := _, after := _, guard := _ } :: _) _ _
         refine load_g (by rfl) 38 _ rfl _ _ rfl _ _ RN2.out hdu hdr (infoC' c) ?_)
      | (show wpList _ _ _ ({ dst := _, op := Op.store 38 (Operand.tmp 9) _, type := _, pos := _, after := _, guard := _ } :: _) _ _
         refine store_at _ pb 0 zC14 (crv (paid c)) 38 38 rfl rfl rfl rfl HX_.out (Nat.le_refl _) (infoC' (paid c)) HO_.out ?_))
    intro w15_ hS_ g_
    have S_ := hS_ _ _ (fr1 [boxA qb zS7 26] HS.out)
    rw [over_all zC14 (crv (paid c)) rfl] at S_
    clear RN10 RN9 RN8 RN6 RN5 RN2
    change Sep w w15_ [boxA pb (crv (paid c)) 38, boxA qb zS7 26, boxA yb (crv c) 38, boxA sb (shv (shot c id)) 26, boxA xb (crv (paid c)) 38, boxA cb (crv c) 38] at S_
    replace HS := Keep.mk S_
    clear S_ hS_ g_ HX_ HO_
    have RN9 := Keep.mk (HS.out.boxGet k0m).range
    have RN10 := Keep.mk (HS.out.boxGet k1m).range
    have RN8 := Keep.mk (HS.out.boxGet k2m).range
    have RN6 := Keep.mk (HS.out.boxGet k3m).range
    have RN5 := Keep.mk (HS.out.boxGet k4m).range
    have RN2 := Keep.mk (HS.out.boxGet k5m).range
    have HX_ := Keep.mk (HS.out.boxGet k1m)
    have HO_ := Keep.mk (shv_one zS)
    go_wp2_with (first
      | (show wpList _ _ _ ({ dst := _, op := Op.load 38 (Operand.tmp 9), type := _, pos := _, after := _, guard := _ } :: _) _ _
         refine load_g (by rfl) 38 _ rfl _ _ rfl _ _ RN9.out hdu hdr (infoC' (paid c)) ?_)
      | (show wpList _ _ _ ({ dst := _, op := Op.load 26 (Operand.tmp 10), type := _, pos := _, after := _, guard := _ } :: _) _ _
         refine load_g (by rfl) 26 _ rfl _ _ rfl _ _ RN10.out hds hdsr (infoS' zS) ?_)
      | (show wpList _ _ _ ({ dst := _, op := Op.load 38 (Operand.tmp 8), type := _, pos := _, after := _, guard := _ } :: _) _ _
         refine load_g (by rfl) 38 _ rfl _ _ rfl _ _ RN8.out hdu hdr (infoC' c) ?_)
      | (show wpList _ _ _ ({ dst := _, op := Op.load 26 (Operand.tmp 6), type := _, pos := _, after := _, guard := _ } :: _) _ _
         refine load_g (by rfl) 26 _ rfl _ _ rfl _ _ RN6.out hds hdsr (infoS' (shot c id)) ?_)
      | (show wpList _ _ _ ({ dst := _, op := Op.load 38 (Operand.tmp 5), type := _, pos := _, after := _, guard := _ } :: _) _ _
         refine load_g (by rfl) 38 _ rfl _ _ rfl _ _ RN5.out hdu hdr (infoC' (paid c)) ?_)
      | (show wpList _ _ _ ({ dst := _, op := Op.load 38 (Operand.tmp 2), type := _, pos := _, after := _, guard := _ } :: _) _ _
         refine load_g (by rfl) 38 _ rfl _ _ rfl _ _ RN2.out hdu hdr (infoC' c) ?_)
      | (show wpList _ _ _ ({ dst := _, op := Op.store 26 (Operand.tmp 10) _, type := _, pos := _, after := _, guard := _ } :: _) _ _
         refine store_at _ qb 0 zS7 (shv zS) 26 26 rfl rfl rfl rfl HX_.out (Nat.le_refl _) (infoS' zS) HO_.out ?_))
    intro w16_ hS_ g_
    have S_ := hS_ _ _ (fr1 [boxA pb (crv (paid c)) 38] HS.out)
    rw [over_all zS7 (shv zS) rfl] at S_
    clear RN9 RN10 RN8 RN6 RN5 RN2
    change Sep w w16_ [boxA qb (shv zS) 26, boxA pb (crv (paid c)) 38, boxA yb (crv c) 38, boxA sb (shv (shot c id)) 26, boxA xb (crv (paid c)) 38, boxA cb (crv c) 38] at S_
    replace HS := Keep.mk S_
    clear S_ hS_ g_ HX_ HO_
    have RN10 := Keep.mk (HS.out.boxGet k0m).range
    have RN9 := Keep.mk (HS.out.boxGet k1m).range
    have RN8 := Keep.mk (HS.out.boxGet k2m).range
    have RN6 := Keep.mk (HS.out.boxGet k3m).range
    have RN5 := Keep.mk (HS.out.boxGet k4m).range
    have RN2 := Keep.mk (HS.out.boxGet k5m).range
    have rh : w16_.cell? ⟨cb, 6, none⟩ = some (iv c.hd) := (HS.out.boxGet k5m).cellv 6 _ rfl
    go_wp2_with (first
      | (show wpList _ _ _ ({ dst := _, op := Op.load 26 (Operand.tmp 10), type := _, pos := _, after := _, guard := _ } :: _) _ _
         refine load_g (by rfl) 26 _ rfl _ _ rfl _ _ RN10.out hds hdsr (infoS' zS) ?_)
      | (show wpList _ _ _ ({ dst := _, op := Op.load 38 (Operand.tmp 9), type := _, pos := _, after := _, guard := _ } :: _) _ _
         refine load_g (by rfl) 38 _ rfl _ _ rfl _ _ RN9.out hdu hdr (infoC' (paid c)) ?_)
      | (show wpList _ _ _ ({ dst := _, op := Op.load 38 (Operand.tmp 8), type := _, pos := _, after := _, guard := _ } :: _) _ _
         refine load_g (by rfl) 38 _ rfl _ _ rfl _ _ RN8.out hdu hdr (infoC' c) ?_)
      | (show wpList _ _ _ ({ dst := _, op := Op.load 26 (Operand.tmp 6), type := _, pos := _, after := _, guard := _ } :: _) _ _
         refine load_g (by rfl) 26 _ rfl _ _ rfl _ _ RN6.out hds hdsr (infoS' (shot c id)) ?_)
      | (show wpList _ _ _ ({ dst := _, op := Op.load 38 (Operand.tmp 5), type := _, pos := _, after := _, guard := _ } :: _) _ _
         refine load_g (by rfl) 38 _ rfl _ _ rfl _ _ RN5.out hdu hdr (infoC' (paid c)) ?_)
      | (show wpList _ _ _ ({ dst := _, op := Op.load 38 (Operand.tmp 2), type := _, pos := _, after := _, guard := _ } :: _) _ _
         refine load_g (by rfl) 38 _ rfl _ _ rfl _ _ RN2.out hdu hdr (infoC' c) ?_))
    refine (HU.out _ HS.out.g).mono ?_
    rintro e w17_ ⟨rfl, g_⟩
    clear RN10 RN9 RN8 RN6 RN5 RN2
    replace HS := Keep.mk (HS.out.grown g_)
    clear g_
    have RN10 := Keep.mk (HS.out.boxGet k0m).range
    have RN9 := Keep.mk (HS.out.boxGet k1m).range
    have RN8 := Keep.mk (HS.out.boxGet k2m).range
    have RN6 := Keep.mk (HS.out.boxGet k3m).range
    have RN5 := Keep.mk (HS.out.boxGet k4m).range
    have RN2 := Keep.mk (HS.out.boxGet k5m).range
    clear rh
    clear RN10 RN9 RN8 RN6 RN5 RN2
    replace HS := Keep.mk (fr1 [boxA qb (shv zS) 26, boxA pb (crv (paid c)) 38, boxA yb (crv c) 38] HS.out)
    replace HS := Keep.mk (fr1 [boxA sb (shv (shot c id)) 26, boxA qb (shv zS) 26, boxA pb (crv (paid c)) 38, boxA yb (crv c) 38, boxA xb (crv (paid c)) 38] HS.out)
    replace HS : Keep (Sep w w17_ [boxA cb (crv c) 38, boxA sb (shv (shot c id)) 26]) := ⟨Sep.dropM (l := []) [boxA cb (crv c) 38, boxA sb (shv (shot c id)) 26] [boxA qb (shv zS) 26, boxA pb (crv (paid c)) 38, boxA yb (crv c) 38, boxA xb (crv (paid c)) 38] HS.out⟩
    have S_ := HS.out.newBox #[iv ux, iv uy] 24
    obtain ⟨w18_, hw18_⟩ : ∃ W_, w17_.alloc (.cells #[iv ux, iv uy] 24) = W_ := ⟨_, rfl⟩
    obtain ⟨ub, hub⟩ : ∃ b_, w17_.heap.size = b_ := ⟨_, rfl⟩
    rw [hw18_, hub] at S_
    change Sep w w18_ [boxA ub [iv ux, iv uy] 24, boxA cb (crv c) 38, boxA sb (shv (shot c id)) 26] at S_
    replace HS := Keep.mk S_
    clear S_
    have RN2 := Keep.mk (HS.out.boxGet k1m).range
    have RN6 := Keep.mk (HS.out.boxGet k2m).range
    clear RN2 RN6
    have HB := HS
    clear HS
    go_upto_region 16 with fail
    obtain ⟨wq, hwq⟩ : ∃ wq, w18_ = wq := ⟨_, rfl⟩
    rw [hwq] at HB
    rw [show Code.wp Tryd.prog _ _ _ w18_ = Code.wp Tryd.prog _ _ _ wq from by rw [hwq]]
    clear hwq
    go_cut [13] (fun sv wx => ∃ ab, sv = pt ab ∧ Keep (Sep w wx (boxA ab [iv a2, iv b2] 24 :: [boxA ub [iv ux, iv uy] 24, boxA cb (crv c) 38, boxA sb (shv (shot c id)) 26])))
    case first =>
      refine region_X (S := fun w' => Sep w w' [boxA ub [iv ux, iv uy] 24, boxA cb (crv c) 38, boxA sb (shv (shot c id)) 26]) [] (by kernel_rfl) (HB.out.grown (gr_drew _ _)) (fun hHeld => ?_)
      replace HB := Keep.mk hHeld
      obtain ⟨W0, hW0⟩ : ∃ W_, wq.drew = W_ := ⟨_, rfl⟩
      rw [hW0] at HB hHeld ⊢
      clear hW0
      refine wpAnyX_take (i := 0) (oi := _) (v := ?_) rfl (by kernel_rfl) (by kernel_rfl) (by kernel_rfl) (by kernel_rfl) (by kernel_rfl) (fun _ _ _ h => h) (Or.inl ⟨by rfl, ?_⟩) (by assumption) ?_
      rotate_left
      · (intro w hSw; go_simp; first | done | (with_reducible rfl))
      simp only [Act.put, List.getElem_toArray, List.getElem_cons_zero, List.setIfInBounds_toArray, List.set_cons_zero, List.set_cons_succ]
      refine wpAnyX_take (i := 1) (oi := _) (v := _) rfl (by kernel_rfl) (by kernel_rfl) (by kernel_rfl) (by kernel_rfl) (by kernel_rfl) (fun _ _ _ h => h) (yieldsIf_load_mid (by rfl) 24 _ rfl _ _ rfl _ _ (fun w_ hS_ => (hS_.boxGet k1m).vec2 2 c.x c.y rfl rfl) hdv hdvr infoVc) (by assumption) ?_
      simp only [Act.put, List.getElem_toArray, List.getElem_cons_succ, List.getElem_cons_zero, List.setIfInBounds_toArray, List.set_cons_zero, List.set_cons_succ]
      refine wpAnyX_take (i := 2) (oi := _) (v := _) rfl (by kernel_rfl) (by kernel_rfl) (by kernel_rfl) (by kernel_rfl) (by kernel_rfl) (fun _ _ _ h => h) (yieldsIf_load_mid (by rfl) 24 _ rfl _ _ rfl _ _ (fun w_ hS_ => (hS_.boxGet k0m).vec2 0 ux uy rfl rfl) hdv hdvr infoVc) (by assumption) ?_
      simp only [Act.put, List.getElem_toArray, List.getElem_cons_succ, List.getElem_cons_zero, List.setIfInBounds_toArray, List.set_cons_zero, List.set_cons_succ]
      refine wpAnyX_take (i := 4) (oi := _) (v := _) rfl (by kernel_rfl) (by kernel_rfl) (by kernel_rfl) (by kernel_rfl) (by kernel_rfl) (fun _ _ _ h => h) (yieldsIf_load_mid (by rfl) 24 _ rfl _ _ rfl _ _ (fun w_ hS_ => (hS_.boxGet k0m).vec2 0 ux uy rfl rfl) hdv hdvr infoVc) (by assumption) ?_
      simp only [Act.put, List.getElem_toArray, List.getElem_cons_succ, List.getElem_cons_zero, List.setIfInBounds_toArray, List.set_cons_zero, List.set_cons_succ]
      refine wpAnyX_two (i := 3) (j := 6) (by kernel_rfl) rfl rfl (fun K hK => ?_) (fun K hK => ?_)
      · skip
        go_simp
        refine (HP1.out _).mono ?_
        rintro e wg1 ⟨rfl, hg⟩
        replace HB := Keep.mk (HB.out.grown hg)
        refine hK.out _ _ HB.out (fun hHeld => ?_)
        clear hK K hg
        refine wpAnyX_two (i := 5) (j := 6) (by kernel_rfl) rfl rfl (fun K hK => ?_) (fun K hK => ?_)
        · skip
          go_simp
          refine (HP2.out _).mono ?_
          rintro e wg2 ⟨rfl, hg⟩
          replace HB := Keep.mk (HB.out.grown hg)
          refine hK.out _ _ HB.out (fun hHeld => ?_)
          clear hK K hg
          refine wpAnyX_one (i := 6) (by kernel_rfl) rfl (fun K hK => ?_)
          have S_ := HB.out.newBox zV2.toArray 24
          obtain ⟨wa3, hwa3⟩ : ∃ W_, wg2.alloc (.cells zV2.toArray 24) = W_ := ⟨_, rfl⟩
          obtain ⟨nb, hnb⟩ : ∃ b_, wg2.heap.size = b_ := ⟨_, rfl⟩
          rw [hwa3, hnb] at S_
          rw [zV2_lit] at hwa3
          replace HB := Keep.mk S_
          clear S_
          go_simp
          refine hK.out _ _ HB.out.tail (fun hHeld => ?_)
          clear hK K
          refine wpAnyX_one (i := 7) (by kernel_rfl) rfl (fun K hK => ?_)
          rw [if_pos (show Region.wanted _ _ = true from rfl)]
          refine wp_store_mid 24 _ _ rfl nb 0 [iv a2, iv b2].toArray rfl rfl ((HB.out.boxGet k0m).there 0 2 (Nat.le_refl _)) infoVc (all_oneCell_toArray (vec_one a2 b2)) ?_
          have S_ := HB.out.boxTurn ((HB.out.boxGet k0m).setCells [iv a2, iv b2] 0) (gr_sets _ _ _ _)
          rw [over_all zV2 [iv a2, iv b2] rfl] at S_
          refine hK.out _ _ S_.tail (fun hHeld => ?_)
          replace HB := Keep.mk S_
          clear hK K S_
          change Keep (Sep w (World.setCells wa3 nb 0 [iv a2, iv b2].toArray.toList) _) at HB
          generalize World.setCells wa3 nb 0 [iv a2, iv b2].toArray.toList = ws4 at HB hHeld ⊢
          simp only [Act.put, List.getElem_toArray, List.getElem_cons_succ, List.getElem_cons_zero]
          refine wpAnyX_done (by kernel_rfl) ?_ _
          clear hHeld
          go_wp2_with fail
          go_meet
          exact ⟨nb, rfl, HB⟩
        · skip
          have S_ := HB.out.newBox zV2.toArray 24
          obtain ⟨wa5, hwa5⟩ : ∃ W_, wg1.alloc (.cells zV2.toArray 24) = W_ := ⟨_, rfl⟩
          obtain ⟨nb, hnb⟩ : ∃ b_, wg1.heap.size = b_ := ⟨_, rfl⟩
          rw [hwa5, hnb] at S_
          rw [zV2_lit] at hwa5
          replace HB := Keep.mk S_
          clear S_
          go_simp
          refine hK.out _ _ HB.out.tail (fun hHeld => ?_)
          clear hK K
          refine wpAnyX_one (i := 5) (by kernel_rfl) rfl (fun K hK => ?_)
          go_simp
          refine (HP2.out _).mono ?_
          rintro e wg6 ⟨rfl, hg⟩
          replace HB := Keep.mk (HB.out.grown hg)
          refine hK.out _ _ HB.out.tail (fun hHeld => ?_)
          clear hK K hg
          refine wpAnyX_one (i := 7) (by kernel_rfl) rfl (fun K hK => ?_)
          rw [if_pos (show Region.wanted _ _ = true from rfl)]
          refine wp_store_mid 24 _ _ rfl nb 0 [iv a2, iv b2].toArray rfl rfl ((HB.out.boxGet k0m).there 0 2 (Nat.le_refl _)) infoVc (all_oneCell_toArray (vec_one a2 b2)) ?_
          have S_ := HB.out.boxTurn ((HB.out.boxGet k0m).setCells [iv a2, iv b2] 0) (gr_sets _ _ _ _)
          rw [over_all zV2 [iv a2, iv b2] rfl] at S_
          refine hK.out _ _ S_.tail (fun hHeld => ?_)
          replace HB := Keep.mk S_
          clear hK K S_
          change Keep (Sep w (World.setCells wg6 nb 0 [iv a2, iv b2].toArray.toList) _) at HB
          generalize World.setCells wg6 nb 0 [iv a2, iv b2].toArray.toList = ws7 at HB hHeld ⊢
          simp only [Act.put, List.getElem_toArray, List.getElem_cons_succ, List.getElem_cons_zero]
          refine wpAnyX_done (by kernel_rfl) ?_ _
          clear hHeld
          go_wp2_with fail
          go_meet
          exact ⟨nb, rfl, HB⟩
      · skip
        have S_ := HB.out.newBox zV2.toArray 24
        obtain ⟨wa8, hwa8⟩ : ∃ W_, W0.alloc (.cells zV2.toArray 24) = W_ := ⟨_, rfl⟩
        obtain ⟨nb, hnb⟩ : ∃ b_, W0.heap.size = b_ := ⟨_, rfl⟩
        rw [hwa8, hnb] at S_
        rw [zV2_lit] at hwa8
        replace HB := Keep.mk S_
        clear S_
        go_simp
        refine hK.out _ _ HB.out.tail (fun hHeld => ?_)
        clear hK K
        refine wpAnyX_one (i := 3) (by kernel_rfl) rfl (fun K hK => ?_)
        go_simp
        refine (HP1.out _).mono ?_
        rintro e wg9 ⟨rfl, hg⟩
        replace HB := Keep.mk (HB.out.grown hg)
        refine hK.out _ _ HB.out.tail (fun hHeld => ?_)
        clear hK K hg
        refine wpAnyX_one (i := 5) (by kernel_rfl) rfl (fun K hK => ?_)
        go_simp
        refine (HP2.out _).mono ?_
        rintro e wg10 ⟨rfl, hg⟩
        replace HB := Keep.mk (HB.out.grown hg)
        refine hK.out _ _ HB.out.tail (fun hHeld => ?_)
        clear hK K hg
        refine wpAnyX_one (i := 7) (by kernel_rfl) rfl (fun K hK => ?_)
        rw [if_pos (show Region.wanted _ _ = true from rfl)]
        refine wp_store_mid 24 _ _ rfl nb 0 [iv a2, iv b2].toArray rfl rfl ((HB.out.boxGet k0m).there 0 2 (Nat.le_refl _)) infoVc (all_oneCell_toArray (vec_one a2 b2)) ?_
        have S_ := HB.out.boxTurn ((HB.out.boxGet k0m).setCells [iv a2, iv b2] 0) (gr_sets _ _ _ _)
        rw [over_all zV2 [iv a2, iv b2] rfl] at S_
        refine hK.out _ _ S_.tail (fun hHeld => ?_)
        replace HB := Keep.mk S_
        clear hK K S_
        change Keep (Sep w (World.setCells wg10 nb 0 [iv a2, iv b2].toArray.toList) _) at HB
        generalize World.setCells wg10 nb 0 [iv a2, iv b2].toArray.toList = ws11 at HB hHeld ⊢
        simp only [Act.put, List.getElem_toArray, List.getElem_cons_succ, List.getElem_cons_zero]
        refine wpAnyX_done (by kernel_rfl) ?_ _
        clear hHeld
        go_wp2_with fail
        go_meet
        exact ⟨nb, rfl, HB⟩
    case rest =>
    obtain ⟨ab, rfl, HB2⟩ := hcut
    clear HB
    rename World => wr
    go_upto_region 17 with fail
    obtain ⟨wq, hwq⟩ : ∃ wq, wr = wq := ⟨_, rfl⟩
    have HB := HB2
    rw [hwq] at HB
    rw [show Code.wp Tryd.prog _ _ _ wr = Code.wp Tryd.prog _ _ _ wq from by rw [hwq]]
    clear hwq HB2
    go_cut [14] (fun sv wx => ∃ bb, sv = pt bb ∧ Keep (Sep w wx (boxA bb [iv a4, iv b4] 24 :: (boxA ab [iv a2, iv b2] 24 :: [boxA ub [iv ux, iv uy] 24, boxA cb (crv c) 38, boxA sb (shv (shot c id)) 26]))))
    case first =>
      refine region_X (S := fun w' => Sep w w' (boxA ab [iv a2, iv b2] 24 :: [boxA ub [iv ux, iv uy] 24, boxA cb (crv c) 38, boxA sb (shv (shot c id)) 26])) [] (by kernel_rfl) (HB.out.grown (gr_drew _ _)) (fun hHeld => ?_)
      replace HB := Keep.mk hHeld
      obtain ⟨W0, hW0⟩ : ∃ W_, wq.drew = W_ := ⟨_, rfl⟩
      rw [hW0] at HB hHeld ⊢
      clear hW0
      refine wpAnyX_take (i := 0) (oi := _) (v := ?_) rfl (by kernel_rfl) (by kernel_rfl) (by kernel_rfl) (by kernel_rfl) (by kernel_rfl) (fun _ _ _ h => h) (Or.inl ⟨by rfl, ?_⟩) (by assumption) ?_
      rotate_left
      · (intro w hSw; go_simp; first | done | (with_reducible rfl))
      simp only [Act.put, List.getElem_toArray, List.getElem_cons_zero, List.setIfInBounds_toArray, List.set_cons_zero, List.set_cons_succ]
      refine wpAnyX_take (i := 1) (oi := _) (v := _) rfl (by kernel_rfl) (by kernel_rfl) (by kernel_rfl) (by kernel_rfl) (by kernel_rfl) (fun _ _ _ h => h) (yieldsIf_load_mid (by rfl) 24 _ rfl _ _ rfl _ _ (fun w_ hS_ => (hS_.boxGet k2m).vec2 4 c.sx c.sy rfl rfl) hdv hdvr infoVc) (by assumption) ?_
      simp only [Act.put, List.getElem_toArray, List.getElem_cons_succ, List.getElem_cons_zero, List.setIfInBounds_toArray, List.set_cons_zero, List.set_cons_succ]
      refine wpAnyX_take (i := 2) (oi := _) (v := _) rfl (by kernel_rfl) (by kernel_rfl) (by kernel_rfl) (by kernel_rfl) (by kernel_rfl) (fun _ _ _ h => h) (yieldsIf_load_mid (by rfl) 24 _ rfl _ _ rfl _ _ (fun w_ hS_ => (hS_.boxGet k1m).vec2 0 ux uy rfl rfl) hdv hdvr infoVc) (by assumption) ?_
      simp only [Act.put, List.getElem_toArray, List.getElem_cons_succ, List.getElem_cons_zero, List.setIfInBounds_toArray, List.set_cons_zero, List.set_cons_succ]
      refine wpAnyX_take (i := 4) (oi := _) (v := _) rfl (by kernel_rfl) (by kernel_rfl) (by kernel_rfl) (by kernel_rfl) (by kernel_rfl) (fun _ _ _ h => h) (yieldsIf_load_mid (by rfl) 24 _ rfl _ _ rfl _ _ (fun w_ hS_ => (hS_.boxGet k1m).vec2 0 ux uy rfl rfl) hdv hdvr infoVc) (by assumption) ?_
      simp only [Act.put, List.getElem_toArray, List.getElem_cons_succ, List.getElem_cons_zero, List.setIfInBounds_toArray, List.set_cons_zero, List.set_cons_succ]
      refine wpAnyX_take (i := 6) (oi := _) (v := _) rfl (by kernel_rfl) (by kernel_rfl) (by kernel_rfl) (by kernel_rfl) (by kernel_rfl) (fun _ _ _ h => h) (yieldsIf_load_mid (by rfl) 24 _ rfl _ _ rfl _ _ (fun w_ hS_ => (hS_.boxGet k1m).vec2 0 ux uy rfl rfl) hdv hdvr infoVc) (by assumption) ?_
      simp only [Act.put, List.getElem_toArray, List.getElem_cons_succ, List.getElem_cons_zero, List.setIfInBounds_toArray, List.set_cons_zero, List.set_cons_succ]
      refine wpAnyX_two (i := 3) (j := 8) (by kernel_rfl) rfl rfl (fun K hK => ?_) (fun K hK => ?_)
      · skip
        go_simp
        refine (HQ1.out _).mono ?_
        rintro e wg1 ⟨rfl, hg⟩
        replace HB := Keep.mk (HB.out.grown hg)
        refine hK.out _ _ HB.out (fun hHeld => ?_)
        clear hK K hg
        refine wpAnyX_two (i := 5) (j := 8) (by kernel_rfl) rfl rfl (fun K hK => ?_) (fun K hK => ?_)
        · skip
          go_simp
          refine (HQ2.out _).mono ?_
          rintro e wg2 ⟨rfl, hg⟩
          replace HB := Keep.mk (HB.out.grown hg)
          refine hK.out _ _ HB.out (fun hHeld => ?_)
          clear hK K hg
          refine wpAnyX_two (i := 7) (j := 8) (by kernel_rfl) rfl rfl (fun K hK => ?_) (fun K hK => ?_)
          · skip
            go_simp
            refine (HQ3.out _).mono ?_
            rintro e wg3 ⟨rfl, hg⟩
            replace HB := Keep.mk (HB.out.grown hg)
            refine hK.out _ _ HB.out (fun hHeld => ?_)
            clear hK K hg
            refine wpAnyX_one (i := 8) (by kernel_rfl) rfl (fun K hK => ?_)
            have S_ := HB.out.newBox zV2.toArray 24
            obtain ⟨wa4, hwa4⟩ : ∃ W_, wg3.alloc (.cells zV2.toArray 24) = W_ := ⟨_, rfl⟩
            obtain ⟨nb, hnb⟩ : ∃ b_, wg3.heap.size = b_ := ⟨_, rfl⟩
            rw [hwa4, hnb] at S_
            rw [zV2_lit] at hwa4
            replace HB := Keep.mk S_
            clear S_
            go_simp
            refine hK.out _ _ HB.out.tail (fun hHeld => ?_)
            clear hK K
            refine wpAnyX_one (i := 9) (by kernel_rfl) rfl (fun K hK => ?_)
            rw [if_pos (show Region.wanted _ _ = true from rfl)]
            refine wp_store_mid 24 _ _ rfl nb 0 [iv a4, iv b4].toArray rfl rfl ((HB.out.boxGet k0m).there 0 2 (Nat.le_refl _)) infoVc (all_oneCell_toArray (vec_one a4 b4)) ?_
            have S_ := HB.out.boxTurn ((HB.out.boxGet k0m).setCells [iv a4, iv b4] 0) (gr_sets _ _ _ _)
            rw [over_all zV2 [iv a4, iv b4] rfl] at S_
            refine hK.out _ _ S_.tail (fun hHeld => ?_)
            replace HB := Keep.mk S_
            clear hK K S_
            change Keep (Sep w (World.setCells wa4 nb 0 [iv a4, iv b4].toArray.toList) _) at HB
            generalize World.setCells wa4 nb 0 [iv a4, iv b4].toArray.toList = ws5 at HB hHeld ⊢
            simp only [Act.put, List.getElem_toArray, List.getElem_cons_succ, List.getElem_cons_zero]
            refine wpAnyX_done (by kernel_rfl) ?_ _
            clear hHeld
            go_wp2_with fail
            go_meet
            exact ⟨nb, rfl, HB⟩
          · skip
            have S_ := HB.out.newBox zV2.toArray 24
            obtain ⟨wa6, hwa6⟩ : ∃ W_, wg2.alloc (.cells zV2.toArray 24) = W_ := ⟨_, rfl⟩
            obtain ⟨nb, hnb⟩ : ∃ b_, wg2.heap.size = b_ := ⟨_, rfl⟩
            rw [hwa6, hnb] at S_
            rw [zV2_lit] at hwa6
            replace HB := Keep.mk S_
            clear S_
            go_simp
            refine hK.out _ _ HB.out.tail (fun hHeld => ?_)
            clear hK K
            refine wpAnyX_one (i := 7) (by kernel_rfl) rfl (fun K hK => ?_)
            go_simp
            refine (HQ3.out _).mono ?_
            rintro e wg7 ⟨rfl, hg⟩
            replace HB := Keep.mk (HB.out.grown hg)
            refine hK.out _ _ HB.out.tail (fun hHeld => ?_)
            clear hK K hg
            refine wpAnyX_one (i := 9) (by kernel_rfl) rfl (fun K hK => ?_)
            rw [if_pos (show Region.wanted _ _ = true from rfl)]
            refine wp_store_mid 24 _ _ rfl nb 0 [iv a4, iv b4].toArray rfl rfl ((HB.out.boxGet k0m).there 0 2 (Nat.le_refl _)) infoVc (all_oneCell_toArray (vec_one a4 b4)) ?_
            have S_ := HB.out.boxTurn ((HB.out.boxGet k0m).setCells [iv a4, iv b4] 0) (gr_sets _ _ _ _)
            rw [over_all zV2 [iv a4, iv b4] rfl] at S_
            refine hK.out _ _ S_.tail (fun hHeld => ?_)
            replace HB := Keep.mk S_
            clear hK K S_
            change Keep (Sep w (World.setCells wg7 nb 0 [iv a4, iv b4].toArray.toList) _) at HB
            generalize World.setCells wg7 nb 0 [iv a4, iv b4].toArray.toList = ws8 at HB hHeld ⊢
            simp only [Act.put, List.getElem_toArray, List.getElem_cons_succ, List.getElem_cons_zero]
            refine wpAnyX_done (by kernel_rfl) ?_ _
            clear hHeld
            go_wp2_with fail
            go_meet
            exact ⟨nb, rfl, HB⟩
        · skip
          have S_ := HB.out.newBox zV2.toArray 24
          obtain ⟨wa9, hwa9⟩ : ∃ W_, wg1.alloc (.cells zV2.toArray 24) = W_ := ⟨_, rfl⟩
          obtain ⟨nb, hnb⟩ : ∃ b_, wg1.heap.size = b_ := ⟨_, rfl⟩
          rw [hwa9, hnb] at S_
          rw [zV2_lit] at hwa9
          replace HB := Keep.mk S_
          clear S_
          go_simp
          refine hK.out _ _ HB.out.tail (fun hHeld => ?_)
          clear hK K
          refine wpAnyX_one (i := 5) (by kernel_rfl) rfl (fun K hK => ?_)
          go_simp
          refine (HQ2.out _).mono ?_
          rintro e wg10 ⟨rfl, hg⟩
          replace HB := Keep.mk (HB.out.grown hg)
          refine hK.out _ _ HB.out.tail (fun hHeld => ?_)
          clear hK K hg
          refine wpAnyX_one (i := 7) (by kernel_rfl) rfl (fun K hK => ?_)
          go_simp
          refine (HQ3.out _).mono ?_
          rintro e wg11 ⟨rfl, hg⟩
          replace HB := Keep.mk (HB.out.grown hg)
          refine hK.out _ _ HB.out.tail (fun hHeld => ?_)
          clear hK K hg
          refine wpAnyX_one (i := 9) (by kernel_rfl) rfl (fun K hK => ?_)
          rw [if_pos (show Region.wanted _ _ = true from rfl)]
          refine wp_store_mid 24 _ _ rfl nb 0 [iv a4, iv b4].toArray rfl rfl ((HB.out.boxGet k0m).there 0 2 (Nat.le_refl _)) infoVc (all_oneCell_toArray (vec_one a4 b4)) ?_
          have S_ := HB.out.boxTurn ((HB.out.boxGet k0m).setCells [iv a4, iv b4] 0) (gr_sets _ _ _ _)
          rw [over_all zV2 [iv a4, iv b4] rfl] at S_
          refine hK.out _ _ S_.tail (fun hHeld => ?_)
          replace HB := Keep.mk S_
          clear hK K S_
          change Keep (Sep w (World.setCells wg11 nb 0 [iv a4, iv b4].toArray.toList) _) at HB
          generalize World.setCells wg11 nb 0 [iv a4, iv b4].toArray.toList = ws12 at HB hHeld ⊢
          simp only [Act.put, List.getElem_toArray, List.getElem_cons_succ, List.getElem_cons_zero]
          refine wpAnyX_done (by kernel_rfl) ?_ _
          clear hHeld
          go_wp2_with fail
          go_meet
          exact ⟨nb, rfl, HB⟩
      · skip
        have S_ := HB.out.newBox zV2.toArray 24
        obtain ⟨wa13, hwa13⟩ : ∃ W_, W0.alloc (.cells zV2.toArray 24) = W_ := ⟨_, rfl⟩
        obtain ⟨nb, hnb⟩ : ∃ b_, W0.heap.size = b_ := ⟨_, rfl⟩
        rw [hwa13, hnb] at S_
        rw [zV2_lit] at hwa13
        replace HB := Keep.mk S_
        clear S_
        go_simp
        refine hK.out _ _ HB.out.tail (fun hHeld => ?_)
        clear hK K
        refine wpAnyX_one (i := 3) (by kernel_rfl) rfl (fun K hK => ?_)
        go_simp
        refine (HQ1.out _).mono ?_
        rintro e wg14 ⟨rfl, hg⟩
        replace HB := Keep.mk (HB.out.grown hg)
        refine hK.out _ _ HB.out.tail (fun hHeld => ?_)
        clear hK K hg
        refine wpAnyX_one (i := 5) (by kernel_rfl) rfl (fun K hK => ?_)
        go_simp
        refine (HQ2.out _).mono ?_
        rintro e wg15 ⟨rfl, hg⟩
        replace HB := Keep.mk (HB.out.grown hg)
        refine hK.out _ _ HB.out.tail (fun hHeld => ?_)
        clear hK K hg
        refine wpAnyX_one (i := 7) (by kernel_rfl) rfl (fun K hK => ?_)
        go_simp
        refine (HQ3.out _).mono ?_
        rintro e wg16 ⟨rfl, hg⟩
        replace HB := Keep.mk (HB.out.grown hg)
        refine hK.out _ _ HB.out.tail (fun hHeld => ?_)
        clear hK K hg
        refine wpAnyX_one (i := 9) (by kernel_rfl) rfl (fun K hK => ?_)
        rw [if_pos (show Region.wanted _ _ = true from rfl)]
        refine wp_store_mid 24 _ _ rfl nb 0 [iv a4, iv b4].toArray rfl rfl ((HB.out.boxGet k0m).there 0 2 (Nat.le_refl _)) infoVc (all_oneCell_toArray (vec_one a4 b4)) ?_
        have S_ := HB.out.boxTurn ((HB.out.boxGet k0m).setCells [iv a4, iv b4] 0) (gr_sets _ _ _ _)
        rw [over_all zV2 [iv a4, iv b4] rfl] at S_
        refine hK.out _ _ S_.tail (fun hHeld => ?_)
        replace HB := Keep.mk S_
        clear hK K S_
        change Keep (Sep w (World.setCells wg16 nb 0 [iv a4, iv b4].toArray.toList) _) at HB
        generalize World.setCells wg16 nb 0 [iv a4, iv b4].toArray.toList = ws17 at HB hHeld ⊢
        simp only [Act.put, List.getElem_toArray, List.getElem_cons_succ, List.getElem_cons_zero]
        refine wpAnyX_done (by kernel_rfl) ?_ _
        clear hHeld
        go_wp2_with fail
        go_meet
        exact ⟨nb, rfl, HB⟩
    case rest =>
    obtain ⟨bb, rfl, HS⟩ := hcut
    clear HB
    rename World => ws
    have p2 : ws.cell? ⟨cb, 2, none⟩ = some (iv c.x) := (HS.out.boxGet k3m).cellv 2 _ rfl
    have p3 : ws.cell? ⟨cb, 3, none⟩ = some (iv c.y) := (HS.out.boxGet k3m).cellv 3 _ rfl
    have hFA := far_c ws c.x c.y
    go_wp2_with fail
    refine hFA.mono ?_
    rintro e wt ⟨rfl, g_⟩
    replace HS := Keep.mk (HS.out.grown g_)
    clear g_ hFA p2 p3
    generalize hf1 : fa c.x c.y = f1
    cases f1
    case true =>
      go_wp2_with fail
      go_ret
      exact ⟨rfl, HS.out.g⟩
    case false =>
    have p4 : wt.cell? ⟨cb, 4, none⟩ = some (iv c.sx) := (HS.out.boxGet k3m).cellv 4 _ rfl
    have p5 : wt.cell? ⟨cb, 5, none⟩ = some (iv c.sy) := (HS.out.boxGet k3m).cellv 5 _ rfl
    have hFB := far_c wt c.sx c.sy
    go_wp2_with fail
    refine hFB.mono ?_
    rintro e wu ⟨rfl, g_⟩
    replace HS := Keep.mk (HS.out.grown g_)
    clear g_ hFB p4 p5
    generalize hf2 : fa c.sx c.sy = f2
    cases f2
    case true =>
      go_wp2_with fail
      go_ret
      exact ⟨rfl, HS.out.g⟩
    case false =>
    obtain ⟨e1, e2, e3, e4⟩ := HEQ.out hf1 hf2
    have q2 : wu.cell? ⟨sb, 2, none⟩ = some (iv a2) := e1 ▸ (HS.out.boxGet k4m).cellv 2 _ rfl
    have q3 : wu.cell? ⟨sb, 3, none⟩ = some (iv b2) := e2 ▸ (HS.out.boxGet k4m).cellv 3 _ rfl
    have q4 : wu.cell? ⟨sb, 4, none⟩ = some (iv a4) := e3 ▸ (HS.out.boxGet k4m).cellv 4 _ rfl
    have q5 : wu.cell? ⟨sb, 5, none⟩ = some (iv b4) := e4 ▸ (HS.out.boxGet k4m).cellv 5 _ rfl
    have t0 : wu.cell? ⟨ab, 0, none⟩ = some (iv a2) := (HS.out.boxGet k1m).cellv 0 _ rfl
    have t1 : wu.cell? ⟨ab, 1, none⟩ = some (iv b2) := (HS.out.boxGet k1m).cellv 1 _ rfl
    have t2 : wu.cell? ⟨bb, 0, none⟩ = some (iv a4) := (HS.out.boxGet k0m).cellv 0 _ rfl
    have t3 : wu.cell? ⟨bb, 1, none⟩ = some (iv b4) := (HS.out.boxGet k0m).cellv 1 _ rfl
    have hE1 := fun w => eq24 a2 b2 w
    have hE2 := fun w => eq24 a4 b4 w
    clear hf1 hf2 e1 e2 e3 e4 HEQ
    go_wp2_with fail
    go_ret
    exact ⟨rfl, HS.out.g⟩
end Go.Proofs.YtmacmoikjgmaoaaDoor.Bo
