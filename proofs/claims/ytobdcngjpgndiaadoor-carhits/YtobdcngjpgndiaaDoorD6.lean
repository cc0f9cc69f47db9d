/- CarHits: the walk -/
import Derived.Test.YtobdcngjpgndiaaDoorD4
import Derived.Test.YtobdcngjpgndiaaDoorD5
namespace Go.Proofs.YtobdcngjpgndiaaDoor.Bo
open Go Go.RowKit

theorem k6m {a b c d e f g : As} {l : List As} : a ∈ b :: c :: d :: e :: f :: g :: a :: l := List.mem_cons_of_mem _ k5m
set_option maxRecDepth 100000 in
set_option maxHeartbeats 32000000 in
theorem hits_c (w : World) (x y : Cr) (h : Int) (okx : CrOk x) (oky : CrOk y) (hh : In h) (hk : Kc w) :
    Calls Tryd.prog 8 #[.agg (crv x).toArray, .agg (crv y).toArray, iv h] w fun e w' => e = .returned (.bool true) ∧ w.grownBy w' none := by
  obtain ⟨du, hdu, hdr⟩ := underC
  have HAL := Keep.mk (fun W (g : w.grownBy W none) => alive_c W (hk.kept g))
  have HHx := Keep.mk (fun W => hit_c W x h okx hh)
  have HRx := Keep.mk (fun W => rhit_c W x h okx hh)
  have HHy := Keep.mk (fun W => hit_c W y h oky hh)
  have HRy := Keep.mk (fun W => rhit_c W y h oky hh)
  have HBU := Keep.mk (fun W (g : w.grownBy W none) => bump_c W x y okx oky (hk.kept g))
  have HRB := Keep.mk (fun W (g : w.grownBy W none) => rbump_c W x y okx oky (hk.kept g))
  generalize hitC x h = cx at *
  generalize hitC y h = cy at *
  generalize bmA x y = a at *
  generalize bmB x y = b at *
  generalize bmp x y = r at *
  have S2 := ((Sep.nil w).newBox (crv x).toArray 32).newBox (crv y).toArray 32
  obtain ⟨W1, hW1⟩ : ∃ W1, w.alloc (.cells (crv x).toArray 32) = W1 := ⟨_, rfl⟩
  obtain ⟨xb, hxb⟩ : ∃ xb, w.heap.size = xb := ⟨_, rfl⟩
  rw [hW1, hxb] at S2
  obtain ⟨W2, hW2⟩ : ∃ W2, W1.alloc (.cells (crv y).toArray 32) = W2 := ⟨_, rfl⟩
  obtain ⟨yb, hyb⟩ : ∃ yb, W1.heap.size = yb := ⟨_, rfl⟩
  rw [hW2, hyb] at S2
  change Sep w W2 [boxA yb (crv y) 32, boxA xb (crv x) 32] at S2
  have hsx : (crv x).toArray.size = 14 := rfl
  have hsy : (crv y).toArray.size = 14 := rfl
  have HS := Keep.mk S2
  clear S2 okx oky hh hk
  go_enter Tryd.func8, Tryd.ntmps8
  go_wp2_with fail
  refine (HAL.out _ HS.out.g).mono ?_
  rintro e w3 ⟨rfl, g_⟩
  replace HS := Keep.mk (HS.out.grown g_)
  clear g_ hW1 hW2 hxb hyb
  go_wp2_with fail
  refine region_X (S := fun w' => Sep w w' [boxA yb (crv y) 32, boxA xb (crv x) 32]) [] (by kernel_rfl) (HS.out.grown (gr_drew _ _)) (fun hHeld => ?_)
  replace HS := Keep.mk hHeld
  refine wpAnyX_take (i := 0) (oi := _) (v := _) rfl (by kernel_rfl) (by kernel_rfl) (by kernel_rfl) (by kernel_rfl) (by kernel_rfl) (fun _ _ _ h => h) (yieldsIf_load_mid (by rfl) 32 _ rfl _ _ rfl _ _ (fun w_ hS_ => (hS_.boxGet k1m).range) hdu hdr (infoC' x)) (by assumption) ?_
  simp only [Act.put, List.getElem_toArray, List.getElem_cons_zero, List.setIfInBounds_toArray, List.set_cons_zero, List.set_cons_succ]
  refine wpAnyX_take (i := 1) (oi := _) (v := ?_) rfl (by kernel_rfl) (by kernel_rfl) (by kernel_rfl) (by kernel_rfl) (by kernel_rfl) (fun _ _ _ h => h) (Or.inl ⟨by rfl, ?_⟩) (by assumption) ?_
  rotate_left
  · (intro w hSw; go_simp; first | done | (with_reducible rfl))
  simp only [Act.put, List.getElem_toArray, List.getElem_cons_succ, List.getElem_cons_zero, List.setIfInBounds_toArray, List.set_cons_zero, List.set_cons_succ]
  refine wpAnyX_take (i := 3) (oi := _) (v := _) rfl (by kernel_rfl) (by kernel_rfl) (by kernel_rfl) (by kernel_rfl) (by kernel_rfl) (fun _ _ _ h => h) (yieldsIf_load_mid (by rfl) 32 _ rfl _ _ rfl _ _ (fun w_ hS_ => (hS_.boxGet k1m).range) hdu hdr (infoC' x)) (by assumption) ?_
  simp only [Act.put, List.getElem_toArray, List.getElem_cons_succ, List.getElem_cons_zero, List.setIfInBounds_toArray, List.set_cons_zero, List.set_cons_succ]
  refine wpAnyX_take (i := 4) (oi := _) (v := ?_) rfl (by kernel_rfl) (by kernel_rfl) (by kernel_rfl) (by kernel_rfl) (by kernel_rfl) (fun _ _ _ h => h) (Or.inl ⟨by rfl, ?_⟩) (by assumption) ?_
  rotate_left
  · (intro w hSw; go_simp; first | done | (with_reducible rfl))
  simp only [Act.put, List.getElem_toArray, List.getElem_cons_succ, List.getElem_cons_zero, List.setIfInBounds_toArray, List.set_cons_zero, List.set_cons_succ]
  refine wpAnyX_one (i := 2) (by kernel_rfl) rfl (fun K hK => ?_)
  go_simp
  refine (HHx.out _).mono ?_
  rintro e wg ⟨rfl, hg⟩
  replace HS := Keep.mk (HS.out.grown hg)
  refine hK.out _ _ HS.out (fun hHeld => ?_)
  clear hK K hg
  refine wpAnyX_one (i := 5) (by kernel_rfl) rfl (fun K hK => ?_)
  go_simp
  refine (HRx.out _).mono ?_
  rintro e wg ⟨rfl, hg⟩
  replace HS := Keep.mk (HS.out.grown hg)
  refine hK.out _ _ HS.out (fun hHeld => ?_)
  clear hK K hg
  refine wpAnyX_take (i := 6) (oi := _) (v := ?_) rfl (by kernel_rfl) (by kernel_rfl) (by kernel_rfl) (by kernel_rfl) (by kernel_rfl) (fun _ _ _ h => h) (Or.inl ⟨by rfl, ?_⟩) (by assumption) ?_
  rotate_left
  · (intro w hSw; have hE := eq32 cx w; go_simp; first | done | (with_reducible rfl))
  simp only [Act.put, List.getElem_toArray, List.getElem_cons_succ, List.getElem_cons_zero, List.setIfInBounds_toArray, List.set_cons_zero, List.set_cons_succ]
  refine wpAnyX_take (i := 7) (oi := _) (v := ?_) rfl (by kernel_rfl) (by kernel_rfl) (by kernel_rfl) (by kernel_rfl) (by kernel_rfl) (fun _ _ _ h => h) (Or.inl ⟨by rfl, ?_⟩) (by assumption) ?_
  rotate_left
  · (intro w hSw; go_simp; first | done | (with_reducible rfl))
  simp only [Act.put, List.getElem_toArray, List.getElem_cons_succ, List.getElem_cons_zero, List.setIfInBounds_toArray, List.set_cons_zero, List.set_cons_succ]
  refine wpAnyX_take (i := 8) (oi := _) (v := _) rfl (by kernel_rfl) (by kernel_rfl) (by kernel_rfl) (by kernel_rfl) (by kernel_rfl) (fun _ _ _ h => h) (yieldsIf_load_mid (by rfl) 32 _ rfl _ _ rfl _ _ (fun w_ hS_ => (hS_.boxGet k0m).range) hdu hdr (infoC' y)) (by assumption) ?_
  simp only [Act.put, List.getElem_toArray, List.getElem_cons_succ, List.getElem_cons_zero, List.setIfInBounds_toArray, List.set_cons_zero, List.set_cons_succ]
  refine wpAnyX_take (i := 9) (oi := _) (v := ?_) rfl (by kernel_rfl) (by kernel_rfl) (by kernel_rfl) (by kernel_rfl) (by kernel_rfl) (fun _ _ _ h => h) (Or.inl ⟨by rfl, ?_⟩) (by assumption) ?_
  rotate_left
  · (intro w hSw; go_simp; first | done | (with_reducible rfl))
  simp only [Act.put, List.getElem_toArray, List.getElem_cons_succ, List.getElem_cons_zero, List.setIfInBounds_toArray, List.set_cons_zero, List.set_cons_succ]
  refine wpAnyX_take (i := 11) (oi := _) (v := _) rfl (by kernel_rfl) (by kernel_rfl) (by kernel_rfl) (by kernel_rfl) (by kernel_rfl) (fun _ _ _ h => h) (yieldsIf_load_mid (by rfl) 32 _ rfl _ _ rfl _ _ (fun w_ hS_ => (hS_.boxGet k0m).range) hdu hdr (infoC' y)) (by assumption) ?_
  simp only [Act.put, List.getElem_toArray, List.getElem_cons_succ, List.getElem_cons_zero, List.setIfInBounds_toArray, List.set_cons_zero, List.set_cons_succ]
  refine wpAnyX_take (i := 12) (oi := _) (v := ?_) rfl (by kernel_rfl) (by kernel_rfl) (by kernel_rfl) (by kernel_rfl) (by kernel_rfl) (fun _ _ _ h => h) (Or.inl ⟨by rfl, ?_⟩) (by assumption) ?_
  rotate_left
  · (intro w hSw; go_simp; first | done | (with_reducible rfl))
  simp only [Act.put, List.getElem_toArray, List.getElem_cons_succ, List.getElem_cons_zero, List.setIfInBounds_toArray, List.set_cons_zero, List.set_cons_succ]
  refine wpAnyX_one (i := 10) (by kernel_rfl) rfl (fun K hK => ?_)
  go_simp
  refine (HHy.out _).mono ?_
  rintro e wg ⟨rfl, hg⟩
  replace HS := Keep.mk (HS.out.grown hg)
  refine hK.out _ _ HS.out (fun hHeld => ?_)
  clear hK K hg
  refine wpAnyX_one (i := 13) (by kernel_rfl) rfl (fun K hK => ?_)
  go_simp
  refine (HRy.out _).mono ?_
  rintro e wg ⟨rfl, hg⟩
  replace HS := Keep.mk (HS.out.grown hg)
  refine hK.out _ _ HS.out (fun hHeld => ?_)
  clear hK K hg
  refine wpAnyX_take (i := 14) (oi := _) (v := ?_) rfl (by kernel_rfl) (by kernel_rfl) (by kernel_rfl) (by kernel_rfl) (by kernel_rfl) (fun _ _ _ h => h) (Or.inl ⟨by rfl, ?_⟩) (by assumption) ?_
  rotate_left
  · (intro w hSw; have hE := eq32 cy w; go_simp; first | done | (with_reducible rfl))
  simp only [Act.put, List.getElem_toArray, List.getElem_cons_succ, List.getElem_cons_zero, List.setIfInBounds_toArray, List.set_cons_zero, List.set_cons_succ]
  refine wpAnyX_take (i := 15) (oi := _) (v := ?_) rfl (by kernel_rfl) (by kernel_rfl) (by kernel_rfl) (by kernel_rfl) (by kernel_rfl) (fun _ _ _ h => h) (Or.inl ⟨by rfl, ?_⟩) (by assumption) ?_
  rotate_left
  · (intro w hSw; go_simp; first | done | (with_reducible rfl))
  simp only [Act.put, List.getElem_toArray, List.getElem_cons_succ, List.getElem_cons_zero, List.setIfInBounds_toArray, List.set_cons_zero, List.set_cons_succ]
  refine wpAnyX_take (i := 16) (oi := _) (v := ?_) rfl (by kernel_rfl) (by kernel_rfl) (by kernel_rfl) (by kernel_rfl) (by kernel_rfl) (fun _ _ _ h => h) (Or.inl ⟨by rfl, ?_⟩) (by assumption) ?_
  rotate_left
  · (intro w hSw; go_simp; first | done | (with_reducible rfl))
  simp only [Act.put, List.getElem_toArray, List.getElem_cons_succ, List.getElem_cons_zero, List.setIfInBounds_toArray, List.set_cons_zero, List.set_cons_succ]
  refine wpAnyX_one (i := 17) (by kernel_rfl) rfl (fun K hK => ?_)
  go_simp
  refine (HAL.out _ HS.out.g).mono ?_
  rintro e wg ⟨rfl, hg⟩
  replace HS := Keep.mk (HS.out.grown hg)
  refine hK.out _ _ HS.out (fun hHeld => ?_)
  clear hK K hg
  refine wpAnyX_take (i := 18) (oi := _) (v := ?_) rfl (by kernel_rfl) (by kernel_rfl) (by kernel_rfl) (by kernel_rfl) (by kernel_rfl) (fun _ _ _ h => h) (Or.inl ⟨by rfl, ?_⟩) (by assumption) ?_
  rotate_left
  · (intro w hSw; go_simp; first | done | (with_reducible rfl))
  simp only [Act.put, List.getElem_toArray, List.getElem_cons_succ, List.getElem_cons_zero, List.setIfInBounds_toArray, List.set_cons_zero, List.set_cons_succ]
  refine wpAnyX_take (i := 19) (oi := _) (v := ?_) rfl (by kernel_rfl) (by kernel_rfl) (by kernel_rfl) (by kernel_rfl) (by kernel_rfl) (fun _ _ _ h => h) (Or.inl ⟨by rfl, ?_⟩) (by assumption) ?_
  rotate_left
  · (intro w hSw; go_simp; first | done | (with_reducible rfl))
  simp only [Act.put, List.getElem_toArray, List.getElem_cons_succ, List.getElem_cons_zero, List.setIfInBounds_toArray, List.set_cons_zero, List.set_cons_succ]
  refine wpAnyX_done (by kernel_rfl) ?_ _
  clear hHeld
  have RN4 := Keep.mk (HS.out.boxGet k0m).range
  have RN3 := Keep.mk (HS.out.boxGet k1m).range
  go_wp2_with (first
    | (show wpList _ _ _ ({ dst := _, op := Op.load 32 (Operand.tmp 4), type := _, pos := _, after := _, guard := _ } :: _) _ _
       refine load_g (by rfl) 32 _ rfl _ _ rfl _ _ RN4.out hdu hdr (infoC' y) ?_)
    | (show wpList _ _ _ ({ dst := _, op := Op.load 32 (Operand.tmp 3), type := _, pos := _, after := _, guard := _ } :: _) _ _
       refine load_g (by rfl) 32 _ rfl _ _ rfl _ _ RN3.out hdu hdr (infoC' x) ?_))
  refine (HBU.out _ HS.out.g).mono ?_
  rintro e w1_ ⟨rfl, g_⟩
  clear RN4 RN3
  replace HS := Keep.mk (HS.out.grown g_)
  clear g_
  have RN4 := Keep.mk (HS.out.boxGet k0m).range
  have RN3 := Keep.mk (HS.out.boxGet k1m).range
  clear RN4 RN3
  have S_ := HS.out.newBox zC14.toArray 32
  obtain ⟨w2_, hw2_⟩ : ∃ W_, w1_.alloc (.cells zC14.toArray 32) = W_ := ⟨_, rfl⟩
  obtain ⟨ab, hab⟩ : ∃ b_, w1_.heap.size = b_ := ⟨_, rfl⟩
  rw [hw2_, hab] at S_
  unfold zC14 crv zC at hw2_
  change w1_.alloc _ = w2_ at hw2_
  change Sep w w2_ [boxA ab zC14 32, boxA yb (crv y) 32, boxA xb (crv x) 32] at S_
  replace HS := Keep.mk S_
  clear S_
  have RN4 := Keep.mk (HS.out.boxGet k1m).range
  have RN3 := Keep.mk (HS.out.boxGet k2m).range
  clear RN4 RN3
  have S_ := HS.out.newBox zC14.toArray 32
  obtain ⟨w3_, hw3_⟩ : ∃ W_, w2_.alloc (.cells zC14.toArray 32) = W_ := ⟨_, rfl⟩
  obtain ⟨bb, hbb⟩ : ∃ b_, w2_.heap.size = b_ := ⟨_, rfl⟩
  rw [hw3_, hbb] at S_
  unfold zC14 crv zC at hw3_
  change w2_.alloc _ = w3_ at hw3_
  change Sep w w3_ [boxA bb zC14 32, boxA ab zC14 32, boxA yb (crv y) 32, boxA xb (crv x) 32] at S_
  replace HS := Keep.mk S_
  clear S_
  have RN4 := Keep.mk (HS.out.boxGet k2m).range
  have RN3 := Keep.mk (HS.out.boxGet k3m).range
  have HX_ := Keep.mk (HS.out.boxGet k1m)
  have HO_ := Keep.mk (crv_one a)
  go_wp2_with (first
    | (show wpList _ _ _ ({ dst := _, op := Op.load 32 (Operand.tmp 4), type := _, pos := _, after := _, guard := _ } :: _) _ _
       refine load_g (by rfl) 32 _ rfl _ _ rfl _ _ RN4.out hdu hdr (infoC' y) ?_)
    | (show wpList _ _ _ ({ dst := _, op := Op.load 32 (Operand.tmp 3), type := _, pos := _, after := _, guard := _ } :: _) _ _
       refine load_g (by rfl) 32 _ rfl _ _ rfl _ _ RN3.out hdu hdr (infoC' x) ?_)
    | (show wpList _ _ _ ({ dst := _, op := Op.store 32 (Operand.tmp 7) _, type := _, pos := _, after := _, guard := _ } :: _) _ _
       refine store_at _ ab 0 zC14 (crv a) 32 32 rfl rfl rfl rfl HX_.out (Nat.le_refl _) (infoC' a) HO_.out ?_))
  intro w4_ hS_ g_
  have S_ := hS_ _ _ (fr1 [boxA bb zC14 32] HS.out)
  rw [over_all zC14 (crv a) rfl] at S_
  clear RN4 RN3
  change Sep w w4_ [boxA ab (crv a) 32, boxA bb zC14 32, boxA yb (crv y) 32, boxA xb (crv x) 32] at S_
  replace HS := Keep.mk S_
  clear S_ hS_ g_ HX_ HO_
  have RN7 := Keep.mk (HS.out.boxGet k0m).range
  have RN4 := Keep.mk (HS.out.boxGet k2m).range
  have RN3 := Keep.mk (HS.out.boxGet k3m).range
  have HX_ := Keep.mk (HS.out.boxGet k1m)
  have HO_ := Keep.mk (crv_one b)
  go_wp2_with (first
    | (show wpList _ _ _ ({ dst := _, op := Op.load 32 (Operand.tmp 7), type := _, pos := _, after := _, guard := _ } :: _) _ _
       refine load_g (by rfl) 32 _ rfl _ _ rfl _ _ RN7.out hdu hdr (infoC' a) ?_)
    | (show wpList _ _ _ ({ dst := _, op := Op.load 32 (Operand.tmp 4), type := _, pos := _, after := _, guard := _ } :: _) _ _
       refine load_g (by rfl) 32 _ rfl _ _ rfl _ _ RN4.out hdu hdr (infoC' y) ?_)
    | (show wpList _ _ _ ({ dst := _, op := Op.load 32 (Operand.tmp 3), type := _, pos := _, after := _, guard := _ } :: _) _ _
       refine load_g (by rfl) 32 _ rfl _ _ rfl _ _ RN3.out hdu hdr (infoC' x) ?_)
    | (show wpList _ _ _ ({ dst := _, op := Op.store 32 (Operand.tmp 8) _, type := _, pos := _, after := _, guard := _ } :: _) _ _
       refine store_at _ bb 0 zC14 (crv b) 32 32 rfl rfl rfl rfl HX_.out (Nat.le_refl _) (infoC' b) HO_.out ?_))
  intro w5_ hS_ g_
  have S_ := hS_ _ _ (fr1 [boxA ab (crv a) 32] HS.out)
  rw [over_all zC14 (crv b) rfl] at S_
  clear RN7 RN4 RN3
  change Sep w w5_ [boxA bb (crv b) 32, boxA ab (crv a) 32, boxA yb (crv y) 32, boxA xb (crv x) 32] at S_
  replace HS := Keep.mk S_
  clear S_ hS_ g_ HX_ HO_
  have RN8 := Keep.mk (HS.out.boxGet k0m).range
  have RN7 := Keep.mk (HS.out.boxGet k1m).range
  have RN4 := Keep.mk (HS.out.boxGet k2m).range
  have RN3 := Keep.mk (HS.out.boxGet k3m).range
  go_wp2_with (first
    | (show wpList _ _ _ ({ dst := _, op := Op.load 32 (Operand.tmp 8), type := _, pos := _, after := _, guard := _ } :: _) _ _
       refine load_g (by rfl) 32 _ rfl _ _ rfl _ _ RN8.out hdu hdr (infoC' b) ?_)
    | (show wpList _ _ _ ({ dst := _, op := Op.load 32 (Operand.tmp 7), type := _, pos := _, after := _, guard := _ } :: _) _ _
       refine load_g (by rfl) 32 _ rfl _ _ rfl _ _ RN7.out hdu hdr (infoC' a) ?_)
    | (show wpList _ _ _ ({ dst := _, op := Op.load 32 (Operand.tmp 4), type := _, pos := _, after := _, guard := _ } :: _) _ _
       refine load_g (by rfl) 32 _ rfl _ _ rfl _ _ RN4.out hdu hdr (infoC' y) ?_)
    | (show wpList _ _ _ ({ dst := _, op := Op.load 32 (Operand.tmp 3), type := _, pos := _, after := _, guard := _ } :: _) _ _
       refine load_g (by rfl) 32 _ rfl _ _ rfl _ _ RN3.out hdu hdr (infoC' x) ?_))
  refine (HRB.out _ HS.out.g).mono ?_
  rintro e w6_ ⟨rfl, g_⟩
  clear RN8 RN7 RN4 RN3
  replace HS := Keep.mk (HS.out.grown g_)
  clear g_
  have RN8 := Keep.mk (HS.out.boxGet k0m).range
  have RN7 := Keep.mk (HS.out.boxGet k1m).range
  have RN4 := Keep.mk (HS.out.boxGet k2m).range
  have RN3 := Keep.mk (HS.out.boxGet k3m).range
  clear RN8 RN7 RN4 RN3
  have S_ := HS.out.newBox zC14.toArray 32
  obtain ⟨w7_, hw7_⟩ : ∃ W_, w6_.alloc (.cells zC14.toArray 32) = W_ := ⟨_, rfl⟩
  obtain ⟨eb, heb⟩ : ∃ b_, w6_.heap.size = b_ := ⟨_, rfl⟩
  rw [hw7_, heb] at S_
  unfold zC14 crv zC at hw7_
  change w6_.alloc _ = w7_ at hw7_
  change Sep w w7_ [boxA eb zC14 32, boxA bb (crv b) 32, boxA ab (crv a) 32, boxA yb (crv y) 32, boxA xb (crv x) 32] at S_
  replace HS := Keep.mk S_
  clear S_
  have RN8 := Keep.mk (HS.out.boxGet k1m).range
  have RN7 := Keep.mk (HS.out.boxGet k2m).range
  have RN4 := Keep.mk (HS.out.boxGet k3m).range
  have RN3 := Keep.mk (HS.out.boxGet k4m).range
  clear RN8 RN7 RN4 RN3
  have S_ := HS.out.newBox zC14.toArray 32
  obtain ⟨w8_, hw8_⟩ : ∃ W_, w7_.alloc (.cells zC14.toArray 32) = W_ := ⟨_, rfl⟩
  obtain ⟨fb, hfb⟩ : ∃ b_, w7_.heap.size = b_ := ⟨_, rfl⟩
  rw [hw8_, hfb] at S_
  unfold zC14 crv zC at hw8_
  change w7_.alloc _ = w8_ at hw8_
  change Sep w w8_ [boxA fb zC14 32, boxA eb zC14 32, boxA bb (crv b) 32, boxA ab (crv a) 32, boxA yb (crv y) 32, boxA xb (crv x) 32] at S_
  replace HS := Keep.mk S_
  clear S_
  have RN8 := Keep.mk (HS.out.boxGet k2m).range
  have RN7 := Keep.mk (HS.out.boxGet k3m).range
  have RN4 := Keep.mk (HS.out.boxGet k4m).range
  have RN3 := Keep.mk (HS.out.boxGet k5m).range
  have HX_ := Keep.mk (HS.out.boxGet k1m)
  have HO_ := Keep.mk (crv_one a)
  go_wp2_with (first
    | (show wpList _ _ _ ({ dst := _, op := Op.load 32 (Operand.tmp 8), type := _, pos := _, after := _, guard := _ } :: _) _ _
       refine load_g (by rfl) 32 _ rfl _ _ rfl _ _ RN8.out hdu hdr (infoC' b) ?_)
    | (show wpList _ _ _ ({ dst := _, op := Op.load 32 (Operand.tmp 7), type := _, pos := _, after := _, guard := _ } :: _) _ _
       refine load_g (by rfl) 32 _ rfl _ _ rfl _ _ RN7.out hdu hdr (infoC' a) ?_)
    | (show wpList _ _ _ ({ dst := _, op := Op.load 32 (Operand.tmp 4), type := _, pos := _, after := _, guard := _ } :: _) _ _
       refine load_g (by rfl) 32 _ rfl _ _ rfl _ _ RN4.out hdu hdr (infoC' y) ?_)
    | (show wpList _ _ _ ({ dst := _, op := Op.load 32 (Operand.tmp 3), type := _, pos := _, after := _, guard := _ } :: _) _ _
       refine load_g (by rfl) 32 _ rfl _ _ rfl _ _ RN3.out hdu hdr (infoC' x) ?_)
    | (show wpList _ _ _ ({ dst := _, op := Op.store 32 (Operand.tmp 10) _, type := _, pos := _, after := _, guard := _ } :: _) _ _
       refine store_at _ eb 0 zC14 (crv a) 32 32 rfl rfl rfl rfl HX_.out (Nat.le_refl _) (infoC' a) HO_.out ?_))
  intro w9_ hS_ g_
  have S_ := hS_ _ _ (fr1 [boxA fb zC14 32] HS.out)
  rw [over_all zC14 (crv a) rfl] at S_
  clear RN8 RN7 RN4 RN3
  change Sep w w9_ [boxA eb (crv a) 32, boxA fb zC14 32, boxA bb (crv b) 32, boxA ab (crv a) 32, boxA yb (crv y) 32, boxA xb (crv x) 32] at S_
  replace HS := Keep.mk S_
  clear S_ hS_ g_ HX_ HO_
  have RN10 := Keep.mk (HS.out.boxGet k0m).range
  have RN8 := Keep.mk (HS.out.boxGet k2m).range
  have RN7 := Keep.mk (HS.out.boxGet k3m).range
  have RN4 := Keep.mk (HS.out.boxGet k4m).range
  have RN3 := Keep.mk (HS.out.boxGet k5m).range
  have HX_ := Keep.mk (HS.out.boxGet k1m)
  have HO_ := Keep.mk (crv_one b)
  go_wp2_with (first
    | (show wpList _ _ _ ({ dst := _, op := Op.load 32 (Operand.tmp 10), type := _, pos := _, after := _, guard := _ } :: _) _ _
       refine load_g (by rfl) 32 _ rfl _ _ rfl _ _ RN10.out hdu hdr (infoC' a) ?_)
    | (show wpList _ _ _ ({ dst := _, op := Op.load 32 (Operand.tmp 8), type := _, pos := _, after := _, guard := _ } :: _) _ _
       refine load_g (by rfl) 32 _ rfl _ _ rfl _ _ RN8.out hdu hdr (infoC' b) ?_)
    | (show wpList _ _ _ ({ dst := _, op := Op.load 32 (Operand.tmp 7), type := _, pos := _, after := _, guard := _ } :: _) _ _
       refine load_g (by rfl) 32 _ rfl _ _ rfl _ _ RN7.out hdu hdr (infoC' a) ?_)
    | (show wpList _ _ _ ({ dst := _, op := Op.load 32 (Operand.tmp 4), type := _, pos := _, after := _, guard := _ } :: _) _ _
       refine load_g (by rfl) 32 _ rfl _ _ rfl _ _ RN4.out hdu hdr (infoC' y) ?_)
    | (show wpList _ _ _ ({ dst := _, op := Op.load 32 (Operand.tmp 3), type := _, pos := _, after := _, guard := _ } :: _) _ _
       refine load_g (by rfl) 32 _ rfl _ _ rfl _ _ RN3.out hdu hdr (infoC' x) ?_)
    | (show wpList _ _ _ ({ dst := _, op := Op.store 32 (Operand.tmp 11) _, type := _, pos := _, after := _, guard := _ } :: _) _ _
       refine store_at _ fb 0 zC14 (crv b) 32 32 rfl rfl rfl rfl HX_.out (Nat.le_refl _) (infoC' b) HO_.out ?_))
  intro w10_ hS_ g_
  have S_ := hS_ _ _ (fr1 [boxA eb (crv a) 32] HS.out)
  rw [over_all zC14 (crv b) rfl] at S_
  clear RN10 RN8 RN7 RN4 RN3
  change Sep w w10_ [boxA fb (crv b) 32, boxA eb (crv a) 32, boxA bb (crv b) 32, boxA ab (crv a) 32, boxA yb (crv y) 32, boxA xb (crv x) 32] at S_
  replace HS := Keep.mk S_
  clear S_ hS_ g_ HX_ HO_
  have RN11 := Keep.mk (HS.out.boxGet k0m).range
  have RN10 := Keep.mk (HS.out.boxGet k1m).range
  have RN8 := Keep.mk (HS.out.boxGet k2m).range
  have RN7 := Keep.mk (HS.out.boxGet k3m).range
  have RN4 := Keep.mk (HS.out.boxGet k4m).range
  have RN3 := Keep.mk (HS.out.boxGet k5m).range
  have hEa := fun w => eq32 a w
  have hEb := fun w => eq32 b w
  have HG := Keep.mk HS.out.g
  go_wp2_with (first
    | (show wpList _ _ _ ({ dst := _, op := Op.load 32 (Operand.tmp 11), type := _, pos := _, after := _, guard := _ } :: _) _ _
       refine load_g (by rfl) 32 _ rfl _ _ rfl _ _ RN11.out hdu hdr (infoC' b) ?_)
    | (show wpList _ _ _ ({ dst := _, op := Op.load 32 (Operand.tmp 10), type := _, pos := _, after := _, guard := _ } :: _) _ _
       refine load_g (by rfl) 32 _ rfl _ _ rfl _ _ RN10.out hdu hdr (infoC' a) ?_)
    | (show wpList _ _ _ ({ dst := _, op := Op.load 32 (Operand.tmp 8), type := _, pos := _, after := _, guard := _ } :: _) _ _
       refine load_g (by rfl) 32 _ rfl _ _ rfl _ _ RN8.out hdu hdr (infoC' b) ?_)
    | (show wpList _ _ _ ({ dst := _, op := Op.load 32 (Operand.tmp 7), type := _, pos := _, after := _, guard := _ } :: _) _ _
       refine load_g (by rfl) 32 _ rfl _ _ rfl _ _ RN7.out hdu hdr (infoC' a) ?_)
    | (show wpList _ _ _ ({ dst := _, op := Op.load 32 (Operand.tmp 4), type := _, pos := _, after := _, guard := _ } :: _) _ _
       refine load_g (by rfl) 32 _ rfl _ _ rfl _ _ RN4.out hdu hdr (infoC' y) ?_)
    | (show wpList _ _ _ ({ dst := _, op := Op.load 32 (Operand.tmp 3), type := _, pos := _, after := _, guard := _ } :: _) _ _
       refine load_g (by rfl) 32 _ rfl _ _ rfl _ _ RN3.out hdu hdr (infoC' x) ?_))
  go_ret
  refine ⟨?_, HG.out⟩
  cases r <;> rfl
end Go.Proofs.YtobdcngjpgndiaaDoor.Bo
