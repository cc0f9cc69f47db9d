/- ShotFires: the walk -/
import Derived.Test.YtmacmoikjgmaoaaDoorH5
import Derived.Test.YtmacmoikjgmaoaaDoorH6
namespace Go.Proofs.YtmacmoikjgmaoaaDoor.Bo
open Go Go.RowKit

set_option maxRecDepth 100000 in
set_option maxHeartbeats 32000000 in
theorem fires_c (w : World) (c : Cr) (id : Int) (ok : CrOk c) (hk : Kc w) :
    Calls Tryd.prog 7 #[.agg (crv c).toArray, iv id] w fun e w' => e = .returned (.bool true) ∧ w.grownBy w' none := by
  obtain ⟨du, hdu, hdr⟩ := underC
  obtain ⟨ds, hds, hdsr⟩ := underS
  have HA := Keep.mk (fun W (g : w.grownBy W none) => alive_c W (hk.kept g))
  have HF := Keep.mk (fun W (g : w.grownBy W none) => fire_c W c id ok (hk.kept g))
  have HRF := Keep.mk (fun W (g : w.grownBy W none) => rfire_c W c id ok (hk.kept g))
  generalize firC c = x at HF HRF
  generalize firS c id = s at HF HRF
  generalize rdy c = r at HF HRF
  have S1 := (Sep.nil w).newBox (crv c).toArray 38
  obtain ⟨W1, hW1⟩ : ∃ W1, w.alloc (.cells (crv c).toArray 38) = W1 := ⟨_, rfl⟩
  obtain ⟨cb, hcb⟩ : ∃ xb, w.heap.size = xb := ⟨_, rfl⟩
  rw [hW1, hcb] at S1
  change Sep w W1 [boxA cb (crv c) 38] at S1
  have HS := Keep.mk S1
  have hsz : (crv c).toArray.size = 14 := rfl
  clear S1 hk ok
  go_enter Tryd.func7, Tryd.ntmps7
  have RN2 := Keep.mk (HS.out.boxGet k0m).range
  go_wp2_with (first
    | (show wpList _ _ _ ({ dst := _, op := Op.load 38 (Operand.tmp 2), type := _, pos := _, after := _, guard := _ } :: _) _ _
       refine load_g (by rfl) 38 _ rfl _ _ rfl _ _ RN2.out hdu hdr (infoC' c) ?_))
  refine (HA.out _ HS.out.g).mono ?_
  rintro e w1_ ⟨rfl, g_⟩
  clear RN2
  replace HS := Keep.mk (HS.out.grown g_)
  clear g_
  have RN2 := Keep.mk (HS.out.boxGet k0m).range
  go_wp2_with (first
    | (show wpList _ _ _ ({ dst := _, op := Op.load 38 (Operand.tmp 2), type := _, pos := _, after := _, guard := _ } :: _) _ _
       refine load_g (by rfl) 38 _ rfl _ _ rfl _ _ RN2.out hdu hdr (infoC' c) ?_))
  refine (HF.out _ HS.out.g).mono ?_
  rintro e w2_ ⟨rfl, g_⟩
  clear RN2
  replace HS := Keep.mk (HS.out.grown g_)
  clear g_
  have RN2 := Keep.mk (HS.out.boxGet k0m).range
  clear RN2
  have S_ := HS.out.newBox zC14.toArray 38
  obtain ⟨w3_, hw3_⟩ : ∃ W_, w2_.alloc (.cells zC14.toArray 38) = W_ := ⟨_, rfl⟩
  obtain ⟨xb, hxb⟩ : ∃ b_, w2_.heap.size = b_ := ⟨_, rfl⟩
  rw [hw3_, hxb] at S_
  rw [zC14_lit] at hw3_
  change Sep w w3_ [boxA xb zC14 38, boxA cb (crv c) 38] at S_
  replace HS := Keep.mk S_
  clear S_
  have RN5 := Keep.mk (HS.out.boxGet k0m).range
  have RN2 := Keep.mk (HS.out.boxGet k1m).range
  clear RN5 RN2
  have S_ := HS.out.newBox zS7.toArray 26
  obtain ⟨w4_, hw4_⟩ : ∃ W_, w3_.alloc (.cells zS7.toArray 26) = W_ := ⟨_, rfl⟩
  obtain ⟨sb, hsb⟩ : ∃ b_, w3_.heap.size = b_ := ⟨_, rfl⟩
  rw [hw4_, hsb] at S_
  rw [zS7_lit] at hw4_
  change Sep w w4_ [boxA sb zS7 26, boxA xb zC14 38, boxA cb (crv c) 38] at S_
  replace HS := Keep.mk S_
  clear S_
  have RN6 := Keep.mk (HS.out.boxGet k0m).range
  have RN5 := Keep.mk (HS.out.boxGet k1m).range
  have RN2 := Keep.mk (HS.out.boxGet k2m).range
  have HX_ := Keep.mk (HS.out.boxGet k1m)
  have HO_ := Keep.mk (crv_one x)
  go_wp2_with (first
    | (show wpList _ _ _ ({ dst := _, op := Op.load 26 (Operand.tmp 6), type := _, pos := _, after := _, guard := _ } :: _) _ _
       refine load_g (by rfl) 26 _ rfl _ _ rfl _ _ RN6.out hds hdsr (infoS' zS) ?_)
    | (show wpList _ _ _ ({ dst := _, op := Op.load 38 (Operand.tmp 2), type := _, pos := _, after := _, guard := _ } :: _) _ _
       refine load_g (by rfl) 38 _ rfl _ _ rfl _ _ RN2.out hdu hdr (infoC' c) ?_)
    | (show wpList _ _ _ ({ dst := _, op := Op.store 38 (Operand.tmp 5) _, type := _, pos := _, after := _, guard := _ } :: _) _ _
       refine store_at _ xb 0 zC14 (crv x) 38 38 rfl rfl rfl rfl HX_.out (Nat.le_refl _) (infoC' x) HO_.out ?_))
  intro w5_ hS_ g_
  have S_ := hS_ _ _ (fr1 [boxA sb zS7 26] HS.out)
  rw [over_all zC14 (crv x) rfl] at S_
  clear RN6 RN5 RN2
  change Sep w w5_ [boxA xb (crv x) 38, boxA sb zS7 26, boxA cb (crv c) 38] at S_
  replace HS := Keep.mk S_
  clear S_ hS_ g_ HX_ HO_
  have RN5 := Keep.mk (HS.out.boxGet k0m).range
  have RN6 := Keep.mk (HS.out.boxGet k1m).range
  have RN2 := Keep.mk (HS.out.boxGet k2m).range
  have HX_ := Keep.mk (HS.out.boxGet k1m)
  have HO_ := Keep.mk (shv_one s)
  go_wp2_with (first
    | (show wpList _ _ _ ({ dst := _, op := Op.load 38 (Operand.tmp 5), type := _, pos := _, after := _, guard := _ } :: _) _ _
       refine load_g (by rfl) 38 _ rfl _ _ rfl _ _ RN5.out hdu hdr (infoC' x) ?_)
    | (show wpList _ _ _ ({ dst := _, op := Op.load 26 (Operand.tmp 6), type := _, pos := _, after := _, guard := _ } :: _) _ _
       refine load_g (by rfl) 26 _ rfl _ _ rfl _ _ RN6.out hds hdsr (infoS' zS) ?_)
    | (show wpList _ _ _ ({ dst := _, op := Op.load 38 (Operand.tmp 2), type := _, pos := _, after := _, guard := _ } :: _) _ _
       refine load_g (by rfl) 38 _ rfl _ _ rfl _ _ RN2.out hdu hdr (infoC' c) ?_)
    | (show wpList _ _ _ ({ dst := _, op := Op.store 26 (Operand.tmp 6) _, type := _, pos := _, after := _, guard := _ } :: _) _ _
       refine store_at _ sb 0 zS7 (shv s) 26 26 rfl rfl rfl rfl HX_.out (Nat.le_refl _) (infoS' s) HO_.out ?_))
  intro w6_ hS_ g_
  have S_ := hS_ _ _ (fr1 [boxA xb (crv x) 38] HS.out)
  rw [over_all zS7 (shv s) rfl] at S_
  clear RN5 RN6 RN2
  change Sep w w6_ [boxA sb (shv s) 26, boxA xb (crv x) 38, boxA cb (crv c) 38] at S_
  replace HS := Keep.mk S_
  clear S_ hS_ g_ HX_ HO_
  have RN6 := Keep.mk (HS.out.boxGet k0m).range
  have RN5 := Keep.mk (HS.out.boxGet k1m).range
  have RN2 := Keep.mk (HS.out.boxGet k2m).range
  go_wp2_with (first
    | (show wpList _ _ _ ({ dst := _, op := Op.load 26 (Operand.tmp 6), type := _, pos := _, after := _, guard := _ } :: _) _ _
       refine load_g (by rfl) 26 _ rfl _ _ rfl _ _ RN6.out hds hdsr (infoS' s) ?_)
    | (show wpList _ _ _ ({ dst := _, op := Op.load 38 (Operand.tmp 5), type := _, pos := _, after := _, guard := _ } :: _) _ _
       refine load_g (by rfl) 38 _ rfl _ _ rfl _ _ RN5.out hdu hdr (infoC' x) ?_)
    | (show wpList _ _ _ ({ dst := _, op := Op.load 38 (Operand.tmp 2), type := _, pos := _, after := _, guard := _ } :: _) _ _
       refine load_g (by rfl) 38 _ rfl _ _ rfl _ _ RN2.out hdu hdr (infoC' c) ?_))
  refine (HRF.out _ HS.out.g).mono ?_
  rintro e w7_ ⟨rfl, g_⟩
  clear RN6 RN5 RN2
  replace HS := Keep.mk (HS.out.grown g_)
  clear g_
  have RN6 := Keep.mk (HS.out.boxGet k0m).range
  have RN5 := Keep.mk (HS.out.boxGet k1m).range
  have RN2 := Keep.mk (HS.out.boxGet k2m).range
  clear RN6 RN5 RN2
  have S_ := HS.out.newBox zC14.toArray 38
  obtain ⟨w8_, hw8_⟩ : ∃ W_, w7_.alloc (.cells zC14.toArray 38) = W_ := ⟨_, rfl⟩
  obtain ⟨yb, hyb⟩ : ∃ b_, w7_.heap.size = b_ := ⟨_, rfl⟩
  rw [hw8_, hyb] at S_
  rw [zC14_lit] at hw8_
  change Sep w w8_ [boxA yb zC14 38, boxA sb (shv s) 26, boxA xb (crv x) 38, boxA cb (crv c) 38] at S_
  replace HS := Keep.mk S_
  clear S_
  have RN8 := Keep.mk (HS.out.boxGet k0m).range
  have RN6 := Keep.mk (HS.out.boxGet k1m).range
  have RN5 := Keep.mk (HS.out.boxGet k2m).range
  have RN2 := Keep.mk (HS.out.boxGet k3m).range
  clear RN8 RN6 RN5 RN2
  have S_ := HS.out.newBox zS7.toArray 26
  obtain ⟨w9_, hw9_⟩ : ∃ W_, w8_.alloc (.cells zS7.toArray 26) = W_ := ⟨_, rfl⟩
  obtain ⟨tb, htb⟩ : ∃ b_, w8_.heap.size = b_ := ⟨_, rfl⟩
  rw [hw9_, htb] at S_
  rw [zS7_lit] at hw9_
  change Sep w w9_ [boxA tb zS7 26, boxA yb zC14 38, boxA sb (shv s) 26, boxA xb (crv x) 38, boxA cb (crv c) 38] at S_
  replace HS := Keep.mk S_
  clear S_
  have RN9 := Keep.mk (HS.out.boxGet k0m).range
  have RN8 := Keep.mk (HS.out.boxGet k1m).range
  have RN6 := Keep.mk (HS.out.boxGet k2m).range
  have RN5 := Keep.mk (HS.out.boxGet k3m).range
  have RN2 := Keep.mk (HS.out.boxGet k4m).range
  have HX_ := Keep.mk (HS.out.boxGet k1m)
  have HO_ := Keep.mk (crv_one x)
  go_wp2_with (first
    | (show wpList _ _ _ ({ dst := _, op := Op.load 26 (Operand.tmp 9), type := _, pos := _, after := _, guard := _ } :: _) _ _
       refine load_g (by rfl) 26 _ rfl _ _ rfl _ _ RN9.out hds hdsr (infoS' zS) ?_)
    | (show wpList _ _ _ ({ dst := _, op := Op.load 26 (Operand.tmp 6), type := _, pos := _, after := _, guard := _ } :: _) _ _
       refine load_g (by rfl) 26 _ rfl _ _ rfl _ _ RN6.out hds hdsr (infoS' s) ?_)
    | (show wpList _ _ _ ({ dst := _, op := Op.load 38 (Operand.tmp 5), type := _, pos := _, after := _, guard := _ } :: _) _ _
       refine load_g (by rfl) 38 _ rfl _ _ rfl _ _ RN5.out hdu hdr (infoC' x) ?_)
    | (show wpList _ _ _ ({ dst := _, op := Op.load 38 (Operand.tmp 2), type := _, pos := _, after := _, guard := _ } :: _) _ _
       refine load_g (by rfl) 38 _ rfl _ _ rfl _ _ RN2.out hdu hdr (infoC' c) ?_)
    | (show wpList _ _ _ ({ dst := _, op := Op.store 38 (Operand.tmp 8) _, type := _, pos := _, after := _, guard := _ } :: _) _ _
       refine store_at _ yb 0 zC14 (crv x) 38 38 rfl rfl rfl rfl HX_.out (Nat.le_refl _) (infoC' x) HO_.out ?_))
  intro w10_ hS_ g_
  have S_ := hS_ _ _ (fr1 [boxA tb zS7 26] HS.out)
  rw [over_all zC14 (crv x) rfl] at S_
  clear RN9 RN8 RN6 RN5 RN2
  change Sep w w10_ [boxA yb (crv x) 38, boxA tb zS7 26, boxA sb (shv s) 26, boxA xb (crv x) 38, boxA cb (crv c) 38] at S_
  replace HS := Keep.mk S_
  clear S_ hS_ g_ HX_ HO_
  have RN8 := Keep.mk (HS.out.boxGet k0m).range
  have RN9 := Keep.mk (HS.out.boxGet k1m).range
  have RN6 := Keep.mk (HS.out.boxGet k2m).range
  have RN5 := Keep.mk (HS.out.boxGet k3m).range
  have RN2 := Keep.mk (HS.out.boxGet k4m).range
  have HX_ := Keep.mk (HS.out.boxGet k1m)
  have HO_ := Keep.mk (shv_one s)
  go_wp2_with (first
    | (show wpList _ _ _ ({ dst := _, op := Op.load 38 (Operand.tmp 8), type := _, pos := _, after := _, guard := _ } :: _) _ _
       refine load_g (by rfl) 38 _ rfl _ _ rfl _ _ RN8.out hdu hdr (infoC' x) ?_)
    | (show wpList _ _ _ ({ dst := _, op := Op.load 26 (Operand.tmp 9), type := _, pos := _, after := _, guard := _ } :: _) _ _
       refine load_g (by rfl) 26 _ rfl _ _ rfl _ _ RN9.out hds hdsr (infoS' zS) ?_)
    | (show wpList _ _ _ ({ dst := _, op := Op.load 26 (Operand.tmp 6), type := _, pos := _, after := _, guard := _ } :: _) _ _
       refine load_g (by rfl) 26 _ rfl _ _ rfl _ _ RN6.out hds hdsr (infoS' s) ?_)
    | (show wpList _ _ _ ({ dst := _, op := Op.load 38 (Operand.tmp 5), type := _, pos := _, after := _, guard := _ } :: _) _ _
       refine load_g (by rfl) 38 _ rfl _ _ rfl _ _ RN5.out hdu hdr (infoC' x) ?_)
    | (show wpList _ _ _ ({ dst := _, op := Op.load 38 (Operand.tmp 2), type := _, pos := _, after := _, guard := _ } :: _) _ _
       refine load_g (by rfl) 38 _ rfl _ _ rfl _ _ RN2.out hdu hdr (infoC' c) ?_)
    | (show wpList _ _ _ ({ dst := _, op := Op.store 26 (Operand.tmp 9) _, type := _, pos := _, after := _, guard := _ } :: _) _ _
       refine store_at _ tb 0 zS7 (shv s) 26 26 rfl rfl rfl rfl HX_.out (Nat.le_refl _) (infoS' s) HO_.out ?_))
  intro w11_ hS_ g_
  have S_ := hS_ _ _ (fr1 [boxA yb (crv x) 38] HS.out)
  rw [over_all zS7 (shv s) rfl] at S_
  clear RN8 RN9 RN6 RN5 RN2
  change Sep w w11_ [boxA tb (shv s) 26, boxA yb (crv x) 38, boxA sb (shv s) 26, boxA xb (crv x) 38, boxA cb (crv c) 38] at S_
  replace HS := Keep.mk S_
  clear S_ hS_ g_ HX_ HO_
  have RN9 := Keep.mk (HS.out.boxGet k0m).range
  have RN8 := Keep.mk (HS.out.boxGet k1m).range
  have RN6 := Keep.mk (HS.out.boxGet k2m).range
  have RN5 := Keep.mk (HS.out.boxGet k3m).range
  have RN2 := Keep.mk (HS.out.boxGet k4m).range
  have hEC := fun w => eq32 x w
  have hES := fun w => eq26 s w
  go_wp2_with (first
    | (show wpList _ _ _ ({ dst := _, op := Op.load 26 (Operand.tmp 9), type := _, pos := _, after := _, guard := _ } :: _) _ _
       refine load_g (by rfl) 26 _ rfl _ _ rfl _ _ RN9.out hds hdsr (infoS' s) ?_)
    | (show wpList _ _ _ ({ dst := _, op := Op.load 38 (Operand.tmp 8), type := _, pos := _, after := _, guard := _ } :: _) _ _
       refine load_g (by rfl) 38 _ rfl _ _ rfl _ _ RN8.out hdu hdr (infoC' x) ?_)
    | (show wpList _ _ _ ({ dst := _, op := Op.load 26 (Operand.tmp 6), type := _, pos := _, after := _, guard := _ } :: _) _ _
       refine load_g (by rfl) 26 _ rfl _ _ rfl _ _ RN6.out hds hdsr (infoS' s) ?_)
    | (show wpList _ _ _ ({ dst := _, op := Op.load 38 (Operand.tmp 5), type := _, pos := _, after := _, guard := _ } :: _) _ _
       refine load_g (by rfl) 38 _ rfl _ _ rfl _ _ RN5.out hdu hdr (infoC' x) ?_)
    | (show wpList _ _ _ ({ dst := _, op := Op.load 38 (Operand.tmp 2), type := _, pos := _, after := _, guard := _ } :: _) _ _
       refine load_g (by rfl) 38 _ rfl _ _ rfl _ _ RN2.out hdu hdr (infoC' c) ?_))
  go_ret
  exact ⟨by simp, HS.out.g⟩
end Go.Proofs.YtmacmoikjgmaoaaDoor.Bo
