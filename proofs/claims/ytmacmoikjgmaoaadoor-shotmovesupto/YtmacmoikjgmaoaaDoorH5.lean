/- the laws' alive -/
import Derived.Test.YtmacmoikjgmaoaaDoorH2
import Derived.Test.YtmacmoikjgmaoaaDoorH3
import Derived.Test.YtmacmoikjgmaoaaDoorH4
import Derived.Test.YtmacmoikjgmaoaaDoorBA7
namespace Go.Proofs.YtmacmoikjgmaoaaDoor.Bo
open Go Go.RowKit

def plT : List UInt8 := [35, 35, 35, 35, 35, 35, 35, 35, 10, 35, 83, 46, 46, 46, 46, 46, 35, 10, 35, 46, 46, 46, 46, 46, 46, 35, 10, 35, 46, 46, 46, 46, 46, 46, 35, 10, 35, 46, 46, 46, 46, 46, 46, 35, 10, 35, 46, 46, 46, 46, 46, 46, 35, 10, 35, 46, 46, 46, 46, 46, 46, 35, 10, 35, 35, 35, 35, 35, 35, 35, 35, 10]
def plL : Bo := [[35, 35, 35, 35, 35, 35, 35, 35], [35, 83, 46, 46, 46, 46, 46, 35], [35, 46, 46, 46, 46, 46, 46, 35], [35, 46, 46, 46, 46, 46, 46, 35], [35, 46, 46, 46, 46, 46, 46, 35], [35, 46, 46, 46, 46, 46, 46, 35], [35, 46, 46, 46, 46, 46, 46, 35], [35, 35, 35, 35, 35, 35, 35, 35]]
theorem pl_lns : lns ⟨plT.toArray⟩ = plL := by
  unfold lns
  rw [rn_ascii plT (by decide +kernel)]
  decide +kernel
theorem pl_ev : ev plL := by decide +kernel
theorem pl_spn : spn plL = [(786432, 786432)] := by decide +kernel
def aC : Cr := { pl := 3, nm := ⟨#[]⟩, x := 1048576, y := 1048576, sx := 100, sy := -4, hd := 0, he := 0, en := 8, am := 1, co := 0, wa := 0, sp := 0, sc := 0 }
def aX : Cr := { aC with en := 0, am := 0, co := 8 }
def aC1 : Cr := { aC with co := 1 }
def aS : Sh := ⟨7, 3, 1179648, 1048576, 196708, -4, 48⟩
def aM : Sh := ⟨0, 0, 1048576, 1048576, 262144, -1, 48⟩
def aT : Sh := ⟨0, 0, 1310720, 1048572, 262144, -1, 47⟩
theorem a_fir : firC aC = aX ∧ firS aC 7 = aS ∧ rdy aC = true := by decide +kernel
theorem a_fir1 : firC aC1 = aC1 ∧ firS aC1 7 = zS ∧ rdy aC1 = false := by decide +kernel
theorem a_mov : mov plL [] aM = (aT, -1, true) := by decide +kernel
theorem aC_ok : CrOk aC := by constructor <;> first | decide | exact ⟨by decide, by decide⟩
theorem aC1_ok : CrOk aC1 := by constructor <;> first | decide | exact ⟨by decide, by decide⟩
theorem aM_ok : ShOk aM := by constructor <;> exact ⟨by decide, by decide⟩
set_option maxRecDepth 100000 in
theorem built38a : Tryd.prog.built 38 [(0, iv 3), (2, vv 1048576 1048576), (3, vv 100 (-4)), (6, iv 8), (7, iv 1)] = some (crv aC).toArray := by kernel_rfl
set_option maxRecDepth 100000 in
theorem built26m : Tryd.prog.built 26 [(2, vv 1048576 1048576), (3, vv 262144 (-1)), (4, iv 48)] = some (shv aM).toArray := by kernel_rfl
theorem num_c (w : World) (n : Int) : Calls Tryd.prog 21 #[iv n] w fun e w' => e = .returned (iv n) ∧ w' = w := by
  go_enter Tryd.func21, Tryd.ntmps21
  go_wp2_with fail
  go_ret
  exact ⟨rfl, rfl⟩
set_option maxRecDepth 100000 in
set_option maxHeartbeats 32000000 in
theorem alive_c (w : World) (hk : Kc w) : Calls Tryd.prog 9 #[] w fun e w' => e = .returned (.bool true) ∧ w.grownBy w' none := by
  obtain ⟨du, hdu, hdr⟩ := underC
  obtain ⟨ds, hds, hdsr⟩ := underS
  have hP := parse_c w ⟨plT.toArray⟩
  rw [pl_lns, pl_spn] at hP
  have HP : Keep (Calls Tryd.prog 10 #[.string ⟨#[35, 35, 35, 35, 35, 35, 35, 35, 10, 35, 83, 46, 46, 46, 46, 46, 35, 10, 35, 46, 46, 46, 46, 46, 46, 35, 10, 35, 46, 46, 46, 46, 46, 46, 35, 10, 35, 46, 46, 46, 46, 46, 46, 35, 10, 35, 46, 46, 46, 46, 46, 46, 35, 10, 35, 46, 46, 46, 46, 46, 46, 35, 10, 35, 35, 35, 35, 35, 35, 35, 35, 10]⟩] w fun e w' => w.grownBy w' none ∧ ∃ kb, e = .returned (.tuple #[pt kb, iv 0]) ∧ Bd w' (pt kb) plL) := ⟨hP.mono fun e w' q => by
    refine ⟨q.1, ?_⟩
    rcases q.2 with ⟨h, _⟩ | ⟨_, h, _⟩ | ⟨_, _, v, h1, h2⟩
    · exact absurd pl_ev h
    · cases h
    · obtain ⟨kb, _, _, hv, _⟩ := h2.o
      subst hv
      exact ⟨kb, h1, h2⟩⟩
  have HK := Keep.mk hk
  have HBC := Keep.mk built38a
  have HBM := Keep.mk built26m
  have HBS : Keep (Tryd.prog.built 26 [(0, iv 7), (1, iv 3), (2, vv 1179648 1048576), (3, vv 196708 (-4)), (4, iv 48)] = some (shv aS).toArray) := ⟨built26 _ _ _ _ _ _ _⟩
  have HBZ : Keep (Tryd.prog.built 26 [] = some (shv zS).toArray) := ⟨built26z⟩
  clear hP hk
  go_enter Tryd.func9, Tryd.ntmps9
  go_wp2_with fail
  refine HP.out.mono ?_
  rintro e w1 ⟨g1, kb, rfl, hB⟩
  have HB1 := Keep.mk (And.intro g1 hB)
  have HF1 := Keep.mk (fun W (g : w1.grownBy W none) => fire_c W aC 7 aC_ok (HK.out.kept (g1.trans g)))
  have HF2 := Keep.mk (fun W (g : w1.grownBy W none) => fire_c W aC1 7 aC1_ok (HK.out.kept (g1.trans g)))
  have HM := Keep.mk (fun W (g : w1.grownBy W none) => move_c W kb plL (.slice none 0 0) [] aM (hB.kept g) (crs_nil W) aM_ok (HK.out.kept (g1.trans g)))
  rw [a_fir.1, a_fir.2.1, a_fir.2.2] at HF1
  rw [a_fir1.1, a_fir1.2.1, a_fir1.2.2] at HF2
  rw [a_mov] at HM
  have hN := num_c w1 0
  clear g1 hB HP
  go_wp2_with fail
  refine hN.mono ?_
  rintro e w_ ⟨rfl, rfl⟩
  clear hN
  rename World => w1
  have HS : Keep (Sep w1 w1 []) := ⟨Sep.nil w1⟩
  have S_ := HS.out.newBox zC14.toArray 38
  obtain ⟨w1_, hw1_⟩ : ∃ W_, w1.alloc (.cells zC14.toArray 38) = W_ := ⟨_, rfl⟩
  obtain ⟨cb, hcb⟩ : ∃ b_, w1.heap.size = b_ := ⟨_, rfl⟩
  rw [hw1_, hcb] at S_
  rw [zC14_lit] at hw1_
  change Sep w1 w1_ [boxA cb zC14 38] at S_
  replace HS := Keep.mk S_
  clear S_
  have RN3 := Keep.mk (HS.out.boxGet k0m).range
  have HX_ := Keep.mk (HS.out.boxGet k0m)
  have HO_ := Keep.mk (crv_one aC)
  go_wp2_with (first
    | (show wpList _ _ _ ({ dst := _, op := Op.store 38 (Operand.tmp 3) _, type := _, pos := _, after := _, guard := _ } :: _) _ _
       refine store_at _ cb 0 zC14 (crv aC) 38 38 rfl rfl rfl rfl HX_.out (Nat.le_refl _) (infoC' aC) HO_.out ?_)
    | (show wpList _ _ _ ({ dst := _, op := Op.build 38 _, type := _, pos := _, after := _, guard := _ } :: _) _ _
       refine build_g (by rfl) 38 _ rfl _ ((congrArg (Tryd.prog.built 38) (by simp only [List.map_toArray, List.map_cons, List.map_nil]; rfl)).trans HBC.out) ?_))
  intro w2_ hS_ g_
  have S_ := hS_ _ _ (fr1 [] HS.out)
  rw [over_all zC14 (crv aC) rfl] at S_
  clear RN3
  change Sep w1 w2_ [boxA cb (crv aC) 38] at S_
  replace HS := Keep.mk S_
  clear S_ hS_ g_ HX_ HO_
  have RN3 := Keep.mk (HS.out.boxGet k0m).range
  go_wp2_with (first
    | (show wpList _ _ _ ({ dst := _, op := Op.load 38 (Operand.tmp 3), type := _, pos := _, after := _, guard := _ } :: _) _ _
       refine load_g (by rfl) 38 _ rfl _ _ rfl _ _ RN3.out hdu hdr (infoC' aC) ?_))
  refine (HF1.out _ HS.out.g).mono ?_
  rintro e w3_ ⟨rfl, g_⟩
  clear RN3
  replace HS := Keep.mk (HS.out.grown g_)
  clear g_
  have RN3 := Keep.mk (HS.out.boxGet k0m).range
  clear RN3
  have S_ := HS.out.newBox zC14.toArray 38
  obtain ⟨w4_, hw4_⟩ : ∃ W_, w3_.alloc (.cells zC14.toArray 38) = W_ := ⟨_, rfl⟩
  obtain ⟨xb, hxb⟩ : ∃ b_, w3_.heap.size = b_ := ⟨_, rfl⟩
  rw [hw4_, hxb] at S_
  rw [zC14_lit] at hw4_
  change Sep w1 w4_ [boxA xb zC14 38, boxA cb (crv aC) 38] at S_
  replace HS := Keep.mk S_
  clear S_
  have RN4 := Keep.mk (HS.out.boxGet k0m).range
  have RN3 := Keep.mk (HS.out.boxGet k1m).range
  clear RN4 RN3
  have S_ := HS.out.newBox zS7.toArray 26
  obtain ⟨w5_, hw5_⟩ : ∃ W_, w4_.alloc (.cells zS7.toArray 26) = W_ := ⟨_, rfl⟩
  obtain ⟨sb, hsb⟩ : ∃ b_, w4_.heap.size = b_ := ⟨_, rfl⟩
  rw [hw5_, hsb] at S_
  rw [zS7_lit] at hw5_
  change Sep w1 w5_ [boxA sb zS7 26, boxA xb zC14 38, boxA cb (crv aC) 38] at S_
  replace HS := Keep.mk S_
  clear S_
  have RN5 := Keep.mk (HS.out.boxGet k0m).range
  have RN4 := Keep.mk (HS.out.boxGet k1m).range
  have RN3 := Keep.mk (HS.out.boxGet k2m).range
  have HX_ := Keep.mk (HS.out.boxGet k1m)
  have HO_ := Keep.mk (crv_one aX)
  go_wp2_with (first
    | (show wpList _ _ _ ({ dst := _, op := Op.load 26 (Operand.tmp 5), type := _, pos := _, after := _, guard := _ } :: _) _ _
       refine load_g (by rfl) 26 _ rfl _ _ rfl _ _ RN5.out hds hdsr (infoS' zS) ?_)
    | (show wpList _ _ _ ({ dst := _, op := Op.load 38 (Operand.tmp 3), type := _, pos := _, after := _, guard := _ } :: _) _ _
       refine load_g (by rfl) 38 _ rfl _ _ rfl _ _ RN3.out hdu hdr (infoC' aC) ?_)
    | (show wpList _ _ _ ({ dst := _, op := Op.store 38 (Operand.tmp 4) _, type := _, pos := _, after := _, guard := _ } :: _) _ _
       refine store_at _ xb 0 zC14 (crv aX) 38 38 rfl rfl rfl rfl HX_.out (Nat.le_refl _) (infoC' aX) HO_.out ?_))
  intro w6_ hS_ g_
  have S_ := hS_ _ _ (fr1 [boxA sb zS7 26] HS.out)
  rw [over_all zC14 (crv aX) rfl] at S_
  clear RN5 RN4 RN3
  change Sep w1 w6_ [boxA xb (crv aX) 38, boxA sb zS7 26, boxA cb (crv aC) 38] at S_
  replace HS := Keep.mk S_
  clear S_ hS_ g_ HX_ HO_
  have RN4 := Keep.mk (HS.out.boxGet k0m).range
  have RN5 := Keep.mk (HS.out.boxGet k1m).range
  have RN3 := Keep.mk (HS.out.boxGet k2m).range
  have HX_ := Keep.mk (HS.out.boxGet k1m)
  have HO_ := Keep.mk (shv_one aS)
  go_wp2_with (first
    | (show wpList _ _ _ ({ dst := _, op := Op.load 38 (Operand.tmp 4), type := _, pos := _, after := _, guard := _ } :: _) _ _
       refine load_g (by rfl) 38 _ rfl _ _ rfl _ _ RN4.out hdu hdr (infoC' aX) ?_)
    | (show wpList _ _ _ ({ dst := _, op := Op.load 26 (Operand.tmp 5), type := _, pos := _, after := _, guard := _ } :: _) _ _
       refine load_g (by rfl) 26 _ rfl _ _ rfl _ _ RN5.out hds hdsr (infoS' zS) ?_)
    | (show wpList _ _ _ ({ dst := _, op := Op.load 38 (Operand.tmp 3), type := _, pos := _, after := _, guard := _ } :: _) _ _
       refine load_g (by rfl) 38 _ rfl _ _ rfl _ _ RN3.out hdu hdr (infoC' aC) ?_)
    | (show wpList _ _ _ ({ dst := _, op := Op.store 26 (Operand.tmp 5) _, type := _, pos := _, after := _, guard := _ } :: _) _ _
       refine store_at _ sb 0 zS7 (shv aS) 26 26 rfl rfl rfl rfl HX_.out (Nat.le_refl _) (infoS' aS) HO_.out ?_))
  intro w7_ hS_ g_
  have S_ := hS_ _ _ (fr1 [boxA xb (crv aX) 38] HS.out)
  rw [over_all zS7 (shv aS) rfl] at S_
  clear RN4 RN5 RN3
  change Sep w1 w7_ [boxA sb (shv aS) 26, boxA xb (crv aX) 38, boxA cb (crv aC) 38] at S_
  replace HS := Keep.mk S_
  clear S_ hS_ g_ HX_ HO_
  have RN5 := Keep.mk (HS.out.boxGet k0m).range
  have RN4 := Keep.mk (HS.out.boxGet k1m).range
  have RN3 := Keep.mk (HS.out.boxGet k2m).range
  have c4x8 : w7_.cell? ⟨xb, 8, none⟩ = some (iv 0) := (HS.out.boxGet k1m).cellv 8 _ rfl
  have c4x9 : w7_.cell? ⟨xb, 9, none⟩ = some (iv 0) := (HS.out.boxGet k1m).cellv 9 _ rfl
  have c4x10 : w7_.cell? ⟨xb, 10, none⟩ = some (iv 8) := (HS.out.boxGet k1m).cellv 10 _ rfl
  have hES := fun w => eq26 aS w
  have RN5q := RN5
  have y8_ : w7_.cell? ⟨cb, 10, none⟩ = some (iv 0) := (HS.out.boxGet k2m).cellv 10 _ rfl
  have f8_ : w7_.frozen? ⟨cb, 10, none⟩ = false := (HS.out.boxGet k2m).frozen 10
  have S_ := (fr1 [boxA sb (shv aS) 26, boxA xb (crv aX) 38] HS.out).boxPut 10 (iv 1)
  obtain ⟨w8_, hw8_⟩ : ∃ W_, w7_.setCell ⟨cb, 10, none⟩ (iv 1) = W_ := ⟨_, rfl⟩
  rw [hw8_] at S_
  clear RN5 RN4 RN3
  change Sep w1 w8_ [boxA cb (crv aC1) 38, boxA sb (shv aS) 26, boxA xb (crv aX) 38] at S_
  replace HS := Keep.mk S_
  clear S_
  have RN3 := Keep.mk (HS.out.boxGet k0m).range
  have RN5 := Keep.mk (HS.out.boxGet k1m).range
  have RN4 := Keep.mk (HS.out.boxGet k2m).range
  go_wp2_with (first
    | (show wpList _ _ _ ({ dst := _, op := Op.load 38 (Operand.tmp 3), type := _, pos := _, after := _, guard := _ } :: _) _ _
       refine load_g (by rfl) 38 _ rfl _ _ rfl _ _ RN3.out hdu hdr (infoC' aC1) ?_)
    | (show wpList _ _ _ ({ dst := _, op := Op.load 26 (Operand.tmp 5), type := _, pos := _, after := _, guard := _ } :: _) _ _
       refine load_g (by rfl) 26 _ rfl _ _ rfl _ _ RN5q.out hds hdsr (infoS' aS) ?_)
    | (show wpList _ _ _ ({ dst := _, op := Op.load 38 (Operand.tmp 4), type := _, pos := _, after := _, guard := _ } :: _) _ _
       refine load_g (by rfl) 38 _ rfl _ _ rfl _ _ RN4.out hdu hdr (infoC' aX) ?_)
    | (show wpList _ _ _ ({ dst := _, op := Op.build 26 _, type := _, pos := _, after := _, guard := _ } :: _) _ _
       refine build_g (by rfl) 26 _ rfl _ ((congrArg (Tryd.prog.built 26) (by simp only [List.map_toArray, List.map_cons, List.map_nil]; rfl)).trans HBS.out) ?_))
  refine (HF2.out _ HS.out.g).mono ?_
  rintro e w9_ ⟨rfl, g_⟩
  clear RN3 RN5 RN4
  replace HS := Keep.mk (HS.out.grown g_)
  clear g_
  have RN3 := Keep.mk (HS.out.boxGet k0m).range
  have RN5 := Keep.mk (HS.out.boxGet k1m).range
  have RN4 := Keep.mk (HS.out.boxGet k2m).range
  clear hES RN5q c4x8 c4x9 c4x10
  clear RN3 RN5 RN4
  have S_ := HS.out.newBox zC14.toArray 38
  obtain ⟨w10_, hw10_⟩ : ∃ W_, w9_.alloc (.cells zC14.toArray 38) = W_ := ⟨_, rfl⟩
  obtain ⟨yb, hyb⟩ : ∃ b_, w9_.heap.size = b_ := ⟨_, rfl⟩
  rw [hw10_, hyb] at S_
  rw [zC14_lit] at hw10_
  change Sep w1 w10_ [boxA yb zC14 38, boxA cb (crv aC1) 38, boxA sb (shv aS) 26, boxA xb (crv aX) 38] at S_
  replace HS := Keep.mk S_
  clear S_
  have RN7 := Keep.mk (HS.out.boxGet k0m).range
  have RN3 := Keep.mk (HS.out.boxGet k1m).range
  have RN5 := Keep.mk (HS.out.boxGet k2m).range
  have RN4 := Keep.mk (HS.out.boxGet k3m).range
  clear RN7 RN3 RN5 RN4
  have S_ := HS.out.newBox zS7.toArray 26
  obtain ⟨w11_, hw11_⟩ : ∃ W_, w10_.alloc (.cells zS7.toArray 26) = W_ := ⟨_, rfl⟩
  obtain ⟨nb, hnb⟩ : ∃ b_, w10_.heap.size = b_ := ⟨_, rfl⟩
  rw [hw11_, hnb] at S_
  rw [zS7_lit] at hw11_
  change Sep w1 w11_ [boxA nb zS7 26, boxA yb zC14 38, boxA cb (crv aC1) 38, boxA sb (shv aS) 26, boxA xb (crv aX) 38] at S_
  replace HS := Keep.mk S_
  clear S_
  have RN8 := Keep.mk (HS.out.boxGet k0m).range
  have RN7 := Keep.mk (HS.out.boxGet k1m).range
  have RN3 := Keep.mk (HS.out.boxGet k2m).range
  have RN5 := Keep.mk (HS.out.boxGet k3m).range
  have RN4 := Keep.mk (HS.out.boxGet k4m).range
  have HX_ := Keep.mk (HS.out.boxGet k1m)
  have HO_ := Keep.mk (crv_one aC1)
  go_wp2_with (first
    | (show wpList _ _ _ ({ dst := _, op := Op.load 26 (Operand.tmp 8), type := _, pos := _, after := _, guard := _ } :: _) _ _
       refine load_g (by rfl) 26 _ rfl _ _ rfl _ _ RN8.out hds hdsr (infoS' zS) ?_)
    | (show wpList _ _ _ ({ dst := _, op := Op.load 38 (Operand.tmp 3), type := _, pos := _, after := _, guard := _ } :: _) _ _
       refine load_g (by rfl) 38 _ rfl _ _ rfl _ _ RN3.out hdu hdr (infoC' aC1) ?_)
    | (show wpList _ _ _ ({ dst := _, op := Op.load 26 (Operand.tmp 5), type := _, pos := _, after := _, guard := _ } :: _) _ _
       refine load_g (by rfl) 26 _ rfl _ _ rfl _ _ RN5.out hds hdsr (infoS' aS) ?_)
    | (show wpList _ _ _ ({ dst := _, op := Op.load 38 (Operand.tmp 4), type := _, pos := _, after := _, guard := _ } :: _) _ _
       refine load_g (by rfl) 38 _ rfl _ _ rfl _ _ RN4.out hdu hdr (infoC' aX) ?_)
    | (show wpList _ _ _ ({ dst := _, op := Op.store 38 (Operand.tmp 7) _, type := _, pos := _, after := _, guard := _ } :: _) _ _
       refine store_at _ yb 0 zC14 (crv aC1) 38 38 rfl rfl rfl rfl HX_.out (Nat.le_refl _) (infoC' aC1) HO_.out ?_))
  intro w12_ hS_ g_
  have S_ := hS_ _ _ (fr1 [boxA nb zS7 26] HS.out)
  rw [over_all zC14 (crv aC1) rfl] at S_
  clear RN8 RN7 RN3 RN5 RN4
  change Sep w1 w12_ [boxA yb (crv aC1) 38, boxA nb zS7 26, boxA cb (crv aC1) 38, boxA sb (shv aS) 26, boxA xb (crv aX) 38] at S_
  replace HS := Keep.mk S_
  clear S_ hS_ g_ HX_ HO_
  have RN7 := Keep.mk (HS.out.boxGet k0m).range
  have RN8 := Keep.mk (HS.out.boxGet k1m).range
  have RN3 := Keep.mk (HS.out.boxGet k2m).range
  have RN5 := Keep.mk (HS.out.boxGet k3m).range
  have RN4 := Keep.mk (HS.out.boxGet k4m).range
  have HX_ := Keep.mk (HS.out.boxGet k1m)
  have HO_ := Keep.mk (shv_one zS)
  go_wp2_with (first
    | (show wpList _ _ _ ({ dst := _, op := Op.load 38 (Operand.tmp 7), type := _, pos := _, after := _, guard := _ } :: _) _ _
       refine load_g (by rfl) 38 _ rfl _ _ rfl _ _ RN7.out hdu hdr (infoC' aC1) ?_)
    | (show wpList _ _ _ ({ dst := _, op := Op.load 26 (Operand.tmp 8), type := _, pos := _, after := _, guard := _ } :: _) _ _
       refine load_g (by rfl) 26 _ rfl _ _ rfl _ _ RN8.out hds hdsr (infoS' zS) ?_)
    | (show wpList _ _ _ ({ dst := _, op := Op.load 38 (Operand.tmp 3), type := _, pos := _, after := _, guard := _ } :: _) _ _
       refine load_g (by rfl) 38 _ rfl _ _ rfl _ _ RN3.out hdu hdr (infoC' aC1) ?_)
    | (show wpList _ _ _ ({ dst := _, op := Op.load 26 (Operand.tmp 5), type := _, pos := _, after := _, guard := _ } :: _) _ _
       refine load_g (by rfl) 26 _ rfl _ _ rfl _ _ RN5.out hds hdsr (infoS' aS) ?_)
    | (show wpList _ _ _ ({ dst := _, op := Op.load 38 (Operand.tmp 4), type := _, pos := _, after := _, guard := _ } :: _) _ _
       refine load_g (by rfl) 38 _ rfl _ _ rfl _ _ RN4.out hdu hdr (infoC' aX) ?_)
    | (show wpList _ _ _ ({ dst := _, op := Op.store 26 (Operand.tmp 8) _, type := _, pos := _, after := _, guard := _ } :: _) _ _
       refine store_at _ nb 0 zS7 (shv zS) 26 26 rfl rfl rfl rfl HX_.out (Nat.le_refl _) (infoS' zS) HO_.out ?_))
  intro w13_ hS_ g_
  have S_ := hS_ _ _ (fr1 [boxA yb (crv aC1) 38] HS.out)
  rw [over_all zS7 (shv zS) rfl] at S_
  clear RN7 RN8 RN3 RN5 RN4
  change Sep w1 w13_ [boxA nb (shv zS) 26, boxA yb (crv aC1) 38, boxA cb (crv aC1) 38, boxA sb (shv aS) 26, boxA xb (crv aX) 38] at S_
  replace HS := Keep.mk S_
  clear S_ hS_ g_ HX_ HO_
  have RN8 := Keep.mk (HS.out.boxGet k0m).range
  have RN7 := Keep.mk (HS.out.boxGet k1m).range
  have RN3 := Keep.mk (HS.out.boxGet k2m).range
  have RN5 := Keep.mk (HS.out.boxGet k3m).range
  have RN4 := Keep.mk (HS.out.boxGet k4m).range
  have hEZ := fun w => eq26 zS w
  have hEC := fun w => eq32 aC1 w
  go_wp2_with (first
    | (show wpList _ _ _ ({ dst := _, op := Op.load 26 (Operand.tmp 8), type := _, pos := _, after := _, guard := _ } :: _) _ _
       refine load_g (by rfl) 26 _ rfl _ _ rfl _ _ RN8.out hds hdsr (infoS' zS) ?_)
    | (show wpList _ _ _ ({ dst := _, op := Op.load 38 (Operand.tmp 7), type := _, pos := _, after := _, guard := _ } :: _) _ _
       refine load_g (by rfl) 38 _ rfl _ _ rfl _ _ RN7.out hdu hdr (infoC' aC1) ?_)
    | (show wpList _ _ _ ({ dst := _, op := Op.load 38 (Operand.tmp 3), type := _, pos := _, after := _, guard := _ } :: _) _ _
       refine load_g (by rfl) 38 _ rfl _ _ rfl _ _ RN3.out hdu hdr (infoC' aC1) ?_)
    | (show wpList _ _ _ ({ dst := _, op := Op.load 26 (Operand.tmp 5), type := _, pos := _, after := _, guard := _ } :: _) _ _
       refine load_g (by rfl) 26 _ rfl _ _ rfl _ _ RN5.out hds hdsr (infoS' aS) ?_)
    | (show wpList _ _ _ ({ dst := _, op := Op.load 38 (Operand.tmp 4), type := _, pos := _, after := _, guard := _ } :: _) _ _
       refine load_g (by rfl) 38 _ rfl _ _ rfl _ _ RN4.out hdu hdr (infoC' aX) ?_)
    | (show wpList _ _ _ ({ dst := _, op := Op.build 26 #[], type := _, pos := _, after := _, guard := _ } :: _) _ _
       refine build_g (by rfl) 26 _ rfl _ ((congrArg (Tryd.prog.built 26) (by simp only [List.map_toArray, List.map_nil])).trans HBZ.out) ?_)
    | (show wpList _ _ _ ({ dst := _, op := Op.build 26 _, type := _, pos := _, after := _, guard := _ } :: _) _ _
       refine build_g (by rfl) 26 _ rfl _ ((congrArg (Tryd.prog.built 26) (by simp only [List.map_toArray, List.map_cons, List.map_nil]; rfl)).trans HBM.out) ?_))
  refine (HM.out _ HS.out.g).mono ?_
  rintro e w14_ ⟨rfl, g_⟩
  clear RN8 RN7 RN3 RN5 RN4
  replace HS := Keep.mk (HS.out.grown g_)
  clear g_
  have RN8 := Keep.mk (HS.out.boxGet k0m).range
  have RN7 := Keep.mk (HS.out.boxGet k1m).range
  have RN3 := Keep.mk (HS.out.boxGet k2m).range
  have RN5 := Keep.mk (HS.out.boxGet k3m).range
  have RN4 := Keep.mk (HS.out.boxGet k4m).range
  clear hEZ hEC
  clear RN8 RN7 RN3 RN5 RN4
  have S_ := HS.out.newBox zS7.toArray 26
  obtain ⟨w15_, hw15_⟩ : ∃ W_, w14_.alloc (.cells zS7.toArray 26) = W_ := ⟨_, rfl⟩
  obtain ⟨tb, htb⟩ : ∃ b_, w14_.heap.size = b_ := ⟨_, rfl⟩
  rw [hw15_, htb] at S_
  rw [zS7_lit] at hw15_
  change Sep w1 w15_ [boxA tb zS7 26, boxA nb (shv zS) 26, boxA yb (crv aC1) 38, boxA cb (crv aC1) 38, boxA sb (shv aS) 26, boxA xb (crv aX) 38] at S_
  replace HS := Keep.mk S_
  clear S_
  have RN10 := Keep.mk (HS.out.boxGet k0m).range
  have RN8 := Keep.mk (HS.out.boxGet k1m).range
  have RN7 := Keep.mk (HS.out.boxGet k2m).range
  have RN3 := Keep.mk (HS.out.boxGet k3m).range
  have RN5 := Keep.mk (HS.out.boxGet k4m).range
  have RN4 := Keep.mk (HS.out.boxGet k5m).range
  have HX_ := Keep.mk (HS.out.boxGet k0m)
  have HO_ := Keep.mk (shv_one aT)
  go_wp2_with (first
    | (show wpList _ _ _ ({ dst := _, op := Op.load 26 (Operand.tmp 10), type := _, pos := _, after := _, guard := _ } :: _) _ _
       refine load_g (by rfl) 26 _ rfl _ _ rfl _ _ RN10.out hds hdsr (infoS' zS) ?_)
    | (show wpList _ _ _ ({ dst := _, op := Op.load 26 (Operand.tmp 8), type := _, pos := _, after := _, guard := _ } :: _) _ _
       refine load_g (by rfl) 26 _ rfl _ _ rfl _ _ RN8.out hds hdsr (infoS' zS) ?_)
    | (show wpList _ _ _ ({ dst := _, op := Op.load 38 (Operand.tmp 7), type := _, pos := _, after := _, guard := _ } :: _) _ _
       refine load_g (by rfl) 38 _ rfl _ _ rfl _ _ RN7.out hdu hdr (infoC' aC1) ?_)
    | (show wpList _ _ _ ({ dst := _, op := Op.load 38 (Operand.tmp 3), type := _, pos := _, after := _, guard := _ } :: _) _ _
       refine load_g (by rfl) 38 _ rfl _ _ rfl _ _ RN3.out hdu hdr (infoC' aC1) ?_)
    | (show wpList _ _ _ ({ dst := _, op := Op.load 26 (Operand.tmp 5), type := _, pos := _, after := _, guard := _ } :: _) _ _
       refine load_g (by rfl) 26 _ rfl _ _ rfl _ _ RN5.out hds hdsr (infoS' aS) ?_)
    | (show wpList _ _ _ ({ dst := _, op := Op.load 38 (Operand.tmp 4), type := _, pos := _, after := _, guard := _ } :: _) _ _
       refine load_g (by rfl) 38 _ rfl _ _ rfl _ _ RN4.out hdu hdr (infoC' aX) ?_)
    | (show wpList _ _ _ ({ dst := _, op := Op.store 26 (Operand.tmp 10) _, type := _, pos := _, after := _, guard := _ } :: _) _ _
       refine store_at _ tb 0 zS7 (shv aT) 26 26 rfl rfl rfl rfl HX_.out (Nat.le_refl _) (infoS' aT) HO_.out ?_))
  intro w16_ hS_ g_
  have S_ := hS_ _ _ (fr1 [] HS.out)
  rw [over_all zS7 (shv aT) rfl] at S_
  clear RN10 RN8 RN7 RN3 RN5 RN4
  change Sep w1 w16_ [boxA tb (shv aT) 26, boxA nb (shv zS) 26, boxA yb (crv aC1) 38, boxA cb (crv aC1) 38, boxA sb (shv aS) 26, boxA xb (crv aX) 38] at S_
  replace HS := Keep.mk S_
  clear S_ hS_ g_ HX_ HO_
  have RN10 := Keep.mk (HS.out.boxGet k0m).range
  have RN8 := Keep.mk (HS.out.boxGet k1m).range
  have RN7 := Keep.mk (HS.out.boxGet k2m).range
  have RN3 := Keep.mk (HS.out.boxGet k3m).range
  have RN5 := Keep.mk (HS.out.boxGet k4m).range
  have RN4 := Keep.mk (HS.out.boxGet k5m).range
  have c10x2 : w16_.cell? ⟨tb, 2, none⟩ = some (iv 1310720) := (HS.out.boxGet k0m).cellv 2 _ rfl
  have c10x3 : w16_.cell? ⟨tb, 3, none⟩ = some (iv 1048572) := (HS.out.boxGet k0m).cellv 3 _ rfl
  have c10x6 : w16_.cell? ⟨tb, 6, none⟩ = some (iv 47) := (HS.out.boxGet k0m).cellv 6 _ rfl
  have hE := fun w => eq24 1310720 1048572 w
  clear RN10 RN8 RN7 RN3 RN5 RN4
  go_wp2_with fail
  go_ret
  exact ⟨rfl, HB1.out.1.trans HS.out.g⟩
end Go.Proofs.YtmacmoikjgmaoaaDoor.Bo
