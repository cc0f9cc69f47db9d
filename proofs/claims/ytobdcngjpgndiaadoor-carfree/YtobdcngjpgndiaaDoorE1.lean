/- CarTwice: the walk -/
import Derived.Test.YtobdcngjpgndiaaDoorD2
import Derived.Deep.DeepCutAuto
namespace Go.Proofs.YtobdcngjpgndiaaDoor.Bo
open Go Go.RowKit

theorem k6m {a b c d e f g : As} {l : List As} : a ∈ b :: c :: d :: e :: f :: g :: a :: l := List.mem_cons_of_mem _ k5m
theorem k7m {a b c d e f g h : As} {l : List As} : a ∈ b :: c :: d :: e :: f :: g :: h :: a :: l := List.mem_cons_of_mem _ k6m
theorem k8m {a b c d e f g h i : As} {l : List As} : a ∈ b :: c :: d :: e :: f :: g :: h :: i :: a :: l := List.mem_cons_of_mem _ k7m
theorem bm_two (x y : Cr) : bmp (bmA x y) (bmB x y) = bmp x y ∧ bmA (bmA x y) (bmB x y) = x ∧ bmB (bmA x y) (bmB x y) = y ∧ { bmA x y with sx := x.sx, sy := x.sy } = x ∧ { bmB x y with sx := y.sx, sy := y.sy } = y := by
  cases h : bmp x y
  · obtain ⟨h1, h2⟩ := bm_no h
    rw [h1, h2]
    exact ⟨h, h1, h2, rfl, rfl⟩
  · obtain ⟨h1, h2⟩ := bm_yes h
    have h3 : bmp (bmA x y) (bmB x y) = true := by rw [h1, h2]; exact h
    obtain ⟨h4, h5⟩ := bm_yes h3
    refine ⟨h3, ?_, ?_, ?_, ?_⟩
    · rw [h4, h1, h2]
    · rw [h5, h1, h2]
    · rw [h1]
    · rw [h2]
theorem bmp_wa {x y : Cr} (h : bmp x y = true) : ¬ 0 < x.wa ∧ ¬ 0 < y.wa := by
  unfold bmp at h
  simp only [Bool.and_eq_true, decide_eq_true_eq] at h
  exact ⟨h.1, h.2.1⟩
theorem bm_ok {x y : Cr} (hx : CrOk x) (hy : CrOk y) : CrOk (bmA x y) ∧ CrOk (bmB x y) := by
  cases h : bmp x y
  · obtain ⟨h1, h2⟩ := bm_no h
    rw [h1, h2]
    exact ⟨hx, hy⟩
  · obtain ⟨h1, h2⟩ := bm_yes h
    rw [h1, h2]
    exact ⟨⟨hx.nm, hx.pl, hx.x, hx.y, hy.sx, hy.sy, hx.hd, hx.he, hx.en, hx.am, hx.co, hx.wa, hx.sp, hx.sc⟩, ⟨hy.nm, hy.pl, hy.x, hy.y, hx.sx, hx.sy, hy.hd, hy.he, hy.en, hy.am, hy.co, hy.wa, hy.sp, hy.sc⟩⟩
set_option maxRecDepth 100000 in
set_option maxHeartbeats 8000000 in
theorem same_t (w : World) (a b : Cr) (h1 : a.pl = b.pl) (h2 : a.nm = b.nm) (h3 : a.sc = b.sc) : Calls Tryd.prog 16 #[.agg (crv a).toArray, .agg (crv b).toArray] w fun e w' => e = .returned (.bool true) ∧ w.grownBy w' none := by
  have S2 := ((Sep.nil w).newBox (crv a).toArray 32).newBox (crv b).toArray 32
  obtain ⟨W1, hW1⟩ : ∃ W1, w.alloc (.cells (crv a).toArray 32) = W1 := ⟨_, rfl⟩
  obtain ⟨xb, hxb⟩ : ∃ xb, w.heap.size = xb := ⟨_, rfl⟩
  rw [hW1, hxb] at S2
  obtain ⟨W2, hW2⟩ : ∃ W2, W1.alloc (.cells (crv b).toArray 32) = W2 := ⟨_, rfl⟩
  obtain ⟨yb, hyb⟩ : ∃ yb, W1.heap.size = yb := ⟨_, rfl⟩
  rw [hW2, hyb] at S2
  change Sep w W2 [boxA yb (crv b) 32, boxA xb (crv a) 32] at S2
  have hsx : (crv a).toArray.size = 14 := rfl
  have hsy : (crv b).toArray.size = 14 := rfl
  have x0 : W2.cell? ⟨xb, 0, none⟩ = some (iv a.pl) := (S2.boxGet k1m).cellv 0 _ rfl
  have x1 : W2.cell? ⟨xb, 1, none⟩ = some (.string a.nm) := (S2.boxGet k1m).cellv 1 _ rfl
  have x13 : W2.cell? ⟨xb, 13, none⟩ = some (iv a.sc) := (S2.boxGet k1m).cellv 13 _ rfl
  have y0 : W2.cell? ⟨yb, 0, none⟩ = some (iv a.pl) := by rw [h1]; exact (S2.boxGet k0m).cellv 0 _ rfl
  have y1 : W2.cell? ⟨yb, 1, none⟩ = some (.string a.nm) := by rw [h2]; exact (S2.boxGet k0m).cellv 1 _ rfl
  have y13 : W2.cell? ⟨yb, 13, none⟩ = some (iv a.sc) := by rw [h3]; exact (S2.boxGet k0m).cellv 13 _ rfl
  have HG := Keep.mk S2.g
  clear S2 h1 h2 h3
  go_enter Tryd.func16, Tryd.ntmps16
  go_wp2_with fail
  go_ret
  exact ⟨rfl, HG.out⟩
set_option maxRecDepth 100000 in
theorem fld_wa (c : Cr) (W : World) : (Instr.field 32 (.agg (crv c).toArray) 9).run Tryd.prog W = .ok (iv c.wa) W := by kernel_rfl
theorem ok_he {c : Cr} (ok : CrOk c) (a b : Int) (ha : In a) (hb : In b) : CrOk { c with wa := a, he := b } := ⟨ok.nm, ok.pl, ok.x, ok.y, ok.sx, ok.sy, ok.hd, hb, ok.en, ok.am, ok.co, ha, ok.sp, ok.sc⟩
set_option maxRecDepth 100000 in
set_option maxHeartbeats 64000000 in
theorem twice_c (w : World) (x y : Cr) (h : Int) (okx : CrOk x) (oky : CrOk y) (hk : Kc w) :
    Calls Tryd.prog 5 #[.agg (crv x).toArray, .agg (crv y).toArray, iv h] w fun e w' => e = .returned (.bool true) ∧ w.grownBy w' none := by
  obtain ⟨du, hdu, hdr⟩ := underC
  have HAL := Keep.mk (fun W (g : w.grownBy W none) => alive_c W (hk.kept g))
  obtain ⟨b1, b2, b3, b4, b5⟩ := bm_two x y
  obtain ⟨oka, okb⟩ := bm_ok okx oky
  have HBU := Keep.mk (fun W (g : w.grownBy W none) => bump_c W x y okx oky (hk.kept g))
  have HBV := Keep.mk (fun W (g : w.grownBy W none) => bump_c W (bmA x y) (bmB x y) oka okb (hk.kept g))
  rw [b1, b2, b3] at HBV
  have HWA : Keep (bmp x y = true → ¬ 0 < x.wa ∧ ¬ 0 < y.wa) := ⟨bmp_wa⟩
  have HEA := Keep.mk b4
  have HEB := Keep.mk b5
  clear b1 b2 b3 b4 b5 oka okb
  generalize bmA x y = a at *
  generalize bmB x y = b at *
  generalize bmp x y = r at *
  obtain ⟨t, ht⟩ : ∃ t, h.tmod 1000 = t := ⟨_, rfl⟩
  have ht1 := Int.tmod_lt_of_pos h (show (0 : Int) < 1000 by omega)
  have ht2 := Int.lt_tmod_of_pos h (show (0 : Int) < 1000 by omega)
  rw [ht] at ht1 ht2
  obtain ⟨n, hn⟩ : ∃ n, (if t < 0 then -t else t) = n := ⟨_, rfl⟩
  have hn0 : 0 ≤ n ∧ n ≤ 999 := by rw [← hn]; split <;> omega
  have HNN : Keep ((t < 0 ∧ decide (t < 0) = true ∧ IntKind.i64.wrap (-t) = n) ∨ (¬ t < 0 ∧ decide (t < 0) = false ∧ t = n)) := ⟨by
    by_cases q : t < 0
    · rw [if_pos q] at hn
      exact .inl ⟨q, decide_eq_true q, by rw [wi _ (by omega) (by omega)]; exact hn⟩
    · rw [if_neg q] at hn
      exact .inr ⟨q, decide_eq_false q, hn⟩⟩
  clear hn
  have okz : CrOk { x with wa := 0, he := 2000 } := ok_he okx 0 2000 ⟨by omega, by omega⟩ ⟨by omega, by omega⟩
  have okz1 : CrOk { x with wa := 0, he := 2000 - n } := ok_he okx 0 (2000 - n) ⟨by omega, by omega⟩ ⟨by omega, by omega⟩
  have i0 : In 0 := ⟨by omega, by omega⟩
  have i40 : In 40 := ⟨by omega, by omega⟩
  have okw : CrOk { x with wa := 40, he := 0, sx := 0, sy := 0 } := ⟨okx.nm, okx.pl, okx.x, okx.y, i0, i0, okx.hd, i0, okx.en, okx.am, okx.co, i40, okx.sp, okx.sc⟩
  have e1 : hitC { x with wa := 0, he := 2000 } n = { x with wa := 0, he := 2000 - n } := by
    unfold hitC
    rw [if_neg (by show ¬ (0 : Int) < 0; omega), if_pos (by show max n 0 < (2000 : Int); omega), show max n 0 = n by omega]
  have e2 : hitC { x with wa := 0, he := 2000 - n } 0 = { x with wa := 0, he := 2000 - n } := by
    unfold hitC
    rw [if_neg (by show ¬ (0 : Int) < 0; omega), if_pos (by show max (0 : Int) 0 < 2000 - n; omega), show max (0 : Int) 0 = 0 by omega, Int.sub_zero]
  have e3 : (hitC { x with wa := 0, he := 2000 - n } (2000 - n)).wa = 40 := by
    unfold hitC
    rw [if_neg (by show ¬ (0 : Int) < 0; omega), if_neg (by show ¬ max (2000 - n) 0 < 2000 - n; omega)]
  have e4 : (hitC { x with wa := 0, he := 2000 - n } (1999 - n)).wa = 0 := by
    unfold hitC
    rw [if_neg (by show ¬ (0 : Int) < 0; omega), if_pos (by show max (1999 - n) 0 < 2000 - n; omega)]
  have e5 : hitC { x with wa := 0, he := 2000 - n } 2000 = { x with wa := 40, he := 0, sx := 0, sy := 0 } := by
    unfold hitC
    rw [if_neg (by show ¬ (0 : Int) < 0; omega), if_neg (by show ¬ max (2000 : Int) 0 < 2000 - n; omega)]
  have e6 : hitC { x with wa := 40, he := 0, sx := 0, sy := 0 } 5 = { x with wa := 40, he := 0, sx := 0, sy := 0 } := by
    unfold hitC
    rw [if_pos (by show (0 : Int) < 40; omega)]
  have HH1 := Keep.mk (fun W => hit_c W _ n okz ⟨by omega, by omega⟩)
  have HH2 := Keep.mk (fun W => hit_c W _ 0 okz1 ⟨by omega, by omega⟩)
  have HH3 := Keep.mk (fun W => hit_c W _ (2000 - n) okz1 ⟨by omega, by omega⟩)
  have HH4 := Keep.mk (fun W => hit_c W _ (1999 - n) okz1 ⟨by omega, by omega⟩)
  have HH5 := Keep.mk (fun W => hit_c W _ 2000 okz1 ⟨by omega, by omega⟩)
  have HH6 := Keep.mk (fun W => hit_c W _ 5 okw ⟨by omega, by omega⟩)
  rw [e1] at HH1
  rw [e2] at HH2
  rw [e5] at HH5
  rw [e6] at HH6
  have HSM := Keep.mk (fun W => same_t W { x with wa := 40, he := 0, sx := 0, sy := 0 } x rfl rfl rfl)
  have hf3 := fld_wa (hitC { x with wa := 0, he := 2000 - n } (2000 - n))
  have hf4 := fld_wa (hitC { x with wa := 0, he := 2000 - n } (1999 - n))
  rw [e3] at hf3
  rw [e4] at hf4
  generalize hitC { x with wa := 0, he := 2000 - n } (2000 - n) = u3 at *
  generalize hitC { x with wa := 0, he := 2000 - n } (1999 - n) = u4 at *
  obtain ⟨z, hz⟩ : ∃ z : Cr, ({ x with wa := 0, he := 2000 } : Cr) = z := ⟨_, rfl⟩
  obtain ⟨z1, hz1⟩ : ∃ z : Cr, ({ x with wa := 0, he := 2000 - n } : Cr) = z := ⟨_, rfl⟩
  obtain ⟨wr, hwr⟩ : ∃ z : Cr, ({ x with wa := 40, he := 0, sx := 0, sy := 0 } : Cr) = z := ⟨_, rfl⟩
  have HZ1 : Keep (z1.he = 2000 - n ∧ z1.wa = 0) := ⟨by rw [← hz1]; exact ⟨rfl, rfl⟩⟩
  have HWR : Keep (wr.he = 0 ∧ wr.sx = 0 ∧ wr.sy = 0) := ⟨by rw [← hwr]; exact ⟨rfl, rfl, rfl⟩⟩
  rw [hz, hz1] at HH1
  rw [hz1] at HH2 HH3 HH4 HH5
  rw [hwr] at HH5 HH6 HSM
  have HEZ := Keep.mk hz
  have k1 : IntKind.i64.wrap (2000 - n) = 2000 - n := wi _ (by omega) (by omega)
  have k2 : IntKind.i64.wrap (1999 - n) = 1999 - n := wi _ (by omega) (by omega)
  clear e1 e2 e3 e4 e5 e6 okz okz1 okw hz hz1 hwr
  have S2 := ((Sep.nil w).newBox (crv x).toArray 32).newBox (crv y).toArray 32
  obtain ⟨W1, hW1⟩ : ∃ W1, w.alloc (.cells (crv x).toArray 32) = W1 := ⟨_, rfl⟩
  obtain ⟨xb, hxb⟩ : ∃ xb, w.heap.size = xb := ⟨_, rfl⟩
  rw [hW1, hxb] at S2
  obtain ⟨W2, hW2⟩ : ∃ W2, W1.alloc (.cells (crv y).toArray 32) = W2 := ⟨_, rfl⟩
  obtain ⟨yb, hyb⟩ : ∃ yb, W1.heap.size = yb := ⟨_, rfl⟩
  rw [hW2, hyb] at S2
  change Sep w W2 [boxA yb (crv y) 32, boxA xb (crv x) 32] at S2
  have hsx : (crv x).toArray.size = 14 := rfl
  have hsy : (crv y).toArray.size = 14 := rfl
  have HS := Keep.mk S2
  clear S2 okx oky hk
  go_enter Tryd.func5, Tryd.ntmps5
  have RN4 := Keep.mk (HS.out.boxGet k0m).range
  have RN3 := Keep.mk (HS.out.boxGet k1m).range
  go_wp2_with (first
    | (show wpList _ _ _ ({ dst := _, op := Op.load 32 (Operand.tmp 4), type := _, pos := _, after := _, guard := _ } :: _) _ _
       refine load_g (by rfl) 32 _ rfl _ _ rfl _ _ RN4.out hdu hdr (infoC' y) ?_)
    | (show wpList _ _ _ ({ dst := _, op := Op.load 32 (Operand.tmp 3), type := _, pos := _, after := _, guard := _ } :: _) _ _
       refine load_g (by rfl) 32 _ rfl _ _ rfl _ _ RN3.out hdu hdr (infoC' x) ?_))
  refine (HBU.out _ HS.out.g).mono ?_
  rintro e w1_ ⟨rfl, g_⟩
  clear RN4 RN3
  replace HS := Keep.mk (HS.out.grown g_)
  clear g_
  have RN4 := Keep.mk (HS.out.boxGet k0m).range
  have RN3 := Keep.mk (HS.out.boxGet k1m).range
  clear hW1 hW2 hxb hyb
  clear RN4 RN3
  have S_ := HS.out.newBox zC14.toArray 32
  obtain ⟨w2_, hw2_⟩ : ∃ W_, w1_.alloc (.cells zC14.toArray 32) = W_ := ⟨_, rfl⟩
  obtain ⟨ab, hab⟩ : ∃ b_, w1_.heap.size = b_ := ⟨_, rfl⟩
  rw [hw2_, hab] at S_
  unfold zC14 crv zC at hw2_
  change w1_.alloc _ = w2_ at hw2_
  change Sep w w2_ [boxA ab zC14 32, boxA yb (crv y) 32, boxA xb (crv x) 32] at S_
  replace HS := Keep.mk S_
  clear S_
  have RN4 := Keep.mk (HS.out.boxGet k1m).range
  have RN3 := Keep.mk (HS.out.boxGet k2m).range
  clear RN4 RN3
  have S_ := HS.out.newBox zC14.toArray 32
  obtain ⟨w3_, hw3_⟩ : ∃ W_, w2_.alloc (.cells zC14.toArray 32) = W_ := ⟨_, rfl⟩
  obtain ⟨bb, hbb⟩ : ∃ b_, w2_.heap.size = b_ := ⟨_, rfl⟩
  rw [hw3_, hbb] at S_
  unfold zC14 crv zC at hw3_
  change w2_.alloc _ = w3_ at hw3_
  change Sep w w3_ [boxA bb zC14 32, boxA ab zC14 32, boxA yb (crv y) 32, boxA xb (crv x) 32] at S_
  replace HS := Keep.mk S_
  clear S_
  have RN4 := Keep.mk (HS.out.boxGet k2m).range
  have RN3 := Keep.mk (HS.out.boxGet k3m).range
  have HX_ := Keep.mk (HS.out.boxGet k1m)
  have HO_ := Keep.mk (crv_one a)
  go_wp2_with (first
    | (show wpList _ _ _ ({ dst := _, op := Op.load 32 (Operand.tmp 4), type := _, pos := _, after := _, guard := _ } :: _) _ _
       refine load_g (by rfl) 32 _ rfl _ _ rfl _ _ RN4.out hdu hdr (infoC' y) ?_)
    | (show wpList _ _ _ ({ dst := _, op := Op.load 32 (Operand.tmp 3), type := _, pos := _, after := _, guard := _ } :: _) _ _
       refine load_g (by rfl) 32 _ rfl _ _ rfl _ _ RN3.out hdu hdr (infoC' x) ?_)
    | (show wpList _ _ _ ({ dst := _, op := Op.store 32 (Operand.tmp 7) _, type := _, pos := _, after := _, guard := _ } :: _) _ _
       refine store_at _ ab 0 zC14 (crv a) 32 32 rfl rfl rfl rfl HX_.out (Nat.le_refl _) (infoC' a) HO_.out ?_))
  intro w4_ hS_ g_
  have S_ := hS_ _ _ (fr1 [boxA bb zC14 32] HS.out)
  rw [over_all zC14 (crv a) rfl] at S_
  clear RN4 RN3
  change Sep w w4_ [boxA ab (crv a) 32, boxA bb zC14 32, boxA yb (crv y) 32, boxA xb (crv x) 32] at S_
  replace HS := Keep.mk S_
  clear S_ hS_ g_ HX_ HO_
  have RN7 := Keep.mk (HS.out.boxGet k0m).range
  have RN4 := Keep.mk (HS.out.boxGet k2m).range
  have RN3 := Keep.mk (HS.out.boxGet k3m).range
  have HX_ := Keep.mk (HS.out.boxGet k1m)
  have HO_ := Keep.mk (crv_one b)
  go_wp2_with (first
    | (show wpList _ _ _ ({ dst := _, op := Op.load 32 (Operand.tmp 7), type := _, pos := _, after := _, guard := _ } :: _) _ _
       refine load_g (by rfl) 32 _ rfl _ _ rfl _ _ RN7.out hdu hdr (infoC' a) ?_)
    | (show wpList _ _ _ ({ dst := _, op := Op.load 32 (Operand.tmp 4), type := _, pos := _, after := _, guard := _ } :: _) _ _
       refine load_g (by rfl) 32 _ rfl _ _ rfl _ _ RN4.out hdu hdr (infoC' y) ?_)
    | (show wpList _ _ _ ({ dst := _, op := Op.load 32 (Operand.tmp 3), type := _, pos := _, after := _, guard := _ } :: _) _ _
       refine load_g (by rfl) 32 _ rfl _ _ rfl _ _ RN3.out hdu hdr (infoC' x) ?_)
    | (show wpList _ _ _ ({ dst := _, op := Op.store 32 (Operand.tmp 8) _, type := _, pos := _, after := _, guard := _ } :: _) _ _
       refine store_at _ bb 0 zC14 (crv b) 32 32 rfl rfl rfl rfl HX_.out (Nat.le_refl _) (infoC' b) HO_.out ?_))
  intro w5_ hS_ g_
  have S_ := hS_ _ _ (fr1 [boxA ab (crv a) 32] HS.out)
  rw [over_all zC14 (crv b) rfl] at S_
  clear RN7 RN4 RN3
  change Sep w w5_ [boxA bb (crv b) 32, boxA ab (crv a) 32, boxA yb (crv y) 32, boxA xb (crv x) 32] at S_
  replace HS := Keep.mk S_
  clear S_ hS_ g_ HX_ HO_
  have RN8 := Keep.mk (HS.out.boxGet k0m).range
  have RN7 := Keep.mk (HS.out.boxGet k1m).range
  have RN4 := Keep.mk (HS.out.boxGet k2m).range
  have RN3 := Keep.mk (HS.out.boxGet k3m).range
  go_wp2_with (first
    | (show wpList _ _ _ ({ dst := _, op := Op.load 32 (Operand.tmp 8), type := _, pos := _, after := _, guard := _ } :: _) _ _
       refine load_g (by rfl) 32 _ rfl _ _ rfl _ _ RN8.out hdu hdr (infoC' b) ?_)
    | (show wpList _ _ _ ({ dst := _, op := Op.load 32 (Operand.tmp 7), type := _, pos := _, after := _, guard := _ } :: _) _ _
       refine load_g (by rfl) 32 _ rfl _ _ rfl _ _ RN7.out hdu hdr (infoC' a) ?_)
    | (show wpList _ _ _ ({ dst := _, op := Op.load 32 (Operand.tmp 4), type := _, pos := _, after := _, guard := _ } :: _) _ _
       refine load_g (by rfl) 32 _ rfl _ _ rfl _ _ RN4.out hdu hdr (infoC' y) ?_)
    | (show wpList _ _ _ ({ dst := _, op := Op.load 32 (Operand.tmp 3), type := _, pos := _, after := _, guard := _ } :: _) _ _
       refine load_g (by rfl) 32 _ rfl _ _ rfl _ _ RN3.out hdu hdr (infoC' x) ?_))
  refine (HBV.out _ HS.out.g).mono ?_
  rintro e w6_ ⟨rfl, g_⟩
  clear RN8 RN7 RN4 RN3
  replace HS := Keep.mk (HS.out.grown g_)
  clear g_
  have RN8 := Keep.mk (HS.out.boxGet k0m).range
  have RN7 := Keep.mk (HS.out.boxGet k1m).range
  have RN4 := Keep.mk (HS.out.boxGet k2m).range
  have RN3 := Keep.mk (HS.out.boxGet k3m).range
  clear RN8 RN7 RN4 RN3
  have S_ := HS.out.newBox zC14.toArray 32
  obtain ⟨w7_, hw7_⟩ : ∃ W_, w6_.alloc (.cells zC14.toArray 32) = W_ := ⟨_, rfl⟩
  obtain ⟨eb, heb⟩ : ∃ b_, w6_.heap.size = b_ := ⟨_, rfl⟩
  rw [hw7_, heb] at S_
  unfold zC14 crv zC at hw7_
  change w6_.alloc _ = w7_ at hw7_
  change Sep w w7_ [boxA eb zC14 32, boxA bb (crv b) 32, boxA ab (crv a) 32, boxA yb (crv y) 32, boxA xb (crv x) 32] at S_
  replace HS := Keep.mk S_
  clear S_
  have RN8 := Keep.mk (HS.out.boxGet k1m).range
  have RN7 := Keep.mk (HS.out.boxGet k2m).range
  have RN4 := Keep.mk (HS.out.boxGet k3m).range
  have RN3 := Keep.mk (HS.out.boxGet k4m).range
  clear RN8 RN7 RN4 RN3
  have S_ := HS.out.newBox zC14.toArray 32
  obtain ⟨w8_, hw8_⟩ : ∃ W_, w7_.alloc (.cells zC14.toArray 32) = W_ := ⟨_, rfl⟩
  obtain ⟨fb, hfb⟩ : ∃ b_, w7_.heap.size = b_ := ⟨_, rfl⟩
  rw [hw8_, hfb] at S_
  unfold zC14 crv zC at hw8_
  change w7_.alloc _ = w8_ at hw8_
  change Sep w w8_ [boxA fb zC14 32, boxA eb zC14 32, boxA bb (crv b) 32, boxA ab (crv a) 32, boxA yb (crv y) 32, boxA xb (crv x) 32] at S_
  replace HS := Keep.mk S_
  clear S_
  have RN8 := Keep.mk (HS.out.boxGet k2m).range
  have RN7 := Keep.mk (HS.out.boxGet k3m).range
  have RN4 := Keep.mk (HS.out.boxGet k4m).range
  have RN3 := Keep.mk (HS.out.boxGet k5m).range
  have HX_ := Keep.mk (HS.out.boxGet k1m)
  have HO_ := Keep.mk (crv_one x)
  go_wp2_with (first
    | (show wpList _ _ _ ({ dst := _, op := Op.load 32 (Operand.tmp 8), type := _, pos := _, after := _, guard := _ } :: _) _ _
       refine load_g (by rfl) 32 _ rfl _ _ rfl _ _ RN8.out hdu hdr (infoC' b) ?_)
    | (show wpList _ _ _ ({ dst := _, op := Op.load 32 (Operand.tmp 7), type := _, pos := _, after := _, guard := _ } :: _) _ _
       refine load_g (by rfl) 32 _ rfl _ _ rfl _ _ RN7.out hdu hdr (infoC' a) ?_)
    | (show wpList _ _ _ ({ dst := _, op := Op.load 32 (Operand.tmp 4), type := _, pos := _, after := _, guard := _ } :: _) _ _
       refine load_g (by rfl) 32 _ rfl _ _ rfl _ _ RN4.out hdu hdr (infoC' y) ?_)
    | (show wpList _ _ _ ({ dst := _, op := Op.load 32 (Operand.tmp 3), type := _, pos := _, after := _, guard := _ } :: _) _ _
       refine load_g (by rfl) 32 _ rfl _ _ rfl _ _ RN3.out hdu hdr (infoC' x) ?_)
    | (show wpList _ _ _ ({ dst := _, op := Op.store 32 (Operand.tmp 10) _, type := _, pos := _, after := _, guard := _ } :: _) _ _
       refine store_at _ eb 0 zC14 (crv x) 32 32 rfl rfl rfl rfl HX_.out (Nat.le_refl _) (infoC' x) HO_.out ?_))
  intro w9_ hS_ g_
  have S_ := hS_ _ _ (fr1 [boxA fb zC14 32] HS.out)
  rw [over_all zC14 (crv x) rfl] at S_
  clear RN8 RN7 RN4 RN3
  change Sep w w9_ [boxA eb (crv x) 32, boxA fb zC14 32, boxA bb (crv b) 32, boxA ab (crv a) 32, boxA yb (crv y) 32, boxA xb (crv x) 32] at S_
  replace HS := Keep.mk S_
  clear S_ hS_ g_ HX_ HO_
  have RN10 := Keep.mk (HS.out.boxGet k0m).range
  have RN8 := Keep.mk (HS.out.boxGet k2m).range
  have RN7 := Keep.mk (HS.out.boxGet k3m).range
  have RN4 := Keep.mk (HS.out.boxGet k4m).range
  have RN3 := Keep.mk (HS.out.boxGet k5m).range
  have HX_ := Keep.mk (HS.out.boxGet k1m)
  have HO_ := Keep.mk (crv_one y)
  go_wp2_with (first
    | (show wpList _ _ _ ({ dst := _, op := Op.load 32 (Operand.tmp 10), type := _, pos := _, after := _, guard := _ } :: _) _ _
       refine load_g (by rfl) 32 _ rfl _ _ rfl _ _ RN10.out hdu hdr (infoC' x) ?_)
    | (show wpList _ _ _ ({ dst := _, op := Op.load 32 (Operand.tmp 8), type := _, pos := _, after := _, guard := _ } :: _) _ _
       refine load_g (by rfl) 32 _ rfl _ _ rfl _ _ RN8.out hdu hdr (infoC' b) ?_)
    | (show wpList _ _ _ ({ dst := _, op := Op.load 32 (Operand.tmp 7), type := _, pos := _, after := _, guard := _ } :: _) _ _
       refine load_g (by rfl) 32 _ rfl _ _ rfl _ _ RN7.out hdu hdr (infoC' a) ?_)
    | (show wpList _ _ _ ({ dst := _, op := Op.load 32 (Operand.tmp 4), type := _, pos := _, after := _, guard := _ } :: _) _ _
       refine load_g (by rfl) 32 _ rfl _ _ rfl _ _ RN4.out hdu hdr (infoC' y) ?_)
    | (show wpList _ _ _ ({ dst := _, op := Op.load 32 (Operand.tmp 3), type := _, pos := _, after := _, guard := _ } :: _) _ _
       refine load_g (by rfl) 32 _ rfl _ _ rfl _ _ RN3.out hdu hdr (infoC' x) ?_)
    | (show wpList _ _ _ ({ dst := _, op := Op.store 32 (Operand.tmp 11) _, type := _, pos := _, after := _, guard := _ } :: _) _ _
       refine store_at _ fb 0 zC14 (crv y) 32 32 rfl rfl rfl rfl HX_.out (Nat.le_refl _) (infoC' y) HO_.out ?_))
  intro w10_ hS_ g_
  have S_ := hS_ _ _ (fr1 [boxA eb (crv x) 32] HS.out)
  rw [over_all zC14 (crv y) rfl] at S_
  clear RN10 RN8 RN7 RN4 RN3
  change Sep w w10_ [boxA fb (crv y) 32, boxA eb (crv x) 32, boxA bb (crv b) 32, boxA ab (crv a) 32, boxA yb (crv y) 32, boxA xb (crv x) 32] at S_
  replace HS := Keep.mk S_
  clear S_ hS_ g_ HX_ HO_
  have RN11 := Keep.mk (HS.out.boxGet k0m).range
  have RN10 := Keep.mk (HS.out.boxGet k1m).range
  have RN8 := Keep.mk (HS.out.boxGet k2m).range
  have RN7 := Keep.mk (HS.out.boxGet k3m).range
  have RN4 := Keep.mk (HS.out.boxGet k4m).range
  have RN3 := Keep.mk (HS.out.boxGet k5m).range
  have hEx := fun w => eq32 x w
  have hEy := fun w => eq32 y w
  have hrr : (r != r) = false := by simp
  go_wp2_with (first
    | (show wpList _ _ _ ({ dst := _, op := Op.load 32 (Operand.tmp 11), type := _, pos := _, after := _, guard := _ } :: _) _ _
       refine load_g (by rfl) 32 _ rfl _ _ rfl _ _ RN11.out hdu hdr (infoC' y) ?_)
    | (show wpList _ _ _ ({ dst := _, op := Op.load 32 (Operand.tmp 10), type := _, pos := _, after := _, guard := _ } :: _) _ _
       refine load_g (by rfl) 32 _ rfl _ _ rfl _ _ RN10.out hdu hdr (infoC' x) ?_)
    | (show wpList _ _ _ ({ dst := _, op := Op.load 32 (Operand.tmp 8), type := _, pos := _, after := _, guard := _ } :: _) _ _
       refine load_g (by rfl) 32 _ rfl _ _ rfl _ _ RN8.out hdu hdr (infoC' b) ?_)
    | (show wpList _ _ _ ({ dst := _, op := Op.load 32 (Operand.tmp 7), type := _, pos := _, after := _, guard := _ } :: _) _ _
       refine load_g (by rfl) 32 _ rfl _ _ rfl _ _ RN7.out hdu hdr (infoC' a) ?_)
    | (show wpList _ _ _ ({ dst := _, op := Op.load 32 (Operand.tmp 4), type := _, pos := _, after := _, guard := _ } :: _) _ _
       refine load_g (by rfl) 32 _ rfl _ _ rfl _ _ RN4.out hdu hdr (infoC' y) ?_)
    | (show wpList _ _ _ ({ dst := _, op := Op.load 32 (Operand.tmp 3), type := _, pos := _, after := _, guard := _ } :: _) _ _
       refine load_g (by rfl) 32 _ rfl _ _ rfl _ _ RN3.out hdu hdr (infoC' x) ?_))
  refine (HAL.out _ HS.out.g).mono ?_
  rintro e w11_ ⟨rfl, g_⟩
  clear RN11 RN10 RN8 RN7 RN4 RN3
  replace HS := Keep.mk (HS.out.grown g_)
  clear g_
  have RN11 := Keep.mk (HS.out.boxGet k0m).range
  have RN10 := Keep.mk (HS.out.boxGet k1m).range
  have RN8 := Keep.mk (HS.out.boxGet k2m).range
  have RN7 := Keep.mk (HS.out.boxGet k3m).range
  have RN4 := Keep.mk (HS.out.boxGet k4m).range
  have RN3 := Keep.mk (HS.out.boxGet k5m).range
  have qx4 : w11_.cell? ⟨xb, 4, none⟩ = some (iv x.sx) := (HS.out.boxGet k5m).cellv 4 _ rfl
  have qx5 : w11_.cell? ⟨xb, 5, none⟩ = some (iv x.sy) := (HS.out.boxGet k5m).cellv 5 _ rfl
  have y12_ : w11_.cell? ⟨ab, 5, none⟩ = some (iv a.sy) := (HS.out.boxGet k3m).cellv 5 _ rfl
  have f12_ : w11_.frozen? ⟨ab, 5, none⟩ = false := (HS.out.boxGet k3m).frozen 5
  have y13_ : w11_.cell? ⟨ab, 4, none⟩ = some (iv a.sx) := (HS.out.boxGet k3m).cellv 4 _ rfl
  have f13_ : w11_.frozen? ⟨ab, 4, none⟩ = false := (HS.out.boxGet k3m).frozen 4
  have S_ := (fr1 [boxA fb (crv y) 32, boxA eb (crv x) 32, boxA bb (crv b) 32] HS.out).boxPut 4 (iv x.sx)
  obtain ⟨w13_, hw13_⟩ : ∃ W_, w11_.setCell ⟨ab, 4, none⟩ (iv x.sx) = W_ := ⟨_, rfl⟩
  rw [hw13_] at S_
  clear RN11 RN10 RN8 RN7 RN4 RN3
  change Sep w w13_ [boxA ab (crv { a with sx := x.sx }) 32, boxA fb (crv y) 32, boxA eb (crv x) 32, boxA bb (crv b) 32, boxA yb (crv y) 32, boxA xb (crv x) 32] at S_
  replace HS := Keep.mk S_
  clear S_
  have y14_ : w13_.cell? ⟨ab, 5, none⟩ = some (iv a.sy) := (HS.out.boxGet k0m).cellv 5 _ rfl
  have f14_ : w13_.frozen? ⟨ab, 5, none⟩ = false := (HS.out.boxGet k0m).frozen 5
  have S_ := (fr1 [] HS.out).boxPut 5 (iv x.sy)
  obtain ⟨w14_, hw14_⟩ : ∃ W_, w13_.setCell ⟨ab, 5, none⟩ (iv x.sy) = W_ := ⟨_, rfl⟩
  rw [hw14_] at S_
  change Sep w w14_ [boxA ab (crv { a with sx := x.sx, sy := x.sy }) 32, boxA fb (crv y) 32, boxA eb (crv x) 32, boxA bb (crv b) 32, boxA yb (crv y) 32, boxA xb (crv x) 32] at S_
  replace HS := Keep.mk S_
  clear S_
  rw [HEA.out] at HS
  have qy4 : w14_.cell? ⟨yb, 4, none⟩ = some (iv y.sx) := (HS.out.boxGet k4m).cellv 4 _ rfl
  have qy5 : w14_.cell? ⟨yb, 5, none⟩ = some (iv y.sy) := (HS.out.boxGet k4m).cellv 5 _ rfl
  have y15_ : w14_.cell? ⟨bb, 5, none⟩ = some (iv b.sy) := (HS.out.boxGet k3m).cellv 5 _ rfl
  have f15_ : w14_.frozen? ⟨bb, 5, none⟩ = false := (HS.out.boxGet k3m).frozen 5
  have y16_ : w14_.cell? ⟨bb, 4, none⟩ = some (iv b.sx) := (HS.out.boxGet k3m).cellv 4 _ rfl
  have f16_ : w14_.frozen? ⟨bb, 4, none⟩ = false := (HS.out.boxGet k3m).frozen 4
  have S_ := (fr1 [boxA ab (crv x) 32, boxA fb (crv y) 32, boxA eb (crv x) 32] HS.out).boxPut 4 (iv y.sx)
  obtain ⟨w16_, hw16_⟩ : ∃ W_, w14_.setCell ⟨bb, 4, none⟩ (iv y.sx) = W_ := ⟨_, rfl⟩
  rw [hw16_] at S_
  change Sep w w16_ [boxA bb (crv { b with sx := y.sx }) 32, boxA ab (crv x) 32, boxA fb (crv y) 32, boxA eb (crv x) 32, boxA yb (crv y) 32, boxA xb (crv x) 32] at S_
  replace HS := Keep.mk S_
  clear S_
  have y17_ : w16_.cell? ⟨bb, 5, none⟩ = some (iv b.sy) := (HS.out.boxGet k0m).cellv 5 _ rfl
  have f17_ : w16_.frozen? ⟨bb, 5, none⟩ = false := (HS.out.boxGet k0m).frozen 5
  have S_ := (fr1 [] HS.out).boxPut 5 (iv y.sy)
  obtain ⟨w17_, hw17_⟩ : ∃ W_, w16_.setCell ⟨bb, 5, none⟩ (iv y.sy) = W_ := ⟨_, rfl⟩
  rw [hw17_] at S_
  change Sep w w17_ [boxA bb (crv { b with sx := y.sx, sy := y.sy }) 32, boxA ab (crv x) 32, boxA fb (crv y) 32, boxA eb (crv x) 32, boxA yb (crv y) 32, boxA xb (crv x) 32] at S_
  replace HS := Keep.mk S_
  clear S_
  rw [HEB.out] at HS
  have RN8 := Keep.mk (HS.out.boxGet k0m).range
  have RN7 := Keep.mk (HS.out.boxGet k1m).range
  have RN11 := Keep.mk (HS.out.boxGet k2m).range
  have RN10 := Keep.mk (HS.out.boxGet k3m).range
  have RN4 := Keep.mk (HS.out.boxGet k4m).range
  have RN3 := Keep.mk (HS.out.boxGet k5m).range
  go_upto_region 7 with fail
  go_cut [73] (fun sv wx => sv = .bool false ∧ Keep (Sep w wx [boxA bb (crv y) 32, boxA ab (crv x) 32, boxA fb (crv y) 32, boxA eb (crv x) 32, boxA yb (crv y) 32, boxA xb (crv x) 32]))
  case first =>
    have qx11 : w17_.cell? ⟨xb, 11, none⟩ = some (iv x.wa) := (HS.out.boxGet k5m).cellv 11 _ rfl
    have qy11 : w17_.cell? ⟨yb, 11, none⟩ = some (iv y.wa) := (HS.out.boxGet k4m).cellv 11 _ rfl
    cases r
    · go_wp2_with (first
        | (show wpList _ _ _ ({ dst := _, op := Op.load 32 (Operand.tmp 8), type := _, pos := _, after := _, guard := _ } :: _) _ _
           refine load_g (by rfl) 32 _ rfl _ _ rfl _ _ RN8.out hdu hdr (infoC' y) ?_)
        | (show wpList _ _ _ ({ dst := _, op := Op.load 32 (Operand.tmp 7), type := _, pos := _, after := _, guard := _ } :: _) _ _
           refine load_g (by rfl) 32 _ rfl _ _ rfl _ _ RN7.out hdu hdr (infoC' x) ?_)
        | (show wpList _ _ _ ({ dst := _, op := Op.load 32 (Operand.tmp 4), type := _, pos := _, after := _, guard := _ } :: _) _ _
           refine load_g (by rfl) 32 _ rfl _ _ rfl _ _ RN4.out hdu hdr (infoC' y) ?_
           go_wp2_with fail
           go_meet
           exact ⟨rfl, HS⟩)
        | (show wpList _ _ _ ({ dst := _, op := Op.load 32 (Operand.tmp 3), type := _, pos := _, after := _, guard := _ } :: _) _ _
           refine load_g (by rfl) 32 _ rfl _ _ rfl _ _ RN3.out hdu hdr (infoC' x) ?_))
    · have d1 : decide (0 < x.wa) = false := decide_eq_false (Int.not_lt.2 (HWA.out rfl).1)
      have d2 : decide (0 < y.wa) = false := decide_eq_false (Int.not_lt.2 (HWA.out rfl).2)
      go_wp2_with (first
        | (show wpList _ _ _ ({ dst := _, op := Op.load 32 (Operand.tmp 8), type := _, pos := _, after := _, guard := _ } :: _) _ _
           refine load_g (by rfl) 32 _ rfl _ _ rfl _ _ RN8.out hdu hdr (infoC' y) ?_)
        | (show wpList _ _ _ ({ dst := _, op := Op.load 32 (Operand.tmp 7), type := _, pos := _, after := _, guard := _ } :: _) _ _
           refine load_g (by rfl) 32 _ rfl _ _ rfl _ _ RN7.out hdu hdr (infoC' x) ?_)
        | (show wpList _ _ _ ({ dst := _, op := Op.load 32 (Operand.tmp 4), type := _, pos := _, after := _, guard := _ } :: _) _ _
           refine load_g (by rfl) 32 _ rfl _ _ rfl _ _ RN4.out hdu hdr (infoC' y) ?_
           go_wp2_with fail
           go_meet
           exact ⟨rfl, HS⟩)
        | (show wpList _ _ _ ({ dst := _, op := Op.load 32 (Operand.tmp 3), type := _, pos := _, after := _, guard := _ } :: _) _ _
           refine load_g (by rfl) 32 _ rfl _ _ rfl _ _ RN3.out hdu hdr (infoC' x) ?_))
  case rest =>
  clear RN8 RN7 RN11 RN10 RN4 RN3
  replace HS := hcut.2
  replace hcut := hcut.1
  subst hcut
  go_upto_if 77 with fail
  go_cut [13] (fun sv wx => sv = iv n ∧ Keep (Sep w wx [boxA bb (crv y) 32, boxA ab (crv x) 32, boxA fb (crv y) 32, boxA eb (crv x) 32, boxA yb (crv y) 32, boxA xb (crv x) 32]))
  case first =>
    rcases HNN.out with ⟨d1, d2, d3⟩ | ⟨d1, d2, d3⟩
    · have d4 : t < 0 := d1
      go_wp2_with fail
      go_meet
      exact ⟨by first | rfl | rw [d3], HS⟩
    · have d4 : ¬ t < 0 := Int.not_lt.2 d1
      go_wp2_with fail
      go_meet
      exact ⟨by first | rfl | rw [d3], HS⟩
  case rest =>
  replace HS := hcut.2
  replace hcut := hcut.1
  subst hcut
  rename World => w9
  have RN8 := Keep.mk (HS.out.boxGet k0m).range
  have RN7 := Keep.mk (HS.out.boxGet k1m).range
  have RN11 := Keep.mk (HS.out.boxGet k2m).range
  have RN10 := Keep.mk (HS.out.boxGet k3m).range
  have RN4 := Keep.mk (HS.out.boxGet k4m).range
  have RN3 := Keep.mk (HS.out.boxGet k5m).range
  have RO3 := RN3
  clear RN8 RN7 RN11 RN10 RN4 RN3
  have S_ := HS.out.newBox zC14.toArray 32
  obtain ⟨w18_, hw18_⟩ : ∃ W_, w9.alloc (.cells zC14.toArray 32) = W_ := ⟨_, rfl⟩
  obtain ⟨zb, hzb⟩ : ∃ b_, w9.heap.size = b_ := ⟨_, rfl⟩
  rw [hw18_, hzb] at S_
  unfold zC14 crv zC at hw18_
  change w9.alloc _ = w18_ at hw18_
  change Sep w w18_ [boxA zb zC14 32, boxA bb (crv y) 32, boxA ab (crv x) 32, boxA fb (crv y) 32, boxA eb (crv x) 32, boxA yb (crv y) 32, boxA xb (crv x) 32] at S_
  replace HS := Keep.mk S_
  clear S_
  have RN8 := Keep.mk (HS.out.boxGet k1m).range
  have RN7 := Keep.mk (HS.out.boxGet k2m).range
  have RN11 := Keep.mk (HS.out.boxGet k3m).range
  have RN10 := Keep.mk (HS.out.boxGet k4m).range
  have RN4 := Keep.mk (HS.out.boxGet k5m).range
  have RN3 := Keep.mk (HS.out.boxGet k6m).range
  have HX_ := Keep.mk (HS.out.boxGet k0m)
  have HO_ := Keep.mk (crv_one x)
  go_wp2_with (first
    | (show wpList _ _ _ ({ dst := _, op := Op.load 32 (Operand.tmp 3), type := _, pos := _, after := _, guard := _ } :: _) _ _
       refine load_g (by rfl) 32 _ rfl _ _ rfl _ _ RO3.out hdu hdr (infoC' x) ?_)
    | (show wpList _ _ _ ({ dst := _, op := Op.store 32 (Operand.tmp 14) _, type := _, pos := _, after := _, guard := _ } :: _) _ _
       refine store_at _ zb 0 zC14 (crv x) 32 32 rfl rfl rfl rfl HX_.out (Nat.le_refl _) (infoC' x) HO_.out ?_))
  skip
  intro w19_ hS_ g_
  have S_ := hS_ _ _ (fr1 [] HS.out)
  rw [over_all zC14 (crv x) rfl] at S_
  clear RN8 RN7 RN11 RN10 RN4 RN3
  change Sep w w19_ [boxA zb (crv x) 32, boxA bb (crv y) 32, boxA ab (crv x) 32, boxA fb (crv y) 32, boxA eb (crv x) 32, boxA yb (crv y) 32, boxA xb (crv x) 32] at S_
  replace HS := Keep.mk S_
  clear S_ hS_ g_ HX_ HO_
  have RN14 := Keep.mk (HS.out.boxGet k0m).range
  have RN8 := Keep.mk (HS.out.boxGet k1m).range
  have RN7 := Keep.mk (HS.out.boxGet k2m).range
  have RN11 := Keep.mk (HS.out.boxGet k3m).range
  have RN10 := Keep.mk (HS.out.boxGet k4m).range
  have RN4 := Keep.mk (HS.out.boxGet k5m).range
  have RN3 := Keep.mk (HS.out.boxGet k6m).range
  have y20_ : w19_.cell? ⟨zb, 11, none⟩ = some (iv x.wa) := (HS.out.boxGet k0m).cellv 11 _ rfl
  have f20_ : w19_.frozen? ⟨zb, 11, none⟩ = false := (HS.out.boxGet k0m).frozen 11
  have S_ := (fr1 [] HS.out).boxPut 11 (iv 0)
  obtain ⟨w20_, hw20_⟩ : ∃ W_, w19_.setCell ⟨zb, 11, none⟩ (iv 0) = W_ := ⟨_, rfl⟩
  rw [hw20_] at S_
  clear RN14 RN8 RN7 RN11 RN10 RN4 RN3
  change Sep w w20_ [boxA zb (crv { x with wa := 0 }) 32, boxA bb (crv y) 32, boxA ab (crv x) 32, boxA fb (crv y) 32, boxA eb (crv x) 32, boxA yb (crv y) 32, boxA xb (crv x) 32] at S_
  replace HS := Keep.mk S_
  clear S_
  have y21_ : w20_.cell? ⟨zb, 7, none⟩ = some (iv x.he) := (HS.out.boxGet k0m).cellv 7 _ rfl
  have f21_ : w20_.frozen? ⟨zb, 7, none⟩ = false := (HS.out.boxGet k0m).frozen 7
  have S_ := (fr1 [] HS.out).boxPut 7 (iv 2000)
  obtain ⟨w21_, hw21_⟩ : ∃ W_, w20_.setCell ⟨zb, 7, none⟩ (iv 2000) = W_ := ⟨_, rfl⟩
  rw [hw21_] at S_
  change Sep w w21_ [boxA zb (crv { x with wa := 0, he := 2000 }) 32, boxA bb (crv y) 32, boxA ab (crv x) 32, boxA fb (crv y) 32, boxA eb (crv x) 32, boxA yb (crv y) 32, boxA xb (crv x) 32] at S_
  replace HS := Keep.mk S_
  clear S_
  rw [HEZ.out] at HS
  have RN14 := Keep.mk (HS.out.boxGet k0m).range
  have RN8 := Keep.mk (HS.out.boxGet k1m).range
  have RN7 := Keep.mk (HS.out.boxGet k2m).range
  have RN11 := Keep.mk (HS.out.boxGet k3m).range
  have RN10 := Keep.mk (HS.out.boxGet k4m).range
  have RN4 := Keep.mk (HS.out.boxGet k5m).range
  have RN3 := Keep.mk (HS.out.boxGet k6m).range
  go_wp2_with (first
    | (show wpList _ _ _ ({ dst := _, op := Op.load 32 (Operand.tmp 14), type := _, pos := _, after := _, guard := _ } :: _) _ _
       refine load_g (by rfl) 32 _ rfl _ _ rfl _ _ RN14.out hdu hdr (infoC' z) ?_)
    | (show wpList _ _ _ ({ dst := _, op := Op.load 32 (Operand.tmp 8), type := _, pos := _, after := _, guard := _ } :: _) _ _
       refine load_g (by rfl) 32 _ rfl _ _ rfl _ _ RN8.out hdu hdr (infoC' y) ?_)
    | (show wpList _ _ _ ({ dst := _, op := Op.load 32 (Operand.tmp 7), type := _, pos := _, after := _, guard := _ } :: _) _ _
       refine load_g (by rfl) 32 _ rfl _ _ rfl _ _ RN7.out hdu hdr (infoC' x) ?_)
    | (show wpList _ _ _ ({ dst := _, op := Op.load 32 (Operand.tmp 11), type := _, pos := _, after := _, guard := _ } :: _) _ _
       refine load_g (by rfl) 32 _ rfl _ _ rfl _ _ RN11.out hdu hdr (infoC' y) ?_)
    | (show wpList _ _ _ ({ dst := _, op := Op.load 32 (Operand.tmp 10), type := _, pos := _, after := _, guard := _ } :: _) _ _
       refine load_g (by rfl) 32 _ rfl _ _ rfl _ _ RN10.out hdu hdr (infoC' x) ?_)
    | (show wpList _ _ _ ({ dst := _, op := Op.load 32 (Operand.tmp 4), type := _, pos := _, after := _, guard := _ } :: _) _ _
       refine load_g (by rfl) 32 _ rfl _ _ rfl _ _ RN4.out hdu hdr (infoC' y) ?_)
    | (show wpList _ _ _ ({ dst := _, op := Op.load 32 (Operand.tmp 3), type := _, pos := _, after := _, guard := _ } :: _) _ _
       refine load_g (by rfl) 32 _ rfl _ _ rfl _ _ RN3.out hdu hdr (infoC' x) ?_))
  refine (HH1.out _).mono ?_
  rintro e w22_ ⟨rfl, g_⟩
  clear RN14 RN8 RN7 RN11 RN10 RN4 RN3
  replace HS := Keep.mk (HS.out.grown g_)
  clear g_
  have RN14 := Keep.mk (HS.out.boxGet k0m).range
  have RN8 := Keep.mk (HS.out.boxGet k1m).range
  have RN7 := Keep.mk (HS.out.boxGet k2m).range
  have RN11 := Keep.mk (HS.out.boxGet k3m).range
  have RN10 := Keep.mk (HS.out.boxGet k4m).range
  have RN4 := Keep.mk (HS.out.boxGet k5m).range
  have RN3 := Keep.mk (HS.out.boxGet k6m).range
  go_wp2_with (first
    | (show wpList _ _ _ ({ dst := _, op := Op.load 32 (Operand.tmp 14), type := _, pos := _, after := _, guard := _ } :: _) _ _
       refine load_g (by rfl) 32 _ rfl _ _ rfl _ _ RN14.out hdu hdr (infoC' z) ?_)
    | (show wpList _ _ _ ({ dst := _, op := Op.load 32 (Operand.tmp 8), type := _, pos := _, after := _, guard := _ } :: _) _ _
       refine load_g (by rfl) 32 _ rfl _ _ rfl _ _ RN8.out hdu hdr (infoC' y) ?_)
    | (show wpList _ _ _ ({ dst := _, op := Op.load 32 (Operand.tmp 7), type := _, pos := _, after := _, guard := _ } :: _) _ _
       refine load_g (by rfl) 32 _ rfl _ _ rfl _ _ RN7.out hdu hdr (infoC' x) ?_)
    | (show wpList _ _ _ ({ dst := _, op := Op.load 32 (Operand.tmp 11), type := _, pos := _, after := _, guard := _ } :: _) _ _
       refine load_g (by rfl) 32 _ rfl _ _ rfl _ _ RN11.out hdu hdr (infoC' y) ?_)
    | (show wpList _ _ _ ({ dst := _, op := Op.load 32 (Operand.tmp 10), type := _, pos := _, after := _, guard := _ } :: _) _ _
       refine load_g (by rfl) 32 _ rfl _ _ rfl _ _ RN10.out hdu hdr (infoC' x) ?_)
    | (show wpList _ _ _ ({ dst := _, op := Op.load 32 (Operand.tmp 4), type := _, pos := _, after := _, guard := _ } :: _) _ _
       refine load_g (by rfl) 32 _ rfl _ _ rfl _ _ RN4.out hdu hdr (infoC' y) ?_)
    | (show wpList _ _ _ ({ dst := _, op := Op.load 32 (Operand.tmp 3), type := _, pos := _, after := _, guard := _ } :: _) _ _
       refine load_g (by rfl) 32 _ rfl _ _ rfl _ _ RN3.out hdu hdr (infoC' x) ?_))
  refine (HH2.out _).mono ?_
  rintro e w23_ ⟨rfl, g_⟩
  clear RN14 RN8 RN7 RN11 RN10 RN4 RN3
  replace HS := Keep.mk (HS.out.grown g_)
  clear g_
  have RN14 := Keep.mk (HS.out.boxGet k0m).range
  have RN8 := Keep.mk (HS.out.boxGet k1m).range
  have RN7 := Keep.mk (HS.out.boxGet k2m).range
  have RN11 := Keep.mk (HS.out.boxGet k3m).range
  have RN10 := Keep.mk (HS.out.boxGet k4m).range
  have RN4 := Keep.mk (HS.out.boxGet k5m).range
  have RN3 := Keep.mk (HS.out.boxGet k6m).range
  have HX_ := Keep.mk (HS.out.boxGet k0m)
  have HO_ := Keep.mk (crv_one z1)
  go_wp2_with (first
    | (show wpList _ _ _ ({ dst := _, op := Op.load 32 (Operand.tmp 14), type := _, pos := _, after := _, guard := _ } :: _) _ _
       refine load_g (by rfl) 32 _ rfl _ _ rfl _ _ RN14.out hdu hdr (infoC' z) ?_)
    | (show wpList _ _ _ ({ dst := _, op := Op.load 32 (Operand.tmp 8), type := _, pos := _, after := _, guard := _ } :: _) _ _
       refine load_g (by rfl) 32 _ rfl _ _ rfl _ _ RN8.out hdu hdr (infoC' y) ?_)
    | (show wpList _ _ _ ({ dst := _, op := Op.load 32 (Operand.tmp 7), type := _, pos := _, after := _, guard := _ } :: _) _ _
       refine load_g (by rfl) 32 _ rfl _ _ rfl _ _ RN7.out hdu hdr (infoC' x) ?_)
    | (show wpList _ _ _ ({ dst := _, op := Op.load 32 (Operand.tmp 11), type := _, pos := _, after := _, guard := _ } :: _) _ _
       refine load_g (by rfl) 32 _ rfl _ _ rfl _ _ RN11.out hdu hdr (infoC' y) ?_)
    | (show wpList _ _ _ ({ dst := _, op := Op.load 32 (Operand.tmp 10), type := _, pos := _, after := _, guard := _ } :: _) _ _
       refine load_g (by rfl) 32 _ rfl _ _ rfl _ _ RN10.out hdu hdr (infoC' x) ?_)
    | (show wpList _ _ _ ({ dst := _, op := Op.load 32 (Operand.tmp 4), type := _, pos := _, after := _, guard := _ } :: _) _ _
       refine load_g (by rfl) 32 _ rfl _ _ rfl _ _ RN4.out hdu hdr (infoC' y) ?_)
    | (show wpList _ _ _ ({ dst := _, op := Op.load 32 (Operand.tmp 3), type := _, pos := _, after := _, guard := _ } :: _) _ _
       refine load_g (by rfl) 32 _ rfl _ _ rfl _ _ RN3.out hdu hdr (infoC' x) ?_)
    | (show wpList _ _ _ ({ dst := _, op := Op.store 32 (Operand.tmp 14) _, type := _, pos := _, after := _, guard := _ } :: _) _ _
       refine store_at _ zb 0 (crv z) (crv z1) 32 32 rfl rfl rfl rfl HX_.out (Nat.le_refl _) (infoC' z1) HO_.out ?_))
  intro w24_ hS_ g_
  have S_ := hS_ _ _ (fr1 [] HS.out)
  rw [over_all (crv z) (crv z1) rfl] at S_
  clear RN14 RN8 RN7 RN11 RN10 RN4 RN3
  change Sep w w24_ [boxA zb (crv z1) 32, boxA bb (crv y) 32, boxA ab (crv x) 32, boxA fb (crv y) 32, boxA eb (crv x) 32, boxA yb (crv y) 32, boxA xb (crv x) 32] at S_
  replace HS := Keep.mk S_
  clear S_ hS_ g_ HX_ HO_
  have RN14 := Keep.mk (HS.out.boxGet k0m).range
  have RN8 := Keep.mk (HS.out.boxGet k1m).range
  have RN7 := Keep.mk (HS.out.boxGet k2m).range
  have RN11 := Keep.mk (HS.out.boxGet k3m).range
  have RN10 := Keep.mk (HS.out.boxGet k4m).range
  have RN4 := Keep.mk (HS.out.boxGet k5m).range
  have RN3 := Keep.mk (HS.out.boxGet k6m).range
  have qz7 : w24_.cell? ⟨zb, 7, none⟩ = some (iv (2000 - n)) := HZ1.out.1 ▸ (HS.out.boxGet k0m).cellv 7 _ rfl
  have qz11 : w24_.cell? ⟨zb, 11, none⟩ = some (iv 0) := HZ1.out.2 ▸ (HS.out.boxGet k0m).cellv 11 _ rfl
  go_wp2_with (first
    | (show wpList _ _ _ ({ dst := _, op := Op.load 32 (Operand.tmp 14), type := _, pos := _, after := _, guard := _ } :: _) _ _
       refine load_g (by rfl) 32 _ rfl _ _ rfl _ _ RN14.out hdu hdr (infoC' z1) ?_)
    | (show wpList _ _ _ ({ dst := _, op := Op.load 32 (Operand.tmp 8), type := _, pos := _, after := _, guard := _ } :: _) _ _
       refine load_g (by rfl) 32 _ rfl _ _ rfl _ _ RN8.out hdu hdr (infoC' y) ?_)
    | (show wpList _ _ _ ({ dst := _, op := Op.load 32 (Operand.tmp 7), type := _, pos := _, after := _, guard := _ } :: _) _ _
       refine load_g (by rfl) 32 _ rfl _ _ rfl _ _ RN7.out hdu hdr (infoC' x) ?_)
    | (show wpList _ _ _ ({ dst := _, op := Op.load 32 (Operand.tmp 11), type := _, pos := _, after := _, guard := _ } :: _) _ _
       refine load_g (by rfl) 32 _ rfl _ _ rfl _ _ RN11.out hdu hdr (infoC' y) ?_)
    | (show wpList _ _ _ ({ dst := _, op := Op.load 32 (Operand.tmp 10), type := _, pos := _, after := _, guard := _ } :: _) _ _
       refine load_g (by rfl) 32 _ rfl _ _ rfl _ _ RN10.out hdu hdr (infoC' x) ?_)
    | (show wpList _ _ _ ({ dst := _, op := Op.load 32 (Operand.tmp 4), type := _, pos := _, after := _, guard := _ } :: _) _ _
       refine load_g (by rfl) 32 _ rfl _ _ rfl _ _ RN4.out hdu hdr (infoC' y) ?_)
    | (show wpList _ _ _ ({ dst := _, op := Op.load 32 (Operand.tmp 3), type := _, pos := _, after := _, guard := _ } :: _) _ _
       refine load_g (by rfl) 32 _ rfl _ _ rfl _ _ RN3.out hdu hdr (infoC' x) ?_))
  refine (HH3.out _).mono ?_
  rintro e w25_ ⟨rfl, g_⟩
  clear RN14 RN8 RN7 RN11 RN10 RN4 RN3
  replace HS := Keep.mk (HS.out.grown g_)
  clear g_
  have RN14 := Keep.mk (HS.out.boxGet k0m).range
  have RN8 := Keep.mk (HS.out.boxGet k1m).range
  have RN7 := Keep.mk (HS.out.boxGet k2m).range
  have RN11 := Keep.mk (HS.out.boxGet k3m).range
  have RN10 := Keep.mk (HS.out.boxGet k4m).range
  have RN4 := Keep.mk (HS.out.boxGet k5m).range
  have RN3 := Keep.mk (HS.out.boxGet k6m).range
  go_wp2_with (first
    | (show wpList _ _ _ ({ dst := _, op := Op.load 32 (Operand.tmp 14), type := _, pos := _, after := _, guard := _ } :: _) _ _
       refine load_g (by rfl) 32 _ rfl _ _ rfl _ _ RN14.out hdu hdr (infoC' z1) ?_)
    | (show wpList _ _ _ ({ dst := _, op := Op.load 32 (Operand.tmp 8), type := _, pos := _, after := _, guard := _ } :: _) _ _
       refine load_g (by rfl) 32 _ rfl _ _ rfl _ _ RN8.out hdu hdr (infoC' y) ?_)
    | (show wpList _ _ _ ({ dst := _, op := Op.load 32 (Operand.tmp 7), type := _, pos := _, after := _, guard := _ } :: _) _ _
       refine load_g (by rfl) 32 _ rfl _ _ rfl _ _ RN7.out hdu hdr (infoC' x) ?_)
    | (show wpList _ _ _ ({ dst := _, op := Op.load 32 (Operand.tmp 11), type := _, pos := _, after := _, guard := _ } :: _) _ _
       refine load_g (by rfl) 32 _ rfl _ _ rfl _ _ RN11.out hdu hdr (infoC' y) ?_)
    | (show wpList _ _ _ ({ dst := _, op := Op.load 32 (Operand.tmp 10), type := _, pos := _, after := _, guard := _ } :: _) _ _
       refine load_g (by rfl) 32 _ rfl _ _ rfl _ _ RN10.out hdu hdr (infoC' x) ?_)
    | (show wpList _ _ _ ({ dst := _, op := Op.load 32 (Operand.tmp 4), type := _, pos := _, after := _, guard := _ } :: _) _ _
       refine load_g (by rfl) 32 _ rfl _ _ rfl _ _ RN4.out hdu hdr (infoC' y) ?_)
    | (show wpList _ _ _ ({ dst := _, op := Op.load 32 (Operand.tmp 3), type := _, pos := _, after := _, guard := _ } :: _) _ _
       refine load_g (by rfl) 32 _ rfl _ _ rfl _ _ RN3.out hdu hdr (infoC' x) ?_))
  refine (HH4.out _).mono ?_
  rintro e w26_ ⟨rfl, g_⟩
  clear RN14 RN8 RN7 RN11 RN10 RN4 RN3
  replace HS := Keep.mk (HS.out.grown g_)
  clear g_
  have RN14 := Keep.mk (HS.out.boxGet k0m).range
  have RN8 := Keep.mk (HS.out.boxGet k1m).range
  have RN7 := Keep.mk (HS.out.boxGet k2m).range
  have RN11 := Keep.mk (HS.out.boxGet k3m).range
  have RN10 := Keep.mk (HS.out.boxGet k4m).range
  have RN4 := Keep.mk (HS.out.boxGet k5m).range
  have RN3 := Keep.mk (HS.out.boxGet k6m).range
  go_wp2_with (first
    | (show wpList _ _ _ ({ dst := _, op := Op.load 32 (Operand.tmp 14), type := _, pos := _, after := _, guard := _ } :: _) _ _
       refine load_g (by rfl) 32 _ rfl _ _ rfl _ _ RN14.out hdu hdr (infoC' z1) ?_)
    | (show wpList _ _ _ ({ dst := _, op := Op.load 32 (Operand.tmp 8), type := _, pos := _, after := _, guard := _ } :: _) _ _
       refine load_g (by rfl) 32 _ rfl _ _ rfl _ _ RN8.out hdu hdr (infoC' y) ?_)
    | (show wpList _ _ _ ({ dst := _, op := Op.load 32 (Operand.tmp 7), type := _, pos := _, after := _, guard := _ } :: _) _ _
       refine load_g (by rfl) 32 _ rfl _ _ rfl _ _ RN7.out hdu hdr (infoC' x) ?_)
    | (show wpList _ _ _ ({ dst := _, op := Op.load 32 (Operand.tmp 11), type := _, pos := _, after := _, guard := _ } :: _) _ _
       refine load_g (by rfl) 32 _ rfl _ _ rfl _ _ RN11.out hdu hdr (infoC' y) ?_)
    | (show wpList _ _ _ ({ dst := _, op := Op.load 32 (Operand.tmp 10), type := _, pos := _, after := _, guard := _ } :: _) _ _
       refine load_g (by rfl) 32 _ rfl _ _ rfl _ _ RN10.out hdu hdr (infoC' x) ?_)
    | (show wpList _ _ _ ({ dst := _, op := Op.load 32 (Operand.tmp 4), type := _, pos := _, after := _, guard := _ } :: _) _ _
       refine load_g (by rfl) 32 _ rfl _ _ rfl _ _ RN4.out hdu hdr (infoC' y) ?_)
    | (show wpList _ _ _ ({ dst := _, op := Op.load 32 (Operand.tmp 3), type := _, pos := _, after := _, guard := _ } :: _) _ _
       refine load_g (by rfl) 32 _ rfl _ _ rfl _ _ RN3.out hdu hdr (infoC' x) ?_))
  refine (HH5.out _).mono ?_
  rintro e w27_ ⟨rfl, g_⟩
  clear RN14 RN8 RN7 RN11 RN10 RN4 RN3
  replace HS := Keep.mk (HS.out.grown g_)
  clear g_
  have RN14 := Keep.mk (HS.out.boxGet k0m).range
  have RN8 := Keep.mk (HS.out.boxGet k1m).range
  have RN7 := Keep.mk (HS.out.boxGet k2m).range
  have RN11 := Keep.mk (HS.out.boxGet k3m).range
  have RN10 := Keep.mk (HS.out.boxGet k4m).range
  have RN4 := Keep.mk (HS.out.boxGet k5m).range
  have RN3 := Keep.mk (HS.out.boxGet k6m).range
  clear RN14 RN8 RN7 RN11 RN10 RN4 RN3
  have S_ := HS.out.newBox zC14.toArray 32
  obtain ⟨w28_, hw28_⟩ : ∃ W_, w27_.alloc (.cells zC14.toArray 32) = W_ := ⟨_, rfl⟩
  obtain ⟨vb, hvb⟩ : ∃ b_, w27_.heap.size = b_ := ⟨_, rfl⟩
  rw [hw28_, hvb] at S_
  unfold zC14 crv zC at hw28_
  change w27_.alloc _ = w28_ at hw28_
  change Sep w w28_ [boxA vb zC14 32, boxA zb (crv z1) 32, boxA bb (crv y) 32, boxA ab (crv x) 32, boxA fb (crv y) 32, boxA eb (crv x) 32, boxA yb (crv y) 32, boxA xb (crv x) 32] at S_
  replace HS := Keep.mk S_
  clear S_
  have RN14 := Keep.mk (HS.out.boxGet k1m).range
  have RN8 := Keep.mk (HS.out.boxGet k2m).range
  have RN7 := Keep.mk (HS.out.boxGet k3m).range
  have RN11 := Keep.mk (HS.out.boxGet k4m).range
  have RN10 := Keep.mk (HS.out.boxGet k5m).range
  have RN4 := Keep.mk (HS.out.boxGet k6m).range
  have RN3 := Keep.mk (HS.out.boxGet k7m).range
  have HX_ := Keep.mk (HS.out.boxGet k0m)
  have HO_ := Keep.mk (crv_one wr)
  go_wp2_with (first
    | (show wpList _ _ _ ({ dst := _, op := Op.load 32 (Operand.tmp 14), type := _, pos := _, after := _, guard := _ } :: _) _ _
       refine load_g (by rfl) 32 _ rfl _ _ rfl _ _ RN14.out hdu hdr (infoC' z1) ?_)
    | (show wpList _ _ _ ({ dst := _, op := Op.load 32 (Operand.tmp 8), type := _, pos := _, after := _, guard := _ } :: _) _ _
       refine load_g (by rfl) 32 _ rfl _ _ rfl _ _ RN8.out hdu hdr (infoC' y) ?_)
    | (show wpList _ _ _ ({ dst := _, op := Op.load 32 (Operand.tmp 7), type := _, pos := _, after := _, guard := _ } :: _) _ _
       refine load_g (by rfl) 32 _ rfl _ _ rfl _ _ RN7.out hdu hdr (infoC' x) ?_)
    | (show wpList _ _ _ ({ dst := _, op := Op.load 32 (Operand.tmp 11), type := _, pos := _, after := _, guard := _ } :: _) _ _
       refine load_g (by rfl) 32 _ rfl _ _ rfl _ _ RN11.out hdu hdr (infoC' y) ?_)
    | (show wpList _ _ _ ({ dst := _, op := Op.load 32 (Operand.tmp 10), type := _, pos := _, after := _, guard := _ } :: _) _ _
       refine load_g (by rfl) 32 _ rfl _ _ rfl _ _ RN10.out hdu hdr (infoC' x) ?_)
    | (show wpList _ _ _ ({ dst := _, op := Op.load 32 (Operand.tmp 4), type := _, pos := _, after := _, guard := _ } :: _) _ _
       refine load_g (by rfl) 32 _ rfl _ _ rfl _ _ RN4.out hdu hdr (infoC' y) ?_)
    | (show wpList _ _ _ ({ dst := _, op := Op.load 32 (Operand.tmp 3), type := _, pos := _, after := _, guard := _ } :: _) _ _
       refine load_g (by rfl) 32 _ rfl _ _ rfl _ _ RN3.out hdu hdr (infoC' x) ?_)
    | (show wpList _ _ _ ({ dst := _, op := Op.store 32 (Operand.tmp 15) _, type := _, pos := _, after := _, guard := _ } :: _) _ _
       refine store_at _ vb 0 zC14 (crv wr) 32 32 rfl rfl rfl rfl HX_.out (Nat.le_refl _) (infoC' wr) HO_.out ?_))
  intro w29_ hS_ g_
  have S_ := hS_ _ _ (fr1 [] HS.out)
  rw [over_all zC14 (crv wr) rfl] at S_
  clear RN14 RN8 RN7 RN11 RN10 RN4 RN3
  change Sep w w29_ [boxA vb (crv wr) 32, boxA zb (crv z1) 32, boxA bb (crv y) 32, boxA ab (crv x) 32, boxA fb (crv y) 32, boxA eb (crv x) 32, boxA yb (crv y) 32, boxA xb (crv x) 32] at S_
  replace HS := Keep.mk S_
  clear S_ hS_ g_ HX_ HO_
  have RN15 := Keep.mk (HS.out.boxGet k0m).range
  have RN14 := Keep.mk (HS.out.boxGet k1m).range
  have RN8 := Keep.mk (HS.out.boxGet k2m).range
  have RN7 := Keep.mk (HS.out.boxGet k3m).range
  have RN11 := Keep.mk (HS.out.boxGet k4m).range
  have RN10 := Keep.mk (HS.out.boxGet k5m).range
  have RN4 := Keep.mk (HS.out.boxGet k6m).range
  have RN3 := Keep.mk (HS.out.boxGet k7m).range
  have HB := HS
  go_wp2_with fail
  refine region_X (S := fun w' => Sep w w' [boxA vb (crv wr) 32, boxA zb (crv z1) 32, boxA bb (crv y) 32, boxA ab (crv x) 32, boxA fb (crv y) 32, boxA eb (crv x) 32, boxA yb (crv y) 32, boxA xb (crv x) 32]) [] (by kernel_rfl) (HB.out.grown (gr_drew _ _)) (fun hHeld => ?_)
  replace HB := Keep.mk hHeld
  refine wpAnyX_take (i := 0) (oi := _) (v := ?_) rfl (by kernel_rfl) (by kernel_rfl) (by kernel_rfl) (by kernel_rfl) (by kernel_rfl) (fun _ _ _ h => h) (Or.inl ⟨by rfl, ?_⟩) (by assumption) ?_
  rotate_left
  · (intro w hSw; go_simp; first | done | (with_reducible rfl))
  simp only [Act.put, List.getElem_toArray, List.getElem_cons_zero, List.setIfInBounds_toArray, List.set_cons_zero, List.set_cons_succ]
  refine wpAnyX_take (i := 1) (oi := _) (v := ?_) rfl (by kernel_rfl) (by kernel_rfl) (by kernel_rfl) (by kernel_rfl) (by kernel_rfl) (fun _ _ _ h => h) (Or.inl ⟨by rfl, ?_⟩) (by assumption) ?_
  rotate_left
  · (intro w hSw; have q7 : w.cell? _ = some (iv 0) := HWR.out.1 ▸ (hSw.boxGet k0m).cellv 7 _ rfl; go_simp; first | done | (with_reducible rfl))
  simp only [Act.put, List.getElem_toArray, List.getElem_cons_succ, List.getElem_cons_zero, List.setIfInBounds_toArray, List.set_cons_zero, List.set_cons_succ]
  refine wpAnyX_take (i := 2) (oi := _) (v := ?_) rfl (by kernel_rfl) (by kernel_rfl) (by kernel_rfl) (by kernel_rfl) (by kernel_rfl) (fun _ _ _ h => h) (Or.inl ⟨by rfl, ?_⟩) (by assumption) ?_
  rotate_left
  · (intro w hSw; go_simp; first | done | (with_reducible rfl))
  simp only [Act.put, List.getElem_toArray, List.getElem_cons_succ, List.getElem_cons_zero, List.setIfInBounds_toArray, List.set_cons_zero, List.set_cons_succ]
  refine wpAnyX_take (i := 3) (oi := _) (v := ?_) rfl (by kernel_rfl) (by kernel_rfl) (by kernel_rfl) (by kernel_rfl) (by kernel_rfl) (fun _ _ _ h => h) (Or.inl ⟨by rfl, ?_⟩) (by assumption) ?_
  rotate_left
  · (intro w hSw; go_simp; first | done | (with_reducible rfl))
  simp only [Act.put, List.getElem_toArray, List.getElem_cons_succ, List.getElem_cons_zero, List.setIfInBounds_toArray, List.set_cons_zero, List.set_cons_succ]
  refine wpAnyX_take (i := 4) (oi := _) (v := ?_) rfl (by kernel_rfl) (by kernel_rfl) (by kernel_rfl) (by kernel_rfl) (by kernel_rfl) (fun _ _ _ h => h) (Or.inl ⟨by rfl, ?_⟩) (by assumption) ?_
  rotate_left
  · (intro w hSw; go_simp; first | done | (with_reducible rfl))
  simp only [Act.put, List.getElem_toArray, List.getElem_cons_succ, List.getElem_cons_zero, List.setIfInBounds_toArray, List.set_cons_zero, List.set_cons_succ]
  refine wpAnyX_take (i := 5) (oi := _) (v := ?_) rfl (by kernel_rfl) (by kernel_rfl) (by kernel_rfl) (by kernel_rfl) (by kernel_rfl) (fun _ _ _ h => h) (Or.inl ⟨by rfl, ?_⟩) (by assumption) ?_
  rotate_left
  · (intro w hSw; have q4 : w.cell? _ = some (iv 0) := HWR.out.2.1 ▸ (hSw.boxGet k0m).cellv 4 _ rfl; have q5 : w.cell? _ = some (iv 0) := HWR.out.2.2 ▸ (hSw.boxGet k0m).cellv 5 _ rfl; go_simp; first | done | (with_reducible rfl))
  simp only [Act.put, List.getElem_toArray, List.getElem_cons_succ, List.getElem_cons_zero, List.setIfInBounds_toArray, List.set_cons_zero, List.set_cons_succ]
  refine wpAnyX_take (i := 6) (oi := _) (v := .agg #[iv 0, iv 0]) rfl (by kernel_rfl) (by kernel_rfl) (by kernel_rfl) (by kernel_rfl) (by kernel_rfl) (fun _ _ _ h => h) (yieldsIf_build (by rfl) 30 _ rfl _ ?_) (by assumption) ?_
  · simp only [List.map_toArray, List.map_nil]
    exact built30z
  simp only [Act.put, List.getElem_toArray, List.getElem_cons_succ, List.getElem_cons_zero, List.setIfInBounds_toArray, List.set_cons_zero, List.set_cons_succ]
  refine wpAnyX_take (i := 7) (oi := _) (v := ?_) rfl (by kernel_rfl) (by kernel_rfl) (by kernel_rfl) (by kernel_rfl) (by kernel_rfl) (fun _ _ _ h => h) (Or.inl ⟨by rfl, ?_⟩) (by assumption) ?_
  rotate_left
  · (intro w hSw; have hE := eq30 9998 0 0 w; go_simp; first | done | (with_reducible rfl))
  simp only [Act.put, List.getElem_toArray, List.getElem_cons_succ, List.getElem_cons_zero, List.setIfInBounds_toArray, List.set_cons_zero, List.set_cons_succ]
  refine wpAnyX_take (i := 8) (oi := _) (v := ?_) rfl (by kernel_rfl) (by kernel_rfl) (by kernel_rfl) (by kernel_rfl) (by kernel_rfl) (fun _ _ _ h => h) (Or.inl ⟨by rfl, ?_⟩) (by assumption) ?_
  rotate_left
  · (intro w hSw; go_simp; first | done | (with_reducible rfl))
  simp only [Act.put, List.getElem_toArray, List.getElem_cons_succ, List.getElem_cons_zero, List.setIfInBounds_toArray, List.set_cons_zero, List.set_cons_succ]
  refine wpAnyX_take (i := 9) (oi := _) (v := ?_) rfl (by kernel_rfl) (by kernel_rfl) (by kernel_rfl) (by kernel_rfl) (by kernel_rfl) (fun _ _ _ h => h) (Or.inl ⟨by rfl, ?_⟩) (by assumption) ?_
  rotate_left
  · (intro w hSw; go_simp; first | done | (with_reducible rfl))
  simp only [Act.put, List.getElem_toArray, List.getElem_cons_succ, List.getElem_cons_zero, List.setIfInBounds_toArray, List.set_cons_zero, List.set_cons_succ]
  refine wpAnyX_take (i := 10) (oi := _) (v := _) rfl (by kernel_rfl) (by kernel_rfl) (by kernel_rfl) (by kernel_rfl) (by kernel_rfl) (fun _ _ _ h => h) (yieldsIf_load_mid (by rfl) 32 _ rfl _ _ rfl _ _ (fun w_ hS_ => (hS_.boxGet k0m).range) hdu hdr (infoC' wr)) (by assumption) ?_
  simp only [Act.put, List.getElem_toArray, List.getElem_cons_succ, List.getElem_cons_zero, List.setIfInBounds_toArray, List.set_cons_zero, List.set_cons_succ]
  refine wpAnyX_take (i := 12) (oi := _) (v := _) rfl (by kernel_rfl) (by kernel_rfl) (by kernel_rfl) (by kernel_rfl) (by kernel_rfl) (fun _ _ _ h => h) (yieldsIf_load_mid (by rfl) 32 _ rfl _ _ rfl _ _ (fun w_ hS_ => (hS_.boxGet k0m).range) hdu hdr (infoC' wr)) (by assumption) ?_
  simp only [Act.put, List.getElem_toArray, List.getElem_cons_succ, List.getElem_cons_zero, List.setIfInBounds_toArray, List.set_cons_zero, List.set_cons_succ]
  refine wpAnyX_one (i := 11) (by kernel_rfl) rfl (fun K hK => ?_)
  go_simp
  refine (HH6.out _).mono ?_
  rintro e wg ⟨rfl, hg⟩
  replace HB := Keep.mk (HB.out.grown hg)
  refine hK.out _ _ HB.out (fun hHeld => ?_)
  clear hK K hg
  refine wpAnyX_take (i := 13) (oi := _) (v := ?_) rfl (by kernel_rfl) (by kernel_rfl) (by kernel_rfl) (by kernel_rfl) (by kernel_rfl) (fun _ _ _ h => h) (Or.inl ⟨by rfl, ?_⟩) (by assumption) ?_
  rotate_left
  · (intro w hSw; have hE := eq32 wr w; go_simp; first | done | (with_reducible rfl))
  simp only [Act.put, List.getElem_toArray, List.getElem_cons_succ, List.getElem_cons_zero, List.setIfInBounds_toArray, List.set_cons_zero, List.set_cons_succ]
  refine wpAnyX_take (i := 14) (oi := _) (v := ?_) rfl (by kernel_rfl) (by kernel_rfl) (by kernel_rfl) (by kernel_rfl) (by kernel_rfl) (fun _ _ _ h => h) (Or.inl ⟨by rfl, ?_⟩) (by assumption) ?_
  rotate_left
  · (intro w hSw; go_simp; first | done | (with_reducible rfl))
  simp only [Act.put, List.getElem_toArray, List.getElem_cons_succ, List.getElem_cons_zero, List.setIfInBounds_toArray, List.set_cons_zero, List.set_cons_succ]
  refine wpAnyX_take (i := 15) (oi := _) (v := ?_) rfl (by kernel_rfl) (by kernel_rfl) (by kernel_rfl) (by kernel_rfl) (by kernel_rfl) (fun _ _ _ h => h) (Or.inl ⟨by rfl, ?_⟩) (by assumption) ?_
  rotate_left
  · (intro w hSw; go_simp; first | done | (with_reducible rfl))
  simp only [Act.put, List.getElem_toArray, List.getElem_cons_succ, List.getElem_cons_zero, List.setIfInBounds_toArray, List.set_cons_zero, List.set_cons_succ]
  refine wpAnyX_take (i := 16) (oi := _) (v := _) rfl (by kernel_rfl) (by kernel_rfl) (by kernel_rfl) (by kernel_rfl) (by kernel_rfl) (fun _ _ _ h => h) (yieldsIf_load_mid (by rfl) 32 _ rfl _ _ rfl _ _ (fun w_ hS_ => (hS_.boxGet k0m).range) hdu hdr (infoC' wr)) (by assumption) ?_
  simp only [Act.put, List.getElem_toArray, List.getElem_cons_succ, List.getElem_cons_zero, List.setIfInBounds_toArray, List.set_cons_zero, List.set_cons_succ]
  refine wpAnyX_take (i := 17) (oi := _) (v := _) rfl (by kernel_rfl) (by kernel_rfl) (by kernel_rfl) (by kernel_rfl) (by kernel_rfl) (fun _ _ _ h => h) (yieldsIf_load_mid (by rfl) 32 _ rfl _ _ rfl _ _ (fun w_ hS_ => (hS_.boxGet k7m).range) hdu hdr (infoC' x)) (by assumption) ?_
  simp only [Act.put, List.getElem_toArray, List.getElem_cons_succ, List.getElem_cons_zero, List.setIfInBounds_toArray, List.set_cons_zero, List.set_cons_succ]
  refine wpAnyX_one (i := 18) (by kernel_rfl) rfl (fun K hK => ?_)
  go_simp
  refine (HSM.out _).mono ?_
  rintro e wg ⟨rfl, hg⟩
  replace HB := Keep.mk (HB.out.grown hg)
  refine hK.out _ _ HB.out (fun hHeld => ?_)
  clear hK K hg
  refine wpAnyX_take (i := 19) (oi := _) (v := ?_) rfl (by kernel_rfl) (by kernel_rfl) (by kernel_rfl) (by kernel_rfl) (by kernel_rfl) (fun _ _ _ h => h) (Or.inl ⟨by rfl, ?_⟩) (by assumption) ?_
  rotate_left
  · (intro w hSw; go_simp; first | done | (with_reducible rfl))
  simp only [Act.put, List.getElem_toArray, List.getElem_cons_succ, List.getElem_cons_zero, List.setIfInBounds_toArray, List.set_cons_zero, List.set_cons_succ]
  refine wpAnyX_take (i := 20) (oi := _) (v := ?_) rfl (by kernel_rfl) (by kernel_rfl) (by kernel_rfl) (by kernel_rfl) (by kernel_rfl) (fun _ _ _ h => h) (Or.inl ⟨by rfl, ?_⟩) (by assumption) ?_
  rotate_left
  · (intro w hSw; go_simp; first | done | (with_reducible rfl))
  simp only [Act.put, List.getElem_toArray, List.getElem_cons_succ, List.getElem_cons_zero, List.setIfInBounds_toArray, List.set_cons_zero, List.set_cons_succ]
  refine wpAnyX_done (by kernel_rfl) ?_ _
  go_wp2_with fail
  go_ret
  exact ⟨rfl, HB.out.g⟩
end Go.Proofs.YtobdcngjpgndiaaDoor.Bo
