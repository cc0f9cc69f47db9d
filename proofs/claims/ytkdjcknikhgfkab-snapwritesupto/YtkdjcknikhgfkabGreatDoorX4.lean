import Derived.Test.YtkdjcknikhgfkabGreatDoorX3
namespace Go.Proofs.YtkdjcknikhgfkabGreatDoor
open Go Go.RowKit
set_option maxRecDepth 100000 in
theorem shaB_sl (s : ByteArray) : sl (shaB s) = Sha.sha (sl s) := sl_mk _
set_option maxRecDepth 100000 in
theorem shaB_size (s : ByteArray) : (shaB s).size = 32 := by
  rw [← sl_len, shaB, sl_mk (Sha.sha (sl s)), Mac.sha_len]
set_option maxRecDepth 100000 in
theorem hmac_eq (key text : ByteArray) (K : List UInt8) (ib ob : ByteArray) (hK : Mac.keyOf (sl key) = K) (hi : ByteArray.mk (Mac.kx 54 K).toArray = ib) (ho : ByteArray.mk (Mac.kx 92 K).toArray = ob) : shaB (ob ++ shaB (ib ++ text)) = hmacB key text := by
  subst hi ho hK
  apply sl_inj
  rw [hmacB_sl, shaB_sl, sl_app, shaB_sl, sl_app, sl_mk (Mac.kx 54 (Mac.keyOf (sl key))), sl_mk (Mac.kx 92 (Mac.keyOf (sl key))), Mac.hmac]

set_option maxRecDepth 100000 in
set_option maxHeartbeats 4000000 in

set_option maxRecDepth 100000 in
theorem some_nil (W : World) (ad : Addr) (n c : Nat) : ∀ B o, (some ⟨W.heap.size, 0, none⟩ : Option Addr) = some ⟨B, o, none⟩ → ∀ j a' n' c', j < 1 → (W.alloc (.cells #[.slice (some ad) n c] 73)).cell? ⟨B, o + j, none⟩ = some (.slice a' n' c') → a' = none → c' = 0 := by
  intro B o e j a' n' c' hj hc hn
  have e' : W.heap.size = B ∧ 0 = o := by simpa using e
  obtain ⟨rfl, rfl⟩ := e'
  obtain rfl : j = 0 := by omega
  rw [(Has.newA W #[.slice (some ad) n c] 73).cell] at hc
  have hc' : Value.slice (some ad) n c = Value.slice a' n' c' := by simpa using hc
  injection hc' with e1 e2 e3
  rw [hn] at e1
  cases e1

set_option maxRecDepth 100000 in
set_option maxHeartbeats 4000000 in
theorem rlsum_any (s : ByteArray) (w : World) (hk : RK w) (h3 : 4 ≤ w.heap.size) (hs : s.size ≤ 4294967296) :
    Calls Tryz.prog 65 #[.string s] w fun e w' => e = .returned (.string (shaB s)) ∧ w.grownBy w' none := by
  have HK : Keep (RK w) := ⟨hk⟩
  clear hk
  have hc1 := cvt s
  have HP : Keep (Parts ((Lib.bytesWorld w 5 s).alloc (.cells #[.slice (some ⟨w.heap.size, 0, none⟩) s.size (grownCap w s.size 0 5)] 73)) (some ⟨(Lib.bytesWorld w 5 s).heap.size, 0, none⟩) 1 [sl s] ∧ w.grownBy ((Lib.bytesWorld w 5 s).alloc (.cells #[.slice (some ⟨w.heap.size, 0, none⟩) s.size (grownCap w s.size 0 5)] 73)) none) :=
    ⟨parts_one _ _ _ _ _ (bytes_of w s _ (grownCap_ge w s.size 0 5)), (gr_bytes w s).trans (World.grownBy_alloc _ _ _)⟩
  have HL : Keep ([sl s].flatten = sl s ∧ (sl s).length ≤ 4294967296 ∧ (Sha.sha (sl s)).length = 32) := ⟨by simp, by rw [sl_len]; exact hs, Mac.sha_len _⟩
  go_enter Tryz.func65, Tryz.ntmps65
  go_wp2_with fail
  refine (rof_any _ 1 1 [sl s] _ HP.out.1 (some_nil _ _ _ _) (HK.out.kept HP.out.2) (Nat.le_trans h3 HP.out.2.size) (by decide) (by rw [HL.out.1]; exact HL.out.2.1)).mono ?_
  rintro e w1 ⟨rfl, g1⟩
  have H1 : Keep (w.grownBy w1 none) := ⟨HP.out.2.trans g1⟩
  rw [HL.out.1]
  have HS3 : Keep ((Sha.sha (sl s)).length = 32) := ⟨HL.out.2.2⟩
  generalize hs4 : Sha.sha (sl s) = S4 at HS3 ⊢
  have HS4 : Keep (Sha.sha (sl s) = S4) := ⟨hs4⟩
  clear g1 hs4 HP HL
  go_wp2_with (
    (refine wpList_store_mid rfl 158 _ _ rfl _ _ _ rfl rfl ((Has.newA w1 _ 158).there 0 _ (by rw [List.size_toArray, List.length_map, HS3.out]; decide)) (info36 S4 HS3.out) (bytes_one _) ?_
     generalize hw6 : World.setCells _ _ _ _ = w6
     obtain ⟨h6, g6⟩ := sumVar w1 _ rfl S4 HS3.out w6 hw6
     have hcv := str_back w6 w1.heap.size S4 HS3.out h6
     have H6 : Keep (w.grownBy w6 none) := ⟨H1.out.trans g6⟩
     clear h6 g6 hw6))
  go_ret
  exact ⟨by rw [shaB, HS4.out]; rfl, H6.out⟩

/-- where block's loop stands -/
structure BK (w0 w' : World) (b : Nat) (K : List UInt8) (x : UInt8) (i : Nat) : Prop where
  r : Has w' b ((Mac.kx x (K.take i) ++ List.replicate (64 - i) 0).map bv) 5
  g : w0.grownBy w' none
  hb : w0.heap.size ≤ b
set_option maxRecDepth 100000 in
theorem zero_set (K : List UInt8) (x y : UInt8) (i : Nat) (hi : i < 64) (hy : K[i]? = some y) : (Mac.kx x (K.take i) ++ List.replicate (64 - i) 0).set i (y ^^^ x) = Mac.kx x (K.take (i + 1)) ++ List.replicate (64 - (i + 1)) 0 := by
  obtain ⟨h1, e1⟩ := List.getElem?_eq_some_iff.1 hy
  have hl : (Mac.kx x (K.take i)).length = i := by rw [Mac.kx_len, List.length_take]; omega
  rw [List.set_append_right _ _ (by omega), hl, Nat.sub_self, show 64 - i = (64 - (i + 1)) + 1 by omega, List.replicate_succ, List.set_cons_zero, ← kx_snoc K x y i hy, List.append_assoc]
  rfl
set_option maxRecDepth 100000 in
theorem zero_at (K : List UInt8) (x : UInt8) (i : Nat) (hi : i < 64) (hK : i ≤ K.length) : (Mac.kx x (K.take i) ++ List.replicate (64 - i) 0)[i]? = some 0 := by
  have hl : (Mac.kx x (K.take i)).length = i := by rw [Mac.kx_len, List.length_take]; omega
  rw [List.getElem?_append_right (by omega), hl, Nat.sub_self, List.getElem?_replicate, if_pos (by omega)]
set_option maxRecDepth 100000 in
theorem BK.step {w0 w' : World} {b : Nat} {K : List UInt8} {x : UInt8} {i : Nat} (h : BK w0 w' b K x i) (hi : i < 64) (y : UInt8) (hy : K[i]? = some y) (v : UInt8) (hv : y ^^^ x = v) : BK w0 (w'.setCell ⟨b, i, none⟩ (.int .u8 v.toNat)) b K x (i + 1) := by
  have h2 := h.r.setCell i (bv v)
  rw [← List.map_set, ← hv, zero_set K x y i hi hy, hv] at h2
  exact ⟨h2, gr_new h.g (gr_set _ _ _ _) h.hb, h.hb⟩
set_option maxRecDepth 100000 in
theorem BK.step2 {w0 w' : World} {b : Nat} {K : List UInt8} {x : UInt8} {i : Nat} (h : BK w0 w' b K x i) (hi : i < 64) (y : UInt8) (hy : K[i]? = some y) (v : UInt8) (hv : y ^^^ x = v) : BK w0 ((w'.setCell ⟨b, i, none⟩ (.int .u8 y.toNat)).setCell ⟨b, i, none⟩ (.int .u8 v.toNat)) b K x (i + 1) := by
  have h2 := (h.r.setCell i (bv y)).setCell i (bv v)
  rw [List.set_set, ← List.map_set, ← hv, zero_set K x y i hi hy, hv] at h2
  exact ⟨h2, gr_new h.g ((gr_set _ _ _ _).trans (gr_set _ _ _ _)) h.hb, h.hb⟩

set_option maxRecDepth 100000 in
set_option maxHeartbeats 4000000 in
theorem block_any (key : ByteArray) (x : UInt8) (w : World) (hk : RK w) (h3 : 4 ≤ w.heap.size) (hs : key.size ≤ 4294967296) :
    Calls Tryz.prog 66 #[.string key, .int .u8 x.toNat] w fun e w' => e = .returned (.string ⟨(Mac.kx x (Mac.keyOf (sl key))).toArray⟩) ∧ w.grownBy w' none := by
  have HK : Keep (RK w) := ⟨hk⟩
  clear hk
  obtain ⟨K, hK⟩ : ∃ K, Mac.keyOf (sl key) = K := ⟨_, rfl⟩
  have HKL : Keep (K.length = 64) := ⟨by rw [← hK]; exact Mac.keyOf_len _⟩
  have HKE : Keep (Mac.keyOf (sl key) = K) := ⟨hK⟩
  rw [hK]
  clear hK
  have hmk := make28 64 (by decide)
  have HZ : Keep (∀ W : World, Has (W.alloc (.cells ((List.replicate 64 (0 : UInt8)).map bv).toArray 5)) W.heap.size ((List.replicate 64 (0 : UInt8)).map bv) 5) := ⟨fun W => Has.new _ _ _⟩
  generalize ((List.replicate 64 (0 : UInt8)).map bv).toArray = Z at hmk HZ
  have hmk' : ∀ W : World, (Instr.makeSlice 73 (.int .i64 64) (.int .i64 64)).run Tryz.prog W = .ok (.slice (some ⟨W.heap.size, 0, none⟩) 64 64) (W.alloc (.cells Z 5)) := hmk
  clear hmk
  go_enter Tryz.func66, Tryz.ntmps66
  by_cases hk64 : key.size ≤ 64
  · have G0 : Keep (w.grownBy w none) := ⟨World.grownBy.refl _ _⟩
    go_wp2_with fail
    go_loopw [6] (fun t w' => ∃ i : Nat, i ≤ 64 ∧ t = .int .i64 i ∧ Keep (BK w w' w.heap.size K x i)) (fun t _ => 64 - (intOf t).toNat)
    case atStart => exact ⟨0, by omega, rfl, ⟨HZ.out _, G0.out.trans (World.grownBy_alloc _ _ _), G0.out.size⟩⟩
    case round =>
      obtain ⟨i, hi, rfl, hrel⟩ := hrel
      by_cases hli : i < 64
      · obtain ⟨y, hy, hy1, hy2⟩ := key_at key hk64 i hli
        rw [HKE.out] at hy
        obtain ⟨v, hv⟩ : ∃ v, y ^^^ x = v := ⟨_, rfl⟩
        have c1 : bits .xor .u8 (y.toNat : Int) (x.toNat : Int) = (v.toNat : Int) := by rw [← hv]; exact c_xor y x
        have hf := hrel.out.r.frozen i
        have hc0 : wr.cell? ⟨w.heap.size, i, none⟩ = some (.int .u8 0) := hrel.out.r.cellv i _ (by rw [List.getElem?_map, zero_at K x i hli (by rw [HKL.out]; exact hi)]; rfl)
        have H1 : Keep (BK w (wr.setCell ⟨w.heap.size, i, none⟩ (.int .u8 v.toNat)) w.heap.size K x (i + 1)) := ⟨hrel.out.step hli y hy v hv⟩
        have H2 : Keep (BK w ((wr.setCell ⟨w.heap.size, i, none⟩ (.int .u8 y.toNat)).setCell ⟨w.heap.size, i, none⟩ (.int .u8 v.toNat)) w.heap.size K x (i + 1)) := ⟨hrel.out.step2 hli y hy v hv⟩
        by_cases hky : i < key.size
        · have hix := idx9 key i y hky (hy1 hky)
          have hc1 : (wr.setCell ⟨w.heap.size, i, none⟩ (.int .u8 y.toNat)).cell? ⟨w.heap.size, i, none⟩ = some (.int .u8 y.toNat) := (hrel.out.r.setCell i (bv y)).cellv i _ (by rw [List.getElem?_set_self (by rw [List.length_map, List.length_append, Mac.kx_len, List.length_take, HKL.out, List.length_replicate]; omega)])
          have hf1 := (hrel.out.r.setCell i (bv y)).frozen i
          clear hy1 hy2 hv hrel hy
          go_wp2
          refine ⟨⟨i + 1, by omega, by go_num, H2⟩, ?_⟩
          simp [intOf]; omega
        · obtain rfl := hy2 hky
          have c0 : bits .xor .u8 0 (x.toNat : Int) = (v.toNat : Int) := c1
          clear c1 hy1 hy2 hv hrel hy
          go_wp2
          refine ⟨⟨i + 1, by omega, by go_num, H1⟩, ?_⟩
          simp [intOf]; omega
      · obtain rfl : i = 64 := by omega
        have hbe : BytesOf wr (some ⟨w.heap.size, 0, none⟩) 64 64 (Mac.kx x K) := by
          have h := hrel.out.r
          rw [List.take_of_length_le (by rw [HKL.out]; decide), Nat.sub_self, List.replicate_zero, List.append_nil] at h
          exact ⟨by rw [Mac.kx_len, HKL.out], Nat.le_refl _, fun _ => ⟨_, 0, rfl, fun j z hz => by rw [Nat.zero_add]; exact h.cellv j _ (by rw [List.getElem?_map, hz]; rfl)⟩⟩
        have hcv := cvt_back _ _ _ _ _ hbe (by simp)
        have H9 : Keep (w.grownBy wr none) := ⟨hrel.out.g⟩
        clear hrel hbe
        go_wp2
        go_ret
        exact ⟨rfl, H9.out⟩
  · go_wp2_with fail
    refine (rlsum_any key _ HK.out h3 hs).mono ?_
    rintro e w1 ⟨rfl, g1⟩
    have G0 : Keep (w.grownBy w1 none) := ⟨g1⟩
    have hkb : (shaB key).size ≤ 64 := by rw [shaB_size]; decide
    have HKB : Keep (Mac.keyOf (sl (shaB key)) = K) := ⟨by rw [← HKE.out, shaB_sl]; exact Mac.keyOf_sum _ (by rw [sl_len]; omega)⟩
    generalize shaB key = kb at hkb HKB ⊢
    clear g1
    go_wp2_with fail
    go_loopw [6] (fun t w' => ∃ i : Nat, i ≤ 64 ∧ t = .int .i64 i ∧ Keep (BK w w' w1.heap.size K x i)) (fun t _ => 64 - (intOf t).toNat)
    case atStart => exact ⟨0, by omega, rfl, ⟨HZ.out _, G0.out.trans (World.grownBy_alloc _ _ _), G0.out.size⟩⟩
    case round =>
      obtain ⟨i, hi, rfl, hrel⟩ := hrel
      by_cases hli : i < 64
      · obtain ⟨y, hy, hy1, hy2⟩ := key_at kb hkb i hli
        rw [HKB.out] at hy
        obtain ⟨v, hv⟩ : ∃ v, y ^^^ x = v := ⟨_, rfl⟩
        have c1 : bits .xor .u8 (y.toNat : Int) (x.toNat : Int) = (v.toNat : Int) := by rw [← hv]; exact c_xor y x
        have hf := hrel.out.r.frozen i
        have hc0 : wr.cell? ⟨w1.heap.size, i, none⟩ = some (.int .u8 0) := hrel.out.r.cellv i _ (by rw [List.getElem?_map, zero_at K x i hli (by rw [HKL.out]; exact hi)]; rfl)
        have H1 : Keep (BK w (wr.setCell ⟨w1.heap.size, i, none⟩ (.int .u8 v.toNat)) w1.heap.size K x (i + 1)) := ⟨hrel.out.step hli y hy v hv⟩
        have H2 : Keep (BK w ((wr.setCell ⟨w1.heap.size, i, none⟩ (.int .u8 y.toNat)).setCell ⟨w1.heap.size, i, none⟩ (.int .u8 v.toNat)) w1.heap.size K x (i + 1)) := ⟨hrel.out.step2 hli y hy v hv⟩
        by_cases hky : i < kb.size
        · have hix := idx9 kb i y hky (hy1 hky)
          have hc1 : (wr.setCell ⟨w1.heap.size, i, none⟩ (.int .u8 y.toNat)).cell? ⟨w1.heap.size, i, none⟩ = some (.int .u8 y.toNat) := (hrel.out.r.setCell i (bv y)).cellv i _ (by rw [List.getElem?_set_self (by rw [List.length_map, List.length_append, Mac.kx_len, List.length_take, HKL.out, List.length_replicate]; omega)])
          have hf1 := (hrel.out.r.setCell i (bv y)).frozen i
          clear hy1 hy2 hv hrel hy
          go_wp2
          refine ⟨⟨i + 1, by omega, by go_num, H2⟩, ?_⟩
          simp [intOf]; omega
        · obtain rfl := hy2 hky
          have c0 : bits .xor .u8 0 (x.toNat : Int) = (v.toNat : Int) := c1
          clear c1 hy1 hy2 hv hrel hy
          go_wp2
          refine ⟨⟨i + 1, by omega, by go_num, H1⟩, ?_⟩
          simp [intOf]; omega
      · obtain rfl : i = 64 := by omega
        have hbe : BytesOf wr (some ⟨w1.heap.size, 0, none⟩) 64 64 (Mac.kx x K) := by
          have h := hrel.out.r
          rw [List.take_of_length_le (by rw [HKL.out]; decide), Nat.sub_self, List.replicate_zero, List.append_nil] at h
          exact ⟨by rw [Mac.kx_len, HKL.out], Nat.le_refl _, fun _ => ⟨_, 0, rfl, fun j z hz => by rw [Nat.zero_add]; exact h.cellv j _ (by rw [List.getElem?_map, hz]; rfl)⟩⟩
        have hcv := cvt_back _ _ _ _ _ hbe (by simp)
        have H9 : Keep (w.grownBy wr none) := ⟨hrel.out.g⟩
        clear hrel hbe
        go_wp2
        go_ret
        exact ⟨rfl, H9.out⟩
end Go.Proofs.YtkdjcknikhgfkabGreatDoor

namespace Go.Proofs.YtkdjcknikhgfkabGreatDoor
open Go Go.RowKit

set_option maxRecDepth 100000 in
set_option maxHeartbeats 4000000 in
theorem rtag_any (key text : ByteArray) (w : World) (hk : RK w) (h3 : 4 ≤ w.heap.size) (h1 : key.size ≤ 2147483648) (h2 : text.size ≤ 2147483648) :
    Calls Tryz.prog 39 #[.string key, .string text] w fun e w' => e = .returned (.string (hmacB key text)) ∧ w.grownBy w' none := by
  have HK : Keep (RK w) := ⟨hk⟩
  clear hk
  obtain ⟨K, hK⟩ : ∃ K, Mac.keyOf (sl key) = K := ⟨_, rfl⟩
  obtain ⟨ib, hib⟩ : ∃ x, ByteArray.mk (Mac.kx 54 K).toArray = x := ⟨_, rfl⟩
  obtain ⟨ob, hob⟩ : ∃ x, ByteArray.mk (Mac.kx 92 K).toArray = x := ⟨_, rfl⟩
  have hKl : K.length = 64 := by rw [← hK]; exact Mac.keyOf_len _
  have sib : ib.size = 64 := by rw [← hib, ← sl_len, sl_mk (Mac.kx 54 K), Mac.kx_len, hKl]
  have sob : ob.size = 64 := by rw [← hob, ← sl_len, sl_mk (Mac.kx 92 K), Mac.kx_len, hKl]
  have hai := addS ib text (by omega)
  have hao := addS ob (shaB (ib ++ text)) (by rw [shaB_size]; omega)
  have zit : (ib ++ text).size ≤ 4294967296 := by rw [ByteArray.size_append]; omega
  have zot : (ob ++ shaB (ib ++ text)).size ≤ 4294967296 := by rw [ByteArray.size_append, shaB_size]; omega
  have HEQ : Keep (shaB (ob ++ shaB (ib ++ text)) = hmacB key text) := ⟨hmac_eq key text K ib ob hK hib hob⟩
  generalize ht1 : ib ++ text = t1 at hai hao zit zot HEQ
  generalize ht2 : shaB t1 = t2 at hao zot HEQ
  have HT2 : Keep (shaB t1 = t2) := ⟨ht2⟩
  generalize ht3 : ob ++ t2 = t3 at hao zot HEQ
  have HQ : Keep (ByteArray.mk (Mac.kx 54 (Mac.keyOf (sl key))).toArray = ib ∧ ByteArray.mk (Mac.kx 92 (Mac.keyOf (sl key))).toArray = ob) := ⟨by rw [hK]; exact ⟨hib, hob⟩⟩
  clear ht1 ht2 ht3 hK hib hob
  go_enter Tryz.func39, Tryz.ntmps39
  go_wp2_with fail
  refine (block_any key 92 _ HK.out h3 (by omega)).mono ?_
  rintro e w1 ⟨rfl, g1⟩
  rw [HQ.out.2]
  have H1 : Keep (w.grownBy w1 none) := ⟨g1⟩
  clear g1
  go_wp2_with fail
  refine (block_any key 54 _ (HK.out.kept H1.out) (Nat.le_trans h3 H1.out.size) (by omega)).mono ?_
  rintro e w2 ⟨rfl, g2⟩
  rw [HQ.out.1]
  have H2 : Keep (w.grownBy w2 none) := ⟨H1.out.trans g2⟩
  clear g2
  go_wp2_with fail
  refine (rlsum_any t1 _ (HK.out.kept H2.out) (Nat.le_trans h3 H2.out.size) zit).mono ?_
  rintro e w3 ⟨rfl, g3⟩
  rw [HT2.out]
  have H3 : Keep (w.grownBy w3 none) := ⟨H2.out.trans g3⟩
  clear g3
  go_wp2_with fail
  refine (rlsum_any t3 _ (HK.out.kept H3.out) (Nat.le_trans h3 H3.out.size) zot).mono ?_
  rintro e w4 ⟨rfl, g4⟩
  rw [HEQ.out]
  have H4 : Keep (w.grownBy w4 none) := ⟨H3.out.trans g4⟩
  clear g4
  go_wp2_with fail
  go_ret
  exact ⟨rfl, H4.out⟩

/-- the last j bytes laid, zeros ahead -/
def l8R (n j : Nat) : List UInt8 := List.replicate (8 - j) 0 ++ (Mac.len8 n).drop (8 - j)
set_option maxRecDepth 100000 in
theorem l8R_step (n j : Nat) (hj : j < 8) : (l8R n j).set (7 - j) (UInt8.ofNat (n / 2 ^ (8 * j))) = l8R n (j + 1) := by
  match j, hj with
  | 0, _ => simp [l8R, Mac.len8]
  | 1, _ => rfl
  | 2, _ => rfl
  | 3, _ => rfl
  | 4, _ => rfl
  | 5, _ => rfl
  | 6, _ => rfl
  | 7, _ => rfl
set_option maxRecDepth 100000 in
theorem l8R_len (n j : Nat) (hj : j ≤ 8) : (l8R n j).length = 8 := by
  simp only [l8R, List.length_append, List.length_replicate, List.length_drop, Mac.len8_len]; omega
structure LG (w w' : World) (n j : Nat) : Prop where
  r : Has w' w.heap.size ((l8R n j).map bv) 5
  g : w.grownBy w' none

end Go.Proofs.YtkdjcknikhgfkabGreatDoor

