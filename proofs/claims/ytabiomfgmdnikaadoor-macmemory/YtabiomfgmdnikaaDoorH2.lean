/- MacHmac's walk -/
import Derived.Test.YtabiomfgmdnikaaDoorH1
import Derived.Test.YtabiomfgmdnikaaDoorS1
namespace Go.Proofs.YtabiomfgmdnikaaDoor
open Go Go.RowKit

theorem shaB_sl (s : ByteArray) : sl (shaB s) = Sha.sha (sl s) := sl_mk _
theorem prep2 (k : Nat) (y : Int) (h : k ≤ 64) : ∃ u n : Nat, IntKind.u64.wrap y = (u : Int) ∧ Keep ((u : Int) % (65 - (k : Int)) = (n : Int)) ∧ wrap64 (n : Int) = (n : Int) ∧ k + n ≤ 64 := by
  obtain ⟨u, hu⟩ := uwrap y
  have e : (65 - (k : Int)) = ((65 - k : Nat) : Int) := by omega
  have hl := Nat.mod_lt u (show 0 < 65 - k by omega)
  have e2 := Int.natCast_emod u (65 - k)
  refine ⟨u, u % (65 - k), hu, ⟨by rw [e, e2]⟩, ?_, ?_⟩
  · generalize u % (65 - k) = n at hl
    clear e e2 hu
    exact wrap_nat n (by omega)
  · generalize u % (65 - k) = n at hl
    clear e e2 hu
    omega
def zerosB (n : Nat) : ByteArray := ⟨(List.replicate n (0 : UInt8)).toArray⟩
theorem zerosB_sl (n : Nat) : sl (zerosB n) = List.replicate n 0 := sl_mk _
theorem zerosB_size (n : Nat) : (zerosB n).size = n := by rw [← sl_len, zerosB_sl, List.length_replicate]
theorem cvt_zeros (n : Nat) (W : World) : (convert 24 9 (.slice (some ⟨W.heap.size, 0, none⟩) n n)).run Tryd.prog (W.alloc (.cells ((List.replicate n (0 : UInt8)).map bv).toArray 5)) = .ok (.string (zerosB n)) (W.alloc (.cells ((List.replicate n (0 : UInt8)).map bv).toArray 5)) := by
  have hb : BytesOf (W.alloc (.cells ((List.replicate n (0 : UInt8)).map bv).toArray 5)) (some ⟨W.heap.size, 0, none⟩) n n (List.replicate n 0) :=
    ⟨by simp, Nat.le_refl _, fun _ => ⟨_, 0, rfl, fun j x hx => by
      rw [Nat.zero_add]
      exact (Has.new W ((List.replicate n (0 : UInt8)).map bv) 5).cellv j _ (by rw [List.getElem?_map, hx]; rfl)⟩⟩
  exact cvt_back _ _ _ _ _ hb (by simp)
theorem hmac_zeros (key text : ByteArray) (n : Nat) (h : key.size + n ≤ 64) : hmacB (key ++ zerosB n) text = hmacB key text := by
  apply sl_inj
  rw [hmacB_sl, hmacB_sl, sl_app, zerosB_sl, Mac.hmac, Mac.hmac, Mac.keyOf_zeros (sl key) n (by rw [sl_len]; exact h)]
theorem hmac_sum (key text : ByteArray) (h : 64 < key.size) : hmacB (shaB key) text = hmacB key text := by
  apply sl_inj
  rw [hmacB_sl, hmacB_sl, shaB_sl, Mac.hmac, Mac.hmac, Mac.keyOf_sum (sl key) (by rw [sl_len]; exact h)]
theorem shaB_size (s : ByteArray) : (shaB s).size = 32 := by
  rw [← sl_len, shaB, sl_mk (Sha.sha (sl s)), Mac.sha_len]
theorem hmac_eq (key text : ByteArray) (K : List UInt8) (ib ob : ByteArray) (hK : Mac.keyOf (sl key) = K) (hi : ByteArray.mk (Mac.kx 54 K).toArray = ib) (ho : ByteArray.mk (Mac.kx 92 K).toArray = ob) : shaB (ob ++ shaB (ib ++ text)) = hmacB key text := by
  subst hi ho hK
  apply sl_inj
  rw [hmacB_sl, shaB_sl, sl_app, shaB_sl, sl_app, sl_mk (Mac.kx 54 (Mac.keyOf (sl key))), sl_mk (Mac.kx 92 (Mac.keyOf (sl key))), Mac.hmac]

set_option maxRecDepth 100000 in
set_option maxHeartbeats 4000000 in
theorem mhmac_any (key text : ByteArray) (y : Int) (w : World) (hk : Kc w) (h1 : key.size ≤ 140737488355328) (h2 : text.size ≤ 140737488355328) :
    Calls Tryd.prog 3 #[.string key, .string text, .int .i64 y] w fun e w' => e = .returned (.bool true) ∧ w.grownBy w' none := by
  have HK : Keep (Kc w) := ⟨hk⟩
  clear hk
  go_enter Tryd.func3, Tryd.ntmps3
  go_wp2_with fail
  refine (malive_any _ HK.out).mono ?_
  rintro e w1 ⟨rfl, g1⟩
  have H1 : Keep (w.grownBy w1 none ∧ Kc w1) := ⟨g1, HK.out.kept g1 (by simp)⟩
  clear g1
  obtain ⟨K, hK⟩ : ∃ K, Mac.keyOf (sl key) = K := ⟨_, rfl⟩
  have HKL : Keep (K.length = 64) := ⟨by rw [← hK]; exact Mac.keyOf_len _⟩
  have HKE : Keep (Mac.keyOf (sl key) = K) := ⟨hK⟩
  clear hK
  by_cases hk64 : key.size ≤ 64
  · go_wp2_with fail
    go_loopw [8, 9, 10] (fun vi vo t w' => ∃ (i : Nat) (ai : Option Addr) (ci : Nat) (ao : Option Addr) (co : Nat), i ≤ 64 ∧ t = .int .i64 i ∧ vi = .slice ai i ci ∧ vo = .slice ao i co ∧ Keep (HR w1 w' K (.slice ai i ci) (.slice ao i co) i)) (fun _ _ t _ => 64 - (intOf t).toNat)
    case atStart => exact ⟨0, none, 0, none, 0, by omega, rfl, rfl, rfl, ⟨World.ownsRow_nil _ _ _ _, World.ownsRow_nil _ _ _ _, (fun b hb => by cases hb), World.grownBy.refl _ _⟩⟩
    case round =>
      obtain ⟨i, ai, ci, ao, co, hi, rfl, rfl, rfl, hrel⟩ := hrel
      by_cases hli : i < 64
      · obtain ⟨y, hy, hy1, hy2⟩ := key_at key hk64 i hli
        rw [HKE.out] at hy
        obtain ⟨v, hv⟩ : ∃ v, y ^^^ 54 = v := ⟨_, rfl⟩
        obtain ⟨u, hu⟩ : ∃ u, y ^^^ 92 = u := ⟨_, rfl⟩
        obtain ⟨a2, c2, w2, hap, o1, o2, o3, o4⟩ := hrel.out.appI hli y hy v hv
        obtain ⟨a3, c3, w3, hbp, h3⟩ := HR.appO o1 o2 o3 o4 hli y hy u hu
        have HAP : Keep ((Builtin.append_ #[24, 24] 24 #[.slice ai i ci, .slice (some ⟨wr.heap.size, 0, none⟩) 1 1]).run Tryd.prog (wr.alloc (.cells #[.int .u8 v.toNat] 5)) = .ok (.slice a2 (i + 1) c2) w2) := ⟨hap⟩
        have HBP : Keep ((Builtin.append_ #[24, 24] 24 #[.slice ao i co, .slice (some ⟨w2.heap.size, 0, none⟩) 1 1]).run Tryd.prog (w2.alloc (.cells #[.int .u8 u.toNat] 5)) = .ok (.slice a3 (i + 1) c3) w3) := ⟨hbp⟩
        have H3 : Keep (HR w1 w3 K (.slice a2 (i + 1) c2) (.slice a3 (i + 1) c3) (i + 1)) := ⟨h3⟩
        have c1 : bits .xor .u8 (y.toNat : Int) 54 = (v.toNat : Int) := by rw [← hv]; exact c_xor y 54
        have c2' : bits .xor .u8 (y.toNat : Int) 92 = (u.toNat : Int) := by rw [← hu]; exact c_xor y 92
        clear hap hbp o1 o2 o3 o4 h3 hrel hy
        by_cases hky : i < key.size
        · have hix := idx9 key i y hky (hy1 hky)
          clear hy1 hy2 hv hu
          go_wp2_with (first
            | (at_builtin; refine wpList_append_run _ rfl (.tmp 33) (.tmp 36) 24 rfl _ _ rfl rfl HAP.out ?_)
            | (at_builtin; refine wpList_append_run _ rfl (.tmp 38) (.tmp 41) 24 rfl _ _ rfl rfl HBP.out ?_))
          refine ⟨⟨i + 1, _, _, _, _, by omega, by go_num, rfl, rfl, H3⟩, ?_⟩
          simp [intOf]; omega
        · obtain rfl := hy2 hky
          obtain rfl : v = 54 := by rw [← hv]; rfl
          obtain rfl : u = 92 := by rw [← hu]; rfl
          clear hy1 hy2 hv hu c1 c2'
          go_wp2_with (first
            | (at_builtin; refine wpList_append_run _ rfl (.tmp 33) (.tmp 36) 24 rfl _ _ rfl rfl HAP.out ?_)
            | (at_builtin; refine wpList_append_run _ rfl (.tmp 38) (.tmp 41) 24 rfl _ _ rfl rfl HBP.out ?_))
          refine ⟨⟨i + 1, _, _, _, _, by omega, by go_num, rfl, rfl, H3⟩, ?_⟩
          simp [intOf]; omega
      · obtain rfl : i = 64 := by omega
        have HB : Keep (BytesOf wr ai 64 ci (Mac.kx 54 K) ∧ BytesOf wr ao 64 co (Mac.kx 92 K) ∧ ai ≠ none ∧ ao ≠ none ∧ w.grownBy wr none ∧ Kc wr) := ⟨by
          obtain ⟨b1, b2, b3, b4⟩ := hrel.out.bytes HKL.out
          exact ⟨b1, b2, b3, b4, H1.out.1.trans hrel.out.g, H1.out.2.kept hrel.out.g (by simp)⟩⟩
        clear hrel
        go_wp2_with fail
        refine (tag_any key text _ HB.out.2.2.2.2.2 (by omega) (by omega)).mono ?_
        rintro e w5 ⟨rfl, g5⟩
        obtain ⟨ib, hib⟩ : ∃ x, ByteArray.mk (Mac.kx 54 K).toArray = x := ⟨_, rfl⟩
        obtain ⟨ob, hob⟩ : ∃ x, ByteArray.mk (Mac.kx 92 K).toArray = x := ⟨_, rfl⟩
        have hci : ∀ W, w5.grownBy W none → (convert 24 9 (.slice ai 64 ci)).run Tryd.prog W = .ok (.string ib) W := fun W g => by
          rw [← hib]; exact cvt_back _ _ _ _ _ ((HB.out.1.kept g5).kept g) HB.out.2.2.1
        have hco : ∀ W, w5.grownBy W none → (convert 24 9 (.slice ao 64 co)).run Tryd.prog W = .ok (.string ob) W := fun W g => by
          rw [← hob]; exact cvt_back _ _ _ _ _ ((HB.out.2.1.kept g5).kept g) HB.out.2.2.2.1
        have sib : ib.size = 64 := by rw [← hib, ← sl_len, sl_mk (Mac.kx 54 K), Mac.kx_len, HKL.out]
        have sob : ob.size = 64 := by rw [← hob, ← sl_len, sl_mk (Mac.kx 92 K), Mac.kx_len, HKL.out]
        have H5 : Keep (w.grownBy w5 none ∧ Kc w5 ∧ ByteArray.mk (Mac.kx 54 K).toArray = ib ∧ ByteArray.mk (Mac.kx 92 K).toArray = ob) := ⟨HB.out.2.2.2.2.1.trans g5, HB.out.2.2.2.2.2.kept g5 (by simp), hib, hob⟩
        have hai := addS ib text (by omega)
        have hao := addS ob (shaB (ib ++ text)) (by rw [shaB_size]; omega)
        have zit : (ib ++ text).size ≤ 4611686018427387904 := by rw [ByteArray.size_append]; omega
        have zot : (ob ++ shaB (ib ++ text)).size ≤ 4611686018427387904 := by rw [ByteArray.size_append, shaB_size]; omega
        have HEQ : Keep (shaB (ob ++ shaB (ib ++ text)) = hmacB key text) := ⟨hmac_eq key text K ib ob HKE.out hib hob⟩
        generalize ht1 : ib ++ text = t1 at hai hao zit zot HEQ
        generalize ht2 : shaB t1 = t2 at hao zot HEQ
        have HT2 : Keep (shaB t1 = t2) := ⟨ht2⟩
        generalize ht3 : ob ++ t2 = t3 at hao zot HEQ
        clear hib hob g5 ht1 ht2 ht3
        go_wp2_with fail
        have hkc5 : Kc w5 := H5.out.2.1
        refine wp_region_held_drew (S := fun w' => w5.grownBy w' none) (by kernel_rfl) (gr_drewN _ 1 none) (fun hHeld => ?_)
        refine wpAnyH_take (i := 0) (oi := _) (v := ?_) rfl (by kernel_rfl) (by kernel_rfl) (by kernel_rfl) (fun _ _ _ h => h) (Or.inl ⟨by rfl, ?_⟩) (by assumption) ?_
        rotate_left
        · (intro w hSw; go_simp; first | done | (with_reducible rfl))
        simp only [Act.put, List.getElem_toArray, List.getElem_cons_zero, List.setIfInBounds_toArray, List.set_cons_zero, List.set_cons_succ]
        refine wpAnyH_take (i := 1) (oi := _) (v := ?_) rfl (by kernel_rfl) (by kernel_rfl) (by kernel_rfl) (fun _ _ _ h => h) (Or.inl ⟨by rfl, ?_⟩) (by assumption) ?_
        rotate_left
        · (intro w hSw; go_simp; first | done | (with_reducible rfl))
        simp only [Act.put, List.getElem_toArray, List.getElem_cons_succ, List.getElem_cons_zero, List.setIfInBounds_toArray, List.set_cons_zero, List.set_cons_succ]
        refine wpAnyH_take (i := 2) (oi := _) (v := ?_) rfl (by kernel_rfl) (by kernel_rfl) (by kernel_rfl) (fun _ _ _ h => h) (Or.inl ⟨by rfl, ?_⟩) (by assumption) ?_
        rotate_left
        · (intro w hSw; go_simp; first | done | (with_reducible rfl))
        simp only [Act.put, List.getElem_toArray, List.getElem_cons_succ, List.getElem_cons_zero, List.setIfInBounds_toArray, List.set_cons_zero, List.set_cons_succ]
        refine wpAnyH_take (i := 3) (oi := _) (v := ?_) rfl (by kernel_rfl) (by kernel_rfl) (by kernel_rfl) (fun _ _ _ h => h) (Or.inl ⟨by rfl, ?_⟩) (by assumption) ?_
        rotate_left
        · (intro w hSw; go_simp; first | done | (with_reducible rfl))
        simp only [Act.put, List.getElem_toArray, List.getElem_cons_succ, List.getElem_cons_zero, List.setIfInBounds_toArray, List.set_cons_zero, List.set_cons_succ]
        refine wpAnyH_take (i := 4) (oi := _) (v := ?_) rfl (by kernel_rfl) (by kernel_rfl) (by kernel_rfl) (fun _ _ _ h => h) (Or.inl ⟨by rfl, ?_⟩) (by assumption) ?_
        rotate_left
        · (intro w hSw; go_simp; first | done | (with_reducible rfl))
        simp only [Act.put, List.getElem_toArray, List.getElem_cons_succ, List.getElem_cons_zero, List.setIfInBounds_toArray, List.set_cons_zero, List.set_cons_succ]
        refine wpAnyH_take (i := 5) (oi := _) (v := ?_) rfl (by kernel_rfl) (by kernel_rfl) (by kernel_rfl) (fun _ _ _ h => h) (Or.inl ⟨by rfl, ?_⟩) (by assumption) ?_
        rotate_left
        · (intro w hSw; go_simp; first | done | (with_reducible rfl))
        simp only [Act.put, List.getElem_toArray, List.getElem_cons_succ, List.getElem_cons_zero, List.setIfInBounds_toArray, List.set_cons_zero, List.set_cons_succ]
        refine wpAnyH_take (i := 6) (oi := _) (v := ?_) rfl (by kernel_rfl) (by kernel_rfl) (by kernel_rfl) (fun _ _ _ h => h) (Or.inl ⟨by rfl, ?_⟩) (by assumption) ?_
        rotate_left
        · (intro w hSw; go_simp; first | done | (with_reducible rfl))
        simp only [Act.put, List.getElem_toArray, List.getElem_cons_succ, List.getElem_cons_zero, List.setIfInBounds_toArray, List.set_cons_zero, List.set_cons_succ]
        refine wpAnyH_ready (rs := [7]) (by kernel_rfl) (by simp) ?_
        refine AllReadyH.cons rfl (fun K hK => ?_) AllReadyH.nil
        go_simp
        go_wp2_with (go_at_call 10; refine (lsum_any t1 _ (hkc5.kept hHeld (by simp)) zit).mono ?_; rintro e w6 ⟨rfl, g6⟩; rw [HT2.out]; replace hHeld := hHeld.trans g6; clear g6)
        refine hK.out _ _ hHeld (fun _ => ?_)
        clear hK K
        refine wpAnyH_take (i := 8) (oi := _) (v := ?_) rfl (by kernel_rfl) (by kernel_rfl) (by kernel_rfl) (fun _ _ _ h => h) (Or.inl ⟨by rfl, ?_⟩) (by assumption) ?_
        rotate_left
        · (intro w hSw; go_simp; first | done | (with_reducible rfl))
        simp only [Act.put, List.getElem_toArray, List.getElem_cons_succ, List.getElem_cons_zero, List.setIfInBounds_toArray, List.set_cons_zero, List.set_cons_succ]
        refine wpAnyH_ready (rs := [9]) (by kernel_rfl) (by simp) ?_
        refine AllReadyH.cons rfl (fun K hK => ?_) AllReadyH.nil
        go_simp
        go_wp2_with (go_at_call 10; refine (lsum_any t3 _ (hkc5.kept hHeld (by simp)) zot).mono ?_; rintro e w7 ⟨rfl, g7⟩; rw [HEQ.out]; replace hHeld := hHeld.trans g7; clear g7)
        refine hK.out _ _ hHeld (fun _ => ?_)
        clear hK K
        refine wpAnyH_take (i := 10) (oi := _) (v := ?_) rfl (by kernel_rfl) (by kernel_rfl) (by kernel_rfl) (fun _ _ _ h => h) (Or.inl ⟨by rfl, ?_⟩) (by assumption) ?_
        rotate_left
        · (intro w hSw; go_simp; first | done | (with_reducible rfl))
        simp only [Act.put, List.getElem_toArray, List.getElem_cons_succ, List.getElem_cons_zero, List.setIfInBounds_toArray, List.set_cons_zero, List.set_cons_succ]
        refine wpAnyH_done (by kernel_rfl) ?_ _
        have H7 : Keep (w.grownBy w7 none ∧ Kc w7) := ⟨H5.out.1.trans hHeld, hkc5.kept hHeld (by simp)⟩
        have hbq : ((hmacB key text).toList == (hmacB key text).toList) = true := by simp
        obtain ⟨u, n, hu, HN, hw, hkn⟩ := prep2 key.size y hk64
        have hmk := make28 n (by omega)
        have hcz := cvt_zeros n
        have hak := addS key (zerosB n) (by rw [zerosB_size]; omega)
        have hzk : (key ++ zerosB n).size ≤ 2305843009213693952 := by rw [ByteArray.size_append, zerosB_size]; omega
        have HZ : Keep (hmacB (key ++ zerosB n) text = hmacB key text) := ⟨hmac_zeros key text n hkn⟩
        generalize ((List.replicate n (0 : UInt8)).map bv).toArray = Z at hmk hcz
        generalize zerosB n = zb at hcz hak hzk HZ
        generalize key ++ zb = kz at hak hzk HZ
        have hn := HN.out
        clear hci hco hai hao HT2 HEQ zit zot hkc5 HB H5 hHeld
        go_wp2_with fail
        refine (tag_any kz text _ (H7.out.2.kept (World.grownBy_alloc _ _ none) (by simp)) hzk (Nat.le_trans h2 (by decide))).mono ?_
        rintro e w8 ⟨rfl, g8⟩
        rw [HZ.out]
        have H8 : Keep (w.grownBy w8 none) := ⟨(H7.out.1.trans (World.grownBy_alloc _ _ none)).trans g8⟩
        clear g8 hn hu hw hmk hcz hak
        go_wp2_with fail
        go_ret
        exact ⟨rfl, H8.out⟩
  · go_wp2_with fail
    refine (lsum_any key _ H1.out.2 (by omega)).mono ?_
    rintro e w2' ⟨rfl, g2⟩
    have H2 : Keep (w.grownBy w2' none ∧ Kc w2') := ⟨H1.out.1.trans g2, H1.out.2.kept g2 (by simp)⟩
    have hkb : (shaB key).size ≤ 64 := by rw [shaB_size]; decide
    have HKB : Keep (Mac.keyOf (sl (shaB key)) = K) := ⟨by rw [← HKE.out, shaB_sl]; exact Mac.keyOf_sum _ (by rw [sl_len]; omega)⟩
    have HZ : Keep (hmacB (shaB key) text = hmacB key text) := ⟨hmac_sum key text (by omega)⟩
    generalize shaB key = kb at hkb HKB HZ ⊢
    clear g2
    go_wp2_with fail
    go_loopw [8, 9, 10] (fun vi vo t w' => ∃ (i : Nat) (ai : Option Addr) (ci : Nat) (ao : Option Addr) (co : Nat), i ≤ 64 ∧ t = .int .i64 i ∧ vi = .slice ai i ci ∧ vo = .slice ao i co ∧ Keep (HR w2' w' K (.slice ai i ci) (.slice ao i co) i)) (fun _ _ t _ => 64 - (intOf t).toNat)
    case atStart => exact ⟨0, none, 0, none, 0, by omega, rfl, rfl, rfl, ⟨World.ownsRow_nil _ _ _ _, World.ownsRow_nil _ _ _ _, (fun b hb => by cases hb), World.grownBy.refl _ _⟩⟩
    case round =>
      obtain ⟨i, ai, ci, ao, co, hi, rfl, rfl, rfl, hrel⟩ := hrel
      by_cases hli : i < 64
      · obtain ⟨y, hy, hy1, hy2⟩ := key_at kb hkb i hli
        rw [HKB.out] at hy
        obtain ⟨v, hv⟩ : ∃ v, y ^^^ 54 = v := ⟨_, rfl⟩
        obtain ⟨u, hu⟩ : ∃ u, y ^^^ 92 = u := ⟨_, rfl⟩
        obtain ⟨a2, c2, w2, hap, o1, o2, o3, o4⟩ := hrel.out.appI hli y hy v hv
        obtain ⟨a3, c3, w3, hbp, h3⟩ := HR.appO o1 o2 o3 o4 hli y hy u hu
        have HAP : Keep ((Builtin.append_ #[24, 24] 24 #[.slice ai i ci, .slice (some ⟨wr.heap.size, 0, none⟩) 1 1]).run Tryd.prog (wr.alloc (.cells #[.int .u8 v.toNat] 5)) = .ok (.slice a2 (i + 1) c2) w2) := ⟨hap⟩
        have HBP : Keep ((Builtin.append_ #[24, 24] 24 #[.slice ao i co, .slice (some ⟨w2.heap.size, 0, none⟩) 1 1]).run Tryd.prog (w2.alloc (.cells #[.int .u8 u.toNat] 5)) = .ok (.slice a3 (i + 1) c3) w3) := ⟨hbp⟩
        have H3 : Keep (HR w2' w3 K (.slice a2 (i + 1) c2) (.slice a3 (i + 1) c3) (i + 1)) := ⟨h3⟩
        have c1 : bits .xor .u8 (y.toNat : Int) 54 = (v.toNat : Int) := by rw [← hv]; exact c_xor y 54
        have c2' : bits .xor .u8 (y.toNat : Int) 92 = (u.toNat : Int) := by rw [← hu]; exact c_xor y 92
        clear hap hbp o1 o2 o3 o4 h3 hrel hy
        by_cases hky : i < kb.size
        · have hix := idx9 kb i y hky (hy1 hky)
          clear hy1 hy2 hv hu
          go_wp2_with (first
            | (at_builtin; refine wpList_append_run _ rfl (.tmp 33) (.tmp 36) 24 rfl _ _ rfl rfl HAP.out ?_)
            | (at_builtin; refine wpList_append_run _ rfl (.tmp 38) (.tmp 41) 24 rfl _ _ rfl rfl HBP.out ?_))
          refine ⟨⟨i + 1, _, _, _, _, by omega, by go_num, rfl, rfl, H3⟩, ?_⟩
          simp [intOf]; omega
        · obtain rfl := hy2 hky
          obtain rfl : v = 54 := by rw [← hv]; rfl
          obtain rfl : u = 92 := by rw [← hu]; rfl
          clear hy1 hy2 hv hu c1 c2'
          go_wp2_with (first
            | (at_builtin; refine wpList_append_run _ rfl (.tmp 33) (.tmp 36) 24 rfl _ _ rfl rfl HAP.out ?_)
            | (at_builtin; refine wpList_append_run _ rfl (.tmp 38) (.tmp 41) 24 rfl _ _ rfl rfl HBP.out ?_))
          refine ⟨⟨i + 1, _, _, _, _, by omega, by go_num, rfl, rfl, H3⟩, ?_⟩
          simp [intOf]; omega
      · obtain rfl : i = 64 := by omega
        have HB : Keep (BytesOf wr ai 64 ci (Mac.kx 54 K) ∧ BytesOf wr ao 64 co (Mac.kx 92 K) ∧ ai ≠ none ∧ ao ≠ none ∧ w.grownBy wr none ∧ Kc wr) := ⟨by
          obtain ⟨b1, b2, b3, b4⟩ := hrel.out.bytes HKL.out
          exact ⟨b1, b2, b3, b4, H2.out.1.trans hrel.out.g, H2.out.2.kept hrel.out.g (by simp)⟩⟩
        clear hrel
        go_wp2_with fail
        refine (tag_any key text _ HB.out.2.2.2.2.2 (by omega) (by omega)).mono ?_
        rintro e w5 ⟨rfl, g5⟩
        obtain ⟨ib, hib⟩ : ∃ x, ByteArray.mk (Mac.kx 54 K).toArray = x := ⟨_, rfl⟩
        obtain ⟨ob, hob⟩ : ∃ x, ByteArray.mk (Mac.kx 92 K).toArray = x := ⟨_, rfl⟩
        have hci : ∀ W, w5.grownBy W none → (convert 24 9 (.slice ai 64 ci)).run Tryd.prog W = .ok (.string ib) W := fun W g => by
          rw [← hib]; exact cvt_back _ _ _ _ _ ((HB.out.1.kept g5).kept g) HB.out.2.2.1
        have hco : ∀ W, w5.grownBy W none → (convert 24 9 (.slice ao 64 co)).run Tryd.prog W = .ok (.string ob) W := fun W g => by
          rw [← hob]; exact cvt_back _ _ _ _ _ ((HB.out.2.1.kept g5).kept g) HB.out.2.2.2.1
        have sib : ib.size = 64 := by rw [← hib, ← sl_len, sl_mk (Mac.kx 54 K), Mac.kx_len, HKL.out]
        have sob : ob.size = 64 := by rw [← hob, ← sl_len, sl_mk (Mac.kx 92 K), Mac.kx_len, HKL.out]
        have H5 : Keep (w.grownBy w5 none ∧ Kc w5 ∧ ByteArray.mk (Mac.kx 54 K).toArray = ib ∧ ByteArray.mk (Mac.kx 92 K).toArray = ob) := ⟨HB.out.2.2.2.2.1.trans g5, HB.out.2.2.2.2.2.kept g5 (by simp), hib, hob⟩
        have hai := addS ib text (by omega)
        have hao := addS ob (shaB (ib ++ text)) (by rw [shaB_size]; omega)
        have zit : (ib ++ text).size ≤ 4611686018427387904 := by rw [ByteArray.size_append]; omega
        have zot : (ob ++ shaB (ib ++ text)).size ≤ 4611686018427387904 := by rw [ByteArray.size_append, shaB_size]; omega
        have HEQ : Keep (shaB (ob ++ shaB (ib ++ text)) = hmacB key text) := ⟨hmac_eq key text K ib ob HKE.out hib hob⟩
        generalize ht1 : ib ++ text = t1 at hai hao zit zot HEQ
        generalize ht2 : shaB t1 = t2 at hao zot HEQ
        have HT2 : Keep (shaB t1 = t2) := ⟨ht2⟩
        generalize ht3 : ob ++ t2 = t3 at hao zot HEQ
        clear hib hob g5 ht1 ht2 ht3
        go_wp2_with fail
        have hkc5 : Kc w5 := H5.out.2.1
        refine wp_region_held_drew (S := fun w' => w5.grownBy w' none) (by kernel_rfl) (gr_drewN _ 1 none) (fun hHeld => ?_)
        refine wpAnyH_take (i := 0) (oi := _) (v := ?_) rfl (by kernel_rfl) (by kernel_rfl) (by kernel_rfl) (fun _ _ _ h => h) (Or.inl ⟨by rfl, ?_⟩) (by assumption) ?_
        rotate_left
        · (intro w hSw; go_simp; first | done | (with_reducible rfl))
        simp only [Act.put, List.getElem_toArray, List.getElem_cons_zero, List.setIfInBounds_toArray, List.set_cons_zero, List.set_cons_succ]
        refine wpAnyH_take (i := 1) (oi := _) (v := ?_) rfl (by kernel_rfl) (by kernel_rfl) (by kernel_rfl) (fun _ _ _ h => h) (Or.inl ⟨by rfl, ?_⟩) (by assumption) ?_
        rotate_left
        · (intro w hSw; go_simp; first | done | (with_reducible rfl))
        simp only [Act.put, List.getElem_toArray, List.getElem_cons_succ, List.getElem_cons_zero, List.setIfInBounds_toArray, List.set_cons_zero, List.set_cons_succ]
        refine wpAnyH_take (i := 2) (oi := _) (v := ?_) rfl (by kernel_rfl) (by kernel_rfl) (by kernel_rfl) (fun _ _ _ h => h) (Or.inl ⟨by rfl, ?_⟩) (by assumption) ?_
        rotate_left
        · (intro w hSw; go_simp; first | done | (with_reducible rfl))
        simp only [Act.put, List.getElem_toArray, List.getElem_cons_succ, List.getElem_cons_zero, List.setIfInBounds_toArray, List.set_cons_zero, List.set_cons_succ]
        refine wpAnyH_take (i := 3) (oi := _) (v := ?_) rfl (by kernel_rfl) (by kernel_rfl) (by kernel_rfl) (fun _ _ _ h => h) (Or.inl ⟨by rfl, ?_⟩) (by assumption) ?_
        rotate_left
        · (intro w hSw; go_simp; first | done | (with_reducible rfl))
        simp only [Act.put, List.getElem_toArray, List.getElem_cons_succ, List.getElem_cons_zero, List.setIfInBounds_toArray, List.set_cons_zero, List.set_cons_succ]
        refine wpAnyH_take (i := 4) (oi := _) (v := ?_) rfl (by kernel_rfl) (by kernel_rfl) (by kernel_rfl) (fun _ _ _ h => h) (Or.inl ⟨by rfl, ?_⟩) (by assumption) ?_
        rotate_left
        · (intro w hSw; go_simp; first | done | (with_reducible rfl))
        simp only [Act.put, List.getElem_toArray, List.getElem_cons_succ, List.getElem_cons_zero, List.setIfInBounds_toArray, List.set_cons_zero, List.set_cons_succ]
        refine wpAnyH_take (i := 5) (oi := _) (v := ?_) rfl (by kernel_rfl) (by kernel_rfl) (by kernel_rfl) (fun _ _ _ h => h) (Or.inl ⟨by rfl, ?_⟩) (by assumption) ?_
        rotate_left
        · (intro w hSw; go_simp; first | done | (with_reducible rfl))
        simp only [Act.put, List.getElem_toArray, List.getElem_cons_succ, List.getElem_cons_zero, List.setIfInBounds_toArray, List.set_cons_zero, List.set_cons_succ]
        refine wpAnyH_take (i := 6) (oi := _) (v := ?_) rfl (by kernel_rfl) (by kernel_rfl) (by kernel_rfl) (fun _ _ _ h => h) (Or.inl ⟨by rfl, ?_⟩) (by assumption) ?_
        rotate_left
        · (intro w hSw; go_simp; first | done | (with_reducible rfl))
        simp only [Act.put, List.getElem_toArray, List.getElem_cons_succ, List.getElem_cons_zero, List.setIfInBounds_toArray, List.set_cons_zero, List.set_cons_succ]
        refine wpAnyH_ready (rs := [7]) (by kernel_rfl) (by simp) ?_
        refine AllReadyH.cons rfl (fun K hK => ?_) AllReadyH.nil
        go_simp
        go_wp2_with (go_at_call 10; refine (lsum_any t1 _ (hkc5.kept hHeld (by simp)) zit).mono ?_; rintro e w6 ⟨rfl, g6⟩; rw [HT2.out]; replace hHeld := hHeld.trans g6; clear g6)
        refine hK.out _ _ hHeld (fun _ => ?_)
        clear hK K
        refine wpAnyH_take (i := 8) (oi := _) (v := ?_) rfl (by kernel_rfl) (by kernel_rfl) (by kernel_rfl) (fun _ _ _ h => h) (Or.inl ⟨by rfl, ?_⟩) (by assumption) ?_
        rotate_left
        · (intro w hSw; go_simp; first | done | (with_reducible rfl))
        simp only [Act.put, List.getElem_toArray, List.getElem_cons_succ, List.getElem_cons_zero, List.setIfInBounds_toArray, List.set_cons_zero, List.set_cons_succ]
        refine wpAnyH_ready (rs := [9]) (by kernel_rfl) (by simp) ?_
        refine AllReadyH.cons rfl (fun K hK => ?_) AllReadyH.nil
        go_simp
        go_wp2_with (go_at_call 10; refine (lsum_any t3 _ (hkc5.kept hHeld (by simp)) zot).mono ?_; rintro e w7 ⟨rfl, g7⟩; rw [HEQ.out]; replace hHeld := hHeld.trans g7; clear g7)
        refine hK.out _ _ hHeld (fun _ => ?_)
        clear hK K
        refine wpAnyH_take (i := 10) (oi := _) (v := ?_) rfl (by kernel_rfl) (by kernel_rfl) (by kernel_rfl) (fun _ _ _ h => h) (Or.inl ⟨by rfl, ?_⟩) (by assumption) ?_
        rotate_left
        · (intro w hSw; go_simp; first | done | (with_reducible rfl))
        simp only [Act.put, List.getElem_toArray, List.getElem_cons_succ, List.getElem_cons_zero, List.setIfInBounds_toArray, List.set_cons_zero, List.set_cons_succ]
        refine wpAnyH_done (by kernel_rfl) ?_ _
        have H7 : Keep (w.grownBy w7 none ∧ Kc w7) := ⟨H5.out.1.trans hHeld, hkc5.kept hHeld (by simp)⟩
        have hbq : ((hmacB key text).toList == (hmacB key text).toList) = true := by simp
        clear hci hco hai hao HT2 HEQ zit zot hkc5 HB H5 hHeld
        go_wp2_with fail
        refine (tag_any kb text _ H7.out.2 (Nat.le_trans hkb (by decide)) (Nat.le_trans h2 (by decide))).mono ?_
        rintro e w8 ⟨rfl, g8⟩
        rw [HZ.out]
        have H8 : Keep (w.grownBy w8 none) := ⟨H7.out.1.trans g8⟩
        clear g8
        go_wp2_with fail
        go_ret
        exact ⟨rfl, H8.out⟩
end Go.Proofs.YtabiomfgmdnikaaDoor
