import Derived.Test.YtiphnlfbgbemfaaGreatDoorX7
import Derived.Test.YtiphnlfbgbemfaaGreatDoorX9
/- FrameSeals' walk -/
namespace Go.Proofs.YtiphnlfbgbemfaaGreatDoor.Pk
open Go Go.RowKit
/-- a row of bytes that may be written -/
structure Wb (w : World) (b : Nat) (L : List UInt8) : Prop where
  lt : b < w.heap.size
  at_ : ∀ (j : Nat) (x : UInt8), L[j]? = some x → w.cell? ⟨b, j, none⟩ = some (.int .u8 (x.toNat : Int))
  fz : ∀ j, j < L.length → w.frozen? ⟨b, j, none⟩ = false
theorem Wb.new (W : World) (s : ByteArray) : Wb (Lib.bytesWorld W 5 s) W.heap.size (sl s) := by
  refine ⟨by rw [Lib.bytesWorld_size]; omega, fun j x hx => bytes_cells W s j x hx, fun j hj => ?_⟩
  rw [sl_len] at hj
  simp only [World.frozen?, Lib.bytesWorld_at_new]
  have : s.size ≤ (Lib.bytesCells W 5 s).size := by
    simp [Lib.bytesCells]
    try omega
  simp
  omega
theorem Wb.set {w : World} {b : Nat} {L : List UInt8} (h : Wb w b L) (j : Nat) (y : UInt8) : Wb (w.setCell ⟨b, j, none⟩ (.int .u8 (y.toNat : Int))) b (L.set j y) := by
  refine ⟨by simp [World.setCell]; exact h.lt, fun i x hx => ?_, fun i hi => ?_⟩
  · by_cases e : j = i
    · subst e
      have hj : j < L.length := by
        have := (List.getElem?_eq_some_iff.1 hx).1
        simpa using this
      rw [List.getElem?_set_self (by simpa using hj)] at hx
      obtain rfl := Option.some.inj hx
      obtain ⟨z, hz⟩ : ∃ z, L[j]? = some z := ⟨_, List.getElem?_eq_getElem hj⟩
      exact World.cell?_setCell_same _ _ _ (h.at_ j z hz)
    · rw [List.getElem?_set_ne e] at hx
      rw [World.cell?_setCell_other _ _ _ _ (by first | (simp; done) | (simp; omega))]
      exact h.at_ i x hx
  · rw [World.frozen?_setCell]
    exact h.fz i (by simpa using hi)
theorem Wb.bytes {w : World} {b : Nat} {L : List UInt8} (h : Wb w b L) (n c : Nat) (hn : L.length = n) (hc : n ≤ c) : (convert 39 9 (.slice (some ⟨b, 0, none⟩) n c)).run Tryz.prog w = .ok (.string (ba L)) w :=
  cvt_back w (some ⟨b, 0, none⟩) n c L ⟨hn, hc, fun _ => ⟨b, 0, rfl, fun j x hx => by rw [Nat.zero_add]; exact h.at_ j x hx⟩⟩ (by simp)
theorem xne (x m : UInt8) (h : x ^^^ m = x) : m = 0 := by
  have h2 := congrArg (fun z => x ^^^ z) h
  simp only [← UInt8.xor_assoc, UInt8.xor_self, UInt8.zero_xor] at h2
  exact h2
theorem sealed_turned {B t : List UInt8} {key : ByteArray} (h4 : 4 ≤ B.length) (ht : t.length = 32) (hk : 3 ≤ kindL B ∧ kindL B ≤ 7) (hm : hmacB key (ba B) = ba t) {j : Nat} (hj : j < 32) {x m : UInt8} (hx : (B ++ t)[B.length + j]? = some x) (hm0 : m ≠ 0) : sealed (ba ((B ++ t).set (B.length + j) (x ^^^ m))) key = false := by
  rw [List.set_append_right _ _ (by omega), show B.length + j - B.length = j by omega, sealed_cut h4 (by rw [List.length_set]; exact ht) hk, hm]
  refine decide_eq_false (fun q => hm0 (xne x m ?_))
  have e := ba_inj2 q
  rw [List.getElem?_append_right (by omega), show B.length + j - B.length = j by omega] at hx
  have e2 := congrArg (fun l => l[j]?) e
  simp only [List.getElem?_set_self (show j < t.length by omega)] at e2
  rw [hx] at e2
  exact Option.some.inj e2
theorem eqd (a b : ByteArray) : (a.toList == b.toList) = decide (b = a) := by
  rw [beqL]
  by_cases h : b = a
  · subst h; simp
  · rw [decide_eq_false h]
    exact decide_eq_false (fun q => h (sl_inj (a := a) (b := b) q).symm)
theorem short_all {B t : List UInt8} (hn : 20 ≤ B.length) (ht : t.length = 32) (hk : 3 ≤ kindL B ∧ kindL B ≤ 7) : ∃ B3 t3 : List UInt8, (ba (B ++ t)).extract 0 (B.length + 31) = ba (B3 ++ t3) ∧ t3.length = 32 ∧ 4 ≤ B3.length ∧ (3 ≤ kindL B3 ∧ kindL B3 ≤ 7) ∧ B3.length + 32 = B.length + 31 := by
  have hl : ((B ++ t).take (B.length + 31)).length = B.length + 31 := by rw [List.length_take, List.length_append]; omega
  have hb : ((B ++ t).take (B.length + 31)).take (B.length - 1) = B.take (B.length - 1) := by
    rw [List.take_take, show min (B.length - 1) (B.length + 31) = B.length - 1 by omega, List.take_append_of_le_length (by omega)]
  refine ⟨((B ++ t).take (B.length + 31)).take (B.length - 1), ((B ++ t).take (B.length + 31)).drop (B.length - 1), ?_, by rw [List.length_drop, hl]; omega, by rw [List.length_take, hl]; omega, ?_, by rw [List.length_take, hl]; omega⟩
  · rw [List.take_append_drop, ext_to, show sl (ba (B ++ t)) = B ++ t from sl_mk _]
  · rw [hb]
    have e := kindL_app (B := B.take (B.length - 1)) (by rw [List.length_take]; omega) (B.drop (B.length - 1))
    rw [List.take_append_drop] at e
    rw [← e]; exact hk
theorem last_cut {B3 t3 : List UInt8} (ht : t3.length = 32) : (ba (B3 ++ t3)).extract ((ba (B3 ++ t3)).size - 32) (ba (B3 ++ t3)).size = ba t3 := by
  apply sl_inj
  rw [show sl ((ba (B3 ++ t3)).extract ((ba (B3 ++ t3)).size - 32) (ba (B3 ++ t3)).size) = (sl (ba (B3 ++ t3))).drop ((ba (B3 ++ t3)).size - 32) from sl_extract _ _, show sl (ba (B3 ++ t3)) = B3 ++ t3 from sl_mk _, ba_size, List.length_append, ht, Nat.add_sub_cancel, List.drop_left]
  exact (sl_mk _).symm
theorem bare_cells (d : Dg) : d.cells.set 14 (.string zero32) = d.bare.cells := rfl
theorem wear_cells (d : Dg) (x : ByteArray) : d.cells.set 14 (.string x) = (d.wear x).cells := rfl
theorem last_c (s : ByteArray) (w : World) (h36 : 36 ≤ s.size) (hs : s.size ≤ 1000000) :
    Calls Tryz.prog 19 #[.string s] w fun e w' => e = .returned (.string (s.extract (s.size - 32) s.size)) ∧ w' = w := by
  have h1 : ¬ (s.size : Int) < 36 := by omega
  have h2 : IntKind.i64.wrap ((s.size : Int) - 32) = ((s.size - 32 : Nat) : Int) := by rw [show (s.size : Int) - 32 = ((s.size - 32 : Nat) : Int) by omega]; exact IntWalk.i64_in _ (by omega)
  have h3 : (0 : Int) ≤ ((s.size - 32 : Nat) : Int) := by omega
  have h4 : ((s.size - 32 : Nat) : Int) ≤ (s.size : Int) := by omega
  go_enter Tryz.func19, Tryz.ntmps19
  go_wp2_with fail
  go_ret
  exact ⟨rfl, rfl⟩
set_option maxHeartbeats 400000000 in
set_option maxRecDepth 100000 in
theorem seals_c (d : Dg) (key other : ByteArray) (w : World) (hk : Kc w) (hd : d.fine ∧ d.small) (hkey : key.size ≤ 1048576) (hother : other.size ≤ 1048576) :
    Calls Tryz.prog 6 #[dv d, .string key, .string other] w fun e w' => e = .returned (.bool true) ∧ w.grownBy w' none := by
  obtain ⟨du, hdu, hdr⟩ := under26
  have HK := Keep.mk hk
  have HDF := Keep.mk hd
  have HKS : Keep (key.size ≤ 1048576 ∧ other.size ≤ 1048576) := ⟨hkey, hother⟩
  obtain ⟨S, hS⟩ : ∃ x, (sealD d key).1 = x := ⟨_, rfl⟩
  obtain ⟨e, he⟩ : ∃ x, (sealD d key).2 = x := ⟨_, rfl⟩
  have HSE : Keep (∀ W, Kc W → Calls Tryz.prog 10 #[.agg d.cells.toArray, .string key] W fun e' w' => e' = .returned (.tuple #[.string S, .int .i64 e]) ∧ W.grownBy w' none) := ⟨fun W hk => by have := seal_c d key hd.1 hd.2 W hk (by omega); rw [hS, he] at this; exact this⟩
  have HSD : Keep ((sealD d key).1 = S ∧ (sealD d key).2 = e) := ⟨hS, he⟩
  obtain ⟨w0, hw0⟩ : ∃ q, w.alloc (.cells d.cells.toArray 26) = q := ⟨_, rfl⟩
  obtain ⟨h1, g1⟩ := alloc_has hw0
  have HC : Keep (Has w0 w.heap.size d.cells 26 ∧ w.grownBy w0 none) := ⟨h1, g1⟩
  have HLO : Keep (w.heap.size ≤ w.heap.size) := ⟨Nat.le_refl _⟩
  have q1 : w.alloc (.cells #[.int .i64 d.kind, .string d.nonce, .int .u64 d.epoch, .string d.cookie, .string d.name, .int .u64 d.session, .int .i64 d.player, .string d.salt, .int .u64 d.seq, .int .i64 d.thr, .int .i64 d.turn, .bool d.fire, .bool d.boost, .string d.data, .string d.tag] 26) = w0 := hw0
  clear hw0 h1 g1 hS he hd hkey hother hk
  unfold dv
  go_enter Tryz.func6, Tryz.ntmps6
  go_wp2_with fail
  clear q1
  obtain ⟨b3, hb3⟩ : ∃ q, w.heap.size = q := ⟨_, rfl⟩
  rw [hb3] at HC ⊢
  replace HLO : Keep (w.heap.size ≤ b3) := ⟨by omega⟩
  clear hb3
  refine (alive_c w0 (HK.out.kept HC.out.2 (by simp))).mono ?_
  rintro e' w1 ⟨rfl, gn⟩
  replace HC : Keep (Has w1 b3 d.cells 26 ∧ w.grownBy w1 none) := ⟨(HC.out.1).kept gn (by simp), (HC.out.2).trans gn⟩
  clear gn
  go_wp2_with (refine wpList_load_mid rfl 26 _ rfl _ _ rfl d.cells _ (HC.out.1).range hdu hdr info26 ?_)
  refine (HSE.out w1 (HK.out.kept HC.out.2 (by simp))).mono ?_
  rintro e' w2 ⟨rfl, gn⟩
  replace HC : Keep (Has w2 b3 d.cells 26 ∧ w.grownBy w2 none) := ⟨(HC.out.1).kept gn (by simp), (HC.out.2).trans gn⟩
  clear gn HSE
  by_cases he0 : e = 0
  · subst he0
    have hal := seal_all d key HDF.out.1 HSD.out.2
    rw [HSD.out.1] at hal
    obtain ⟨B, t, rfl, hbod, hmac, ht, hB20, hB12, hkB, hdec, hkd, hsld⟩ := hal
    have HAL : Keep (bodyB (ba (B ++ t)) = ba B ∧ hmacB key (ba B) = ba t ∧ t.length = 32 ∧ 20 ≤ B.length ∧ B.length + 32 ≤ 1200 ∧ (3 ≤ kindL B ∧ kindL B ≤ 7) ∧ dec (B ++ t) = (onlyD (d.wear (ba t)), 0) ∧ (1 ≤ d.kind ∧ d.kind ≤ 7) ∧ sealed (ba (B ++ t)) key = true) := ⟨hbod, hmac, ht, hB20, hB12, hkB, hdec, hkd, hsld⟩
    clear hbod hmac ht hB20 hB12 hkB hdec hkd hsld HSD
    have HLEN : Keep (B.length + 32 ≤ 1200 ∧ 20 ≤ B.length ∧ t.length = 32) := ⟨HAL.out.2.2.2.2.1, HAL.out.2.2.2.1, HAL.out.2.2.1⟩
    obtain ⟨S, hS⟩ : ∃ x, ba (B ++ t) = x := ⟨_, rfl⟩
    obtain ⟨Bd, hBd⟩ : ∃ x, ba B = x := ⟨_, rfl⟩
    obtain ⟨T, hT⟩ : ∃ x, ba t = x := ⟨_, rfl⟩
    obtain ⟨D1, hD1⟩ : ∃ x, onlyD (d.wear T) = x := ⟨_, rfl⟩
    obtain ⟨M, hM⟩ : ∃ M : Int, ((B.length + 32 : Nat) : Int) = M := ⟨_, rfl⟩
    have M0 : 52 ≤ M := by have := HLEN.out; omega
    have M1 : M ≤ 1200 := by have := HLEN.out; omega
    have sS : (S.size : Int) = M := by rw [← hS, ba_size, List.length_append, HLEN.out.2.2]; exact hM
    have sB : (Bd.size : Int) = M - 32 := by rw [← hBd, ba_size]; omega
    have wM : IntKind.i64.wrap (M - 32) = M - 32 := IntWalk.i64_in _ (by omega)
    have M2 : ¬ M < 52 := by omega
    have HSL : Keep (sl S = B ++ t ∧ sl Bd = B ∧ sl T = t) := ⟨by rw [← hS]; exact sl_mk _, by rw [← hBd]; exact sl_mk _, by rw [← hT]; exact sl_mk _⟩
    have HBO : Keep (∀ W, Calls Tryz.prog 14 #[.string S] W fun e w' => e = .returned (.string Bd) ∧ W.grownBy w' none) := ⟨fun W => by have := body_c S W (by omega); rw [← hS, HAL.out.1, hBd, hS] at this; exact this⟩
    have HTA : Keep (∀ W, Kc W → Calls Tryz.prog 17 #[.string key, .string Bd] W fun e w' => e = .returned (.string T) ∧ W.grownBy w' none) := ⟨fun W hk => by have := tag_any key Bd W hk (by have := HKS.out; omega) (by omega); rw [← hBd, HAL.out.2.1, hT, hBd] at this; exact this⟩
    have HDE : Keep (∀ W, Calls Tryz.prog 11 #[.string S] W fun e w' => e = .returned (.tuple #[.agg D1.cells.toArray, .int .i64 0]) ∧ W.grownBy w' none) := ⟨fun W => by have := decode_c S W (by omega); rw [HSL.out.1, HAL.out.2.2.2.2.2.2.1, hT, hD1] at this; exact this⟩
    have HON : Keep (∀ W, Calls Tryz.prog 13 #[.agg (d.wear T).cells.toArray] W fun e w' => e = .returned (.agg D1.cells.toArray) ∧ W.grownBy w' none) := ⟨fun W => by have := only_c (d.wear T) W HAL.out.2.2.2.2.2.2.2.1; rw [hD1] at this; exact this⟩
    have HSK : Keep (∀ W, Kc W → Calls Tryz.prog 18 #[.string S, .string key] W fun e w' => e = .returned (.bool true) ∧ W.grownBy w' none) := ⟨fun W hk => by have := sealed_c S key W hk (by omega) (by have := HKS.out; omega); rw [← hS, HAL.out.2.2.2.2.2.2.2.2, hS] at this; exact this⟩
    have sT : T.size = 32 := by rw [← hT, ba_size]; exact HLEN.out.2.2
    have bAdd : ∀ W, (Op.stringOp .add Bd T).run Tryz.prog W = .ok (.string S) W := fun W => by
      have h : Bd ++ T = S := by
        apply sl_inj
        rw [sl_app, HSL.out.1, HSL.out.2.1, HSL.out.2.2]
      rw [← h]; exact addS Bd T (by omega) W
    have HKB : Keep ((3 ≤ kindL B ∧ kindL B ≤ 7) ∧ hmacB key Bd = T) := ⟨HAL.out.2.2.2.2.2.1, by rw [← hBd, ← hT]; exact HAL.out.2.1⟩
    have HNM : Keep (ba (B ++ t) = S ∧ ba B = Bd ∧ ba t = T ∧ ((B.length + 32 : Nat) : Int) = M) := ⟨hS, hBd, hT, hM⟩
    rw [hS]
    clear hS hBd hT hD1 hM HAL
    go_wp2_with fail
    refine (HBO.out _).mono ?_
    rintro e' w3 ⟨rfl, gn⟩
    replace HC : Keep (Has w3 b3 d.cells 26 ∧ w.grownBy w3 none) := ⟨(HC.out.1).kept gn (by simp), (HC.out.2).trans gn⟩
    clear gn
    go_wp2_with fail
    refine (HTA.out _ (HK.out.kept HC.out.2 (by simp))).mono ?_
    rintro e' w4 ⟨rfl, gn⟩
    replace HC : Keep (Has w4 b3 d.cells 26 ∧ w.grownBy w4 none) := ⟨(HC.out.1).kept gn (by simp), (HC.out.2).trans gn⟩
    clear gn
    go_wp2_with fail
    refine (HDE.out _).mono ?_
    rintro e' w5 ⟨rfl, gn⟩
    replace HC : Keep (Has w5 b3 d.cells 26 ∧ w.grownBy w5 none) := ⟨(HC.out.1).kept gn (by simp), (HC.out.2).trans gn⟩
    clear gn
    go_wp2_with (
      (refine store_dg w5 D1 rfl rfl rfl rfl rfl ?_
       intro w6 hs gs
       obtain ⟨b15, hblk⟩ : ∃ q, w5.heap.size = q := ⟨_, rfl⟩
       rw [hblk] at hs
       have HNB : Keep (b3 ≠ b15) := ⟨by have := HC.out.1.lt; omega⟩
       have HC2 : Keep (Has w6 b15 D1.cells 26 ∧ Has w6 b3 d.cells 26 ∧ w.grownBy w6 none) := ⟨hs, (HC.out.1).kept gs (by simp), HC.out.2.trans gs⟩
       have z14 := HC2.out.2.1.frozen 14
       have c14 : w6.cell? ⟨b3, 14, none⟩ = some (.string d.tag) := HC2.out.2.1.cellv 14 _ rfl
       clear hs gs))
    clear hblk HC
    have HC : Keep (Has (w6.setCell ⟨b3, 14, none⟩ (.string T)) b15 D1.cells 26 ∧ Has (w6.setCell ⟨b3, 14, none⟩ (.string T)) b3 (d.wear T).cells 26 ∧ w.grownBy (w6.setCell ⟨b3, 14, none⟩ (.string T)) none) := ⟨HC2.out.1.other ⟨b3, 14, none⟩ _ HNB.out, HC2.out.2.1.setCell 14 (.string T), gr_new HC2.out.2.2 (gr_set w6 b3 14 _) HLO.out⟩
    generalize hw7 : w6.setCell ⟨b3, 14, none⟩ (.string T) = w7 at HC ⊢
    clear hw7 z14 c14 HC2
    have HH : Keep (Has w7.drew b15 D1.cells 26 ∧ Has w7.drew b3 (d.wear T).cells 26 ∧ w.grownBy w7.drew none) := ⟨HC.out.1.kept (gr_drew _ none) (by simp), HC.out.2.1.kept (gr_drew _ none) (by simp), HC.out.2.2.trans (gr_drew _ _)⟩
    refine wp_region_held_drew (S := fun w' => Has w' b15 D1.cells 26 ∧ Has w' b3 (d.wear T).cells 26 ∧ w.grownBy w' none) (by kernel_rfl) HH.out (fun hHeld => ?_)
    refine wpAnyH_take (i := 0) (oi := _) (v := ?_) rfl (by kernel_rfl) (by kernel_rfl) (by kernel_rfl) (fun _ _ _ h => h) (Or.inl ⟨by rfl, ?_⟩) (by assumption) ?_
    rotate_left
    · (intro w hSw; go_simp; first | done | (with_reducible rfl))
    simp only [Act.put, List.getElem_toArray, List.getElem_cons_zero, List.setIfInBounds_toArray, List.set_cons_zero, List.set_cons_succ]
    refine wpAnyH_take (i := 1) (oi := _) (v := ?_) rfl (by kernel_rfl) (by kernel_rfl) (by kernel_rfl) (fun _ _ _ h => h) (Or.inl ⟨by rfl, ?_⟩) (by assumption) ?_
    rotate_left
    · (intro w hSw; go_simp; first | done | (with_reducible rfl))
    simp only [Act.put, List.getElem_toArray, List.getElem_cons_succ, List.getElem_cons_zero, List.setIfInBounds_toArray, List.set_cons_zero, List.set_cons_succ]
    refine wpAnyH_take (i := 2) (oi := _) (v := ?_) rfl (by kernel_rfl) (by kernel_rfl) (by kernel_rfl) (fun _ _ _ h => h) (Or.inl ⟨by rfl, ?_⟩) (by assumption) ?_
    rotate_left
    · (intro w hSw; go_simp; first | done | (with_reducible rfl))
    simp only [Act.put, List.getElem_toArray, List.getElem_cons_succ, List.getElem_cons_zero, List.setIfInBounds_toArray, List.set_cons_zero, List.set_cons_succ]
    refine wpAnyH_take (i := 3) (oi := _) (v := ?_) rfl (by kernel_rfl) (by kernel_rfl) (by kernel_rfl) (fun _ _ _ h => h) (Or.inl ⟨by rfl, ?_⟩) (by assumption) ?_
    rotate_left
    · (intro w hSw; go_simp; first | done | (with_reducible rfl))
    simp only [Act.put, List.getElem_toArray, List.getElem_cons_succ, List.getElem_cons_zero, List.setIfInBounds_toArray, List.set_cons_zero, List.set_cons_succ]
    refine wpAnyH_take (i := 4) (oi := _) (v := ?_) rfl (by kernel_rfl) (by kernel_rfl) (by kernel_rfl) (fun _ _ _ h => h) (Or.inl ⟨by rfl, ?_⟩) (by assumption) ?_
    rotate_left
    · (intro w hSw; go_simp; first | done | (with_reducible rfl))
    simp only [Act.put, List.getElem_toArray, List.getElem_cons_succ, List.getElem_cons_zero, List.setIfInBounds_toArray, List.set_cons_zero, List.set_cons_succ]
    refine wpAnyH_take (i := 5) (oi := _) (v := ?_) rfl (by kernel_rfl) (by kernel_rfl) (by kernel_rfl) (fun _ _ _ h => h) (Or.inl ⟨by rfl, ?_⟩) (by assumption) ?_
    rotate_left
    · (intro w hSw; go_simp; first | done | (with_reducible rfl))
    simp only [Act.put, List.getElem_toArray, List.getElem_cons_succ, List.getElem_cons_zero, List.setIfInBounds_toArray, List.set_cons_zero, List.set_cons_succ]
    refine wpAnyH_take (i := 6) (oi := _) (v := ?_) rfl (by kernel_rfl) (by kernel_rfl) (by kernel_rfl) (fun _ _ _ h => h) (Or.inl ⟨by rfl, ?_⟩) (by assumption) ?_
    rotate_left
    · (intro w hSw; go_simp; first | done | (with_reducible rfl))
    simp only [Act.put, List.getElem_toArray, List.getElem_cons_succ, List.getElem_cons_zero, List.setIfInBounds_toArray, List.set_cons_zero, List.set_cons_succ]
    refine wpAnyH_take (i := 7) (oi := _) (v := ?_) rfl (by kernel_rfl) (by kernel_rfl) (by kernel_rfl) (fun _ _ _ h => h) (Or.inl ⟨by rfl, ?_⟩) (by assumption) ?_
    rotate_left
    · (intro w hSw; go_simp; first | done | (with_reducible rfl))
    simp only [Act.put, List.getElem_toArray, List.getElem_cons_succ, List.getElem_cons_zero, List.setIfInBounds_toArray, List.set_cons_zero, List.set_cons_succ]
    refine wpAnyH_take (i := 8) (oi := _) (v := ?_) rfl (by kernel_rfl) (by kernel_rfl) (by kernel_rfl) (fun _ _ _ h => h) (Or.inl ⟨by rfl, ?_⟩) (by assumption) ?_
    rotate_left
    · (intro w hSw; go_simp; first | done | (with_reducible rfl))
    simp only [Act.put, List.getElem_toArray, List.getElem_cons_succ, List.getElem_cons_zero, List.setIfInBounds_toArray, List.set_cons_zero, List.set_cons_succ]
    refine wpAnyH_take (i := 9) (oi := _) (v := ?_) rfl (by kernel_rfl) (by kernel_rfl) (by kernel_rfl) (fun _ _ _ h => h) (Or.inl ⟨by rfl, ?_⟩) (by assumption) ?_
    rotate_left
    · (intro w hSw; go_simp; first | done | (with_reducible rfl))
    simp only [Act.put, List.getElem_toArray, List.getElem_cons_succ, List.getElem_cons_zero, List.setIfInBounds_toArray, List.set_cons_zero, List.set_cons_succ]
    refine wpAnyH_take (i := 10) (oi := _) (v := .agg D1.cells.toArray) rfl (by kernel_rfl) (by kernel_rfl) (by kernel_rfl) (fun _ _ _ h => h) (yieldsIf_load_mid (by rfl) 26 _ rfl b15 0 rfl D1.cells du (fun w h => h.1.range) hdu hdr info26) (by assumption) ?_
    simp only [Act.put, List.getElem_toArray, List.getElem_cons_succ, List.getElem_cons_zero, List.setIfInBounds_toArray, List.set_cons_zero, List.set_cons_succ]
    refine wpAnyH_take (i := 11) (oi := _) (v := .agg (d.wear T).cells.toArray) rfl (by kernel_rfl) (by kernel_rfl) (by kernel_rfl) (fun _ _ _ h => h) (yieldsIf_load_mid (by rfl) 26 _ rfl b3 0 rfl (d.wear T).cells du (fun w h => h.2.1.range) hdu hdr info26) (by assumption) ?_
    simp only [Act.put, List.getElem_toArray, List.getElem_cons_succ, List.getElem_cons_zero, List.setIfInBounds_toArray, List.set_cons_zero, List.set_cons_succ]
    refine wpAnyH_ready (rs := [12]) (by kernel_rfl) (by simp) ?_
    refine AllReadyH.cons rfl (fun K hK => ?_) AllReadyH.nil
    go_simp
    refine (HON.out _).mono ?_
    rintro e' w8 ⟨rfl, gn⟩
    have HS : Keep (Has w8 b15 D1.cells 26 ∧ Has w8 b3 (d.wear T).cells 26 ∧ w.grownBy w8 none) := ⟨HH.out.1.kept gn (by simp), HH.out.2.1.kept gn (by simp), HH.out.2.2.trans gn⟩
    clear gn
    refine hK.out _ _ HS.out (fun hHeld => ?_)
    clear hK K
    refine wpAnyH_take (i := 13) (oi := _) (v := ?_) rfl (by kernel_rfl) (by kernel_rfl) (by kernel_rfl) (fun _ _ _ h => h) (Or.inl ⟨by rfl, ?_⟩) (by assumption) ?_
    rotate_left
    · (intro w hSw; have hEq := eqI26 D1 w; have hE2 := neq26 D1 w; go_simp; first | done | (with_reducible rfl))
    simp only [Act.put, List.getElem_toArray, List.getElem_cons_succ, List.getElem_cons_zero, List.setIfInBounds_toArray, List.set_cons_zero, List.set_cons_succ]
    refine wpAnyH_take (i := 14) (oi := _) (v := ?_) rfl (by kernel_rfl) (by kernel_rfl) (by kernel_rfl) (fun _ _ _ h => h) (Or.inl ⟨by rfl, ?_⟩) (by assumption) ?_
    rotate_left
    · (intro w hSw; go_simp; first | done | (with_reducible rfl))
    simp only [Act.put, List.getElem_toArray, List.getElem_cons_succ, List.getElem_cons_zero, List.setIfInBounds_toArray, List.set_cons_zero, List.set_cons_succ]
    refine wpAnyH_take (i := 15) (oi := _) (v := ?_) rfl (by kernel_rfl) (by kernel_rfl) (by kernel_rfl) (fun _ _ _ h => h) (Or.inl ⟨by rfl, ?_⟩) (by assumption) ?_
    rotate_left
    · (intro w hSw; go_simp; first | done | (with_reducible rfl))
    simp only [Act.put, List.getElem_toArray, List.getElem_cons_succ, List.getElem_cons_zero, List.setIfInBounds_toArray, List.set_cons_zero, List.set_cons_succ]
    refine wpAnyH_take (i := 16) (oi := _) (v := ?_) rfl (by kernel_rfl) (by kernel_rfl) (by kernel_rfl) (fun _ _ _ h => h) (Or.inl ⟨by rfl, ?_⟩) (by assumption) ?_
    rotate_left
    · (intro w hSw; go_simp; first | done | (with_reducible rfl))
    simp only [Act.put, List.getElem_toArray, List.getElem_cons_succ, List.getElem_cons_zero, List.setIfInBounds_toArray, List.set_cons_zero, List.set_cons_succ]
    refine wpAnyH_take (i := 17) (oi := _) (v := ?_) rfl (by kernel_rfl) (by kernel_rfl) (by kernel_rfl) (fun _ _ _ h => h) (Or.inl ⟨by rfl, ?_⟩) (by assumption) ?_
    rotate_left
    · (intro w hSw; go_simp; first | done | (with_reducible rfl))
    simp only [Act.put, List.getElem_toArray, List.getElem_cons_succ, List.getElem_cons_zero, List.setIfInBounds_toArray, List.set_cons_zero, List.set_cons_succ]
    refine wpAnyH_ready (rs := [18]) (by kernel_rfl) (by simp) ?_
    refine AllReadyH.cons rfl (fun K hK => ?_) AllReadyH.nil
    go_simp
    refine (HSK.out _ (HK.out.kept HS.out.2.2 (by simp))).mono ?_
    rintro e' w9 ⟨rfl, gn⟩
    have HT9 : Keep (Has w9 b15 D1.cells 26 ∧ Has w9 b3 (d.wear T).cells 26 ∧ w.grownBy w9 none) := ⟨HS.out.1.kept gn (by simp), HS.out.2.1.kept gn (by simp), HS.out.2.2.trans gn⟩
    clear gn
    refine hK.out _ _ HT9.out (fun hHeld => ?_)
    clear hK K
    refine wpAnyH_take (i := 19) (oi := _) (v := ?_) rfl (by kernel_rfl) (by kernel_rfl) (by kernel_rfl) (fun _ _ _ h => h) (Or.inl ⟨by rfl, ?_⟩) (by assumption) ?_
    rotate_left
    · (intro w hSw; go_simp; first | done | (with_reducible rfl))
    simp only [Act.put, List.getElem_toArray, List.getElem_cons_succ, List.getElem_cons_zero, List.setIfInBounds_toArray, List.set_cons_zero, List.set_cons_succ]
    refine wpAnyH_take (i := 20) (oi := _) (v := ?_) rfl (by kernel_rfl) (by kernel_rfl) (by kernel_rfl) (fun _ _ _ h => h) (Or.inl ⟨by rfl, ?_⟩) (by assumption) ?_
    rotate_left
    · (intro w hSw; go_simp; first | done | (with_reducible rfl))
    simp only [Act.put, List.getElem_toArray, List.getElem_cons_succ, List.getElem_cons_zero, List.setIfInBounds_toArray, List.set_cons_zero, List.set_cons_succ]
    refine wpAnyH_done (by kernel_rfl) ?_ _
    have HG : Keep (w.grownBy w9 none) := ⟨HT9.out.2.2⟩
    clear HT9 HS HH HC hHeld HON HDE HTA HBO HSK
    go_wp2_with fail
    clear bAdd wM M2 sT
    have HCV : Keep (∀ W, (convert 9 39 (.string S)).run Tryz.prog W = .ok (.slice (some ⟨W.heap.size, 0, none⟩) S.size (grownCap W S.size 0 5)) (Lib.bytesWorld W 5 S)) := ⟨fun W => cvt S W⟩
    go_loopw [17] (fun s w' => ∃ i : Nat, i ≤ 32 ∧ s = .int .i64 (i : Nat) ∧ Keep (w.grownBy w' none)) (fun s _ => 32 - (intOf s).toNat)
    case atStart => exact ⟨0, by omega, rfl, HG⟩
    case round =>
      clear HG
      obtain ⟨i, i1, rfl, HG⟩ := hrel
      by_cases hi : i < 32
      · have hia : (i : Int) < 32 := by omega
        obtain ⟨p, hp⟩ : ∃ p, B.length + 31 - i = p := ⟨_, rfl⟩
        have hpM : M - 1 - (i : Int) = (p : Int) := by have := HLEN.out; have := HNM.out.2.2.2; omega
        have wa : IntKind.i64.wrap (M - 1) = M - 1 := IntWalk.i64_in _ (by omega)
        have wb1 : IntKind.i64.wrap (M - 1 - (i : Int)) = (p : Int) := by rw [hpM]; exact IntWalk.i64_in _ (by omega)
        have wp : IntKind.i64.wrap (p : Int) = (p : Int) := IntWalk.i64_in _ (by omega)
        have p0 : (0 : Int) ≤ (p : Int) := by omega
        have p1 : (p : Int) < M := by omega
        have p2 : p < S.size := by omega
        have p3 : ((p : Nat) : Int).toNat = p := by omega
        have hcvt := HCV.out wr
        obtain ⟨wb, hwb⟩ : ∃ q, Lib.bytesWorld wr 5 S = q := ⟨_, rfl⟩
        have HW : Keep (Wb wb wr.heap.size (B ++ t) ∧ w.grownBy wb none) := ⟨by rw [← hwb, ← HSL.out.1]; exact Wb.new wr S, by rw [← hwb]; exact HG.out.trans (gr_bytes wr S)⟩
        rw [hwb] at hcvt
        obtain ⟨cap, hcap⟩ : ∃ q, grownCap wr S.size 0 5 = q := ⟨_, rfl⟩
        have HCAP : Keep (S.size ≤ cap) := ⟨by rw [← hcap]; exact grownCap_ge _ _ _ _⟩
        rw [hcap] at hcvt
        obtain ⟨bk, hbk⟩ : ∃ q, wr.heap.size = q := ⟨_, rfl⟩
        have HBK : Keep (w.heap.size ≤ bk) := ⟨by rw [← hbk]; exact HG.out.size⟩
        rw [hbk] at hcvt HW
        clear hwb hcap hbk
        go_wp2_with fail
        clear hcvt
        obtain ⟨x, hx⟩ : ∃ x, (B ++ t)[p]? = some x := ⟨_, List.getElem?_eq_getElem (by rw [List.length_append]; have := HLEN.out; have := HNM.out.2.2.2; omega)⟩
        have HWD : Keep (Wb wb.drew bk (B ++ t) ∧ w.grownBy wb.drew none) := ⟨⟨HW.out.1.lt, HW.out.1.at_, HW.out.1.fz⟩, HW.out.2.trans (gr_drew _ _)⟩
        rcases (show i % 8 = 0 ∨ i % 8 = 1 ∨ i % 8 = 2 ∨ i % 8 = 3 ∨ i % 8 = 4 ∨ i % 8 = 5 ∨ i % 8 = 6 ∨ i % 8 = 7 by omega) with hq | hq | hq | hq | hq | hq | hq | hq
        · have hrm : (i : Int).tmod 8 = 0 := by rw [Int.tmod_eq_emod_of_nonneg (by omega)]; omega
          obtain ⟨y, hy⟩ : ∃ y, x ^^^ 1 = y := ⟨_, rfl⟩
          have hxor : bits .xor .u8 (x.toNat : Int) 1 = (y.toNat : Int) := by rw [← hy]; exact c_xor x 1
          refine wp_region_held_drew (S := fun _ => True) (by kernel_rfl) trivial (fun hHeld => ?_)
          refine wpAnyH_take (i := 0) (oi := _) (v := ?_) rfl (by kernel_rfl) (by kernel_rfl) (by kernel_rfl) (fun _ _ _ h => h) (Or.inl ⟨by rfl, ?_⟩) (by assumption) ?_
          rotate_left
          · (intro w hSw; go_simp; first | done | (with_reducible rfl))
          simp only [Act.put, List.getElem_toArray, List.getElem_cons_zero, List.setIfInBounds_toArray, List.set_cons_zero, List.set_cons_succ]
          refine wpAnyH_take (i := 1) (oi := _) (v := ?_) rfl (by kernel_rfl) (by kernel_rfl) (by kernel_rfl) (fun _ _ _ h => h) (Or.inl ⟨by rfl, ?_⟩) (by assumption) ?_
          rotate_left
          · (intro w hSw; go_simp; first | done | (with_reducible rfl))
          simp only [Act.put, List.getElem_toArray, List.getElem_cons_succ, List.getElem_cons_zero, List.setIfInBounds_toArray, List.set_cons_zero, List.set_cons_succ]
          refine wpAnyH_take (i := 2) (oi := _) (v := ?_) rfl (by kernel_rfl) (by kernel_rfl) (by kernel_rfl) (fun _ _ _ h => h) (Or.inl ⟨by rfl, ?_⟩) (by assumption) ?_
          rotate_left
          · (intro w hSw; go_simp; first | done | (with_reducible rfl))
          simp only [Act.put, List.getElem_toArray, List.getElem_cons_succ, List.getElem_cons_zero, List.setIfInBounds_toArray, List.set_cons_zero, List.set_cons_succ]
          refine wpAnyH_take (i := 3) (oi := _) (v := ?_) rfl (by kernel_rfl) (by kernel_rfl) (by kernel_rfl) (fun _ _ _ h => h) (Or.inl ⟨by rfl, ?_⟩) (by assumption) ?_
          rotate_left
          · (intro w hSw; go_simp; first | done | (with_reducible rfl))
          simp only [Act.put, List.getElem_toArray, List.getElem_cons_succ, List.getElem_cons_zero, List.setIfInBounds_toArray, List.set_cons_zero, List.set_cons_succ]
          refine wpAnyH_take (i := 4) (oi := _) (v := ?_) rfl (by kernel_rfl) (by kernel_rfl) (by kernel_rfl) (fun _ _ _ h => h) (Or.inl ⟨by rfl, ?_⟩) (by assumption) ?_
          rotate_left
          · (intro w hSw; go_simp; first | done | (with_reducible rfl))
          simp only [Act.put, List.getElem_toArray, List.getElem_cons_succ, List.getElem_cons_zero, List.setIfInBounds_toArray, List.set_cons_zero, List.set_cons_succ]
          refine wpAnyH_take (i := 5) (oi := _) (v := ?_) rfl (by kernel_rfl) (by kernel_rfl) (by kernel_rfl) (fun _ _ _ h => h) (Or.inl ⟨by rfl, ?_⟩) (by assumption) ?_
          rotate_left
          · (intro w hSw; go_simp; first | done | (with_reducible rfl))
          simp only [Act.put, List.getElem_toArray, List.getElem_cons_succ, List.getElem_cons_zero, List.setIfInBounds_toArray, List.set_cons_zero, List.set_cons_succ]
          refine wpAnyH_take (i := 6) (oi := _) (v := ?_) rfl (by kernel_rfl) (by kernel_rfl) (by kernel_rfl) (fun _ _ _ h => h) (Or.inl ⟨by rfl, ?_⟩) (by assumption) ?_
          rotate_left
          · (intro w hSw; go_simp; first | done | (with_reducible rfl))
          simp only [Act.put, List.getElem_toArray, List.getElem_cons_succ, List.getElem_cons_zero, List.setIfInBounds_toArray, List.set_cons_zero, List.set_cons_succ]
          refine wpAnyH_take (i := 7) (oi := _) (v := ?_) rfl (by kernel_rfl) (by kernel_rfl) (by kernel_rfl) (fun _ _ _ h => h) (Or.inl ⟨by rfl, ?_⟩) (by assumption) ?_
          rotate_left
          · (intro w hSw; go_simp; first | done | (with_reducible rfl))
          simp only [Act.put, List.getElem_toArray, List.getElem_cons_succ, List.getElem_cons_zero, List.setIfInBounds_toArray, List.set_cons_zero, List.set_cons_succ]
          refine wpAnyH_take (i := 8) (oi := _) (v := ?_) rfl (by kernel_rfl) (by kernel_rfl) (by kernel_rfl) (fun _ _ _ h => h) (Or.inl ⟨by rfl, ?_⟩) (by assumption) ?_
          rotate_left
          · (intro w hSw; go_simp; first | done | (with_reducible rfl))
          simp only [Act.put, List.getElem_toArray, List.getElem_cons_succ, List.getElem_cons_zero, List.setIfInBounds_toArray, List.set_cons_zero, List.set_cons_succ]
          refine wpAnyH_take (i := 9) (oi := _) (v := ?_) rfl (by kernel_rfl) (by kernel_rfl) (by kernel_rfl) (fun _ _ _ h => h) (Or.inl ⟨by rfl, ?_⟩) (by assumption) ?_
          rotate_left
          · (intro w hSw; go_simp; first | done | (with_reducible rfl))
          simp only [Act.put, List.getElem_toArray, List.getElem_cons_succ, List.getElem_cons_zero, List.setIfInBounds_toArray, List.set_cons_zero, List.set_cons_succ]
          refine wpAnyH_take (i := 10) (oi := _) (v := ?_) rfl (by kernel_rfl) (by kernel_rfl) (by kernel_rfl) (fun _ _ _ h => h) (Or.inl ⟨by rfl, ?_⟩) (by assumption) ?_
          rotate_left
          · (intro w hSw; go_simp; first | done | (with_reducible rfl))
          simp only [Act.put, List.getElem_toArray, List.getElem_cons_succ, List.getElem_cons_zero, List.setIfInBounds_toArray, List.set_cons_zero, List.set_cons_succ]
          refine wpAnyH_take (i := 11) (oi := _) (v := ?_) rfl (by kernel_rfl) (by kernel_rfl) (by kernel_rfl) (fun _ _ _ h => h) (Or.inl ⟨by rfl, ?_⟩) (by assumption) ?_
          rotate_left
          · (intro w hSw; go_simp; first | done | (with_reducible rfl))
          simp only [Act.put, List.getElem_toArray, List.getElem_cons_succ, List.getElem_cons_zero, List.setIfInBounds_toArray, List.set_cons_zero, List.set_cons_succ]
          refine wpAnyH_take (i := 12) (oi := _) (v := ?_) rfl (by kernel_rfl) (by kernel_rfl) (by kernel_rfl) (fun _ _ _ h => h) (Or.inl ⟨by rfl, ?_⟩) (by assumption) ?_
          rotate_left
          · (intro w hSw; go_simp; first | done | (with_reducible rfl))
          simp only [Act.put, List.getElem_toArray, List.getElem_cons_succ, List.getElem_cons_zero, List.setIfInBounds_toArray, List.set_cons_zero, List.set_cons_succ]
          refine wpAnyH_take (i := 14) (oi := _) (v := ?_) rfl (by kernel_rfl) (by kernel_rfl) (by kernel_rfl) (fun _ _ _ h => h) (Or.inl ⟨by rfl, ?_⟩) (by assumption) ?_
          rotate_left
          · (intro w hSw; go_simp; first | done | (with_reducible rfl))
          simp only [Act.put, List.getElem_toArray, List.getElem_cons_succ, List.getElem_cons_zero, List.setIfInBounds_toArray, List.set_cons_zero, List.set_cons_succ]
          refine wpAnyH_take (i := 15) (oi := _) (v := ?_) rfl (by kernel_rfl) (by kernel_rfl) (by kernel_rfl) (fun _ _ _ h => h) (Or.inl ⟨by rfl, ?_⟩) (by assumption) ?_
          rotate_left
          · (intro w hSw; go_simp; first | done | (with_reducible rfl))
          simp only [Act.put, List.getElem_toArray, List.getElem_cons_succ, List.getElem_cons_zero, List.setIfInBounds_toArray, List.set_cons_zero, List.set_cons_succ]
          refine wpAnyH_take (i := 16) (oi := _) (v := ?_) rfl (by kernel_rfl) (by kernel_rfl) (by kernel_rfl) (fun _ _ _ h => h) (Or.inl ⟨by rfl, ?_⟩) (by assumption) ?_
          rotate_left
          · (intro w hSw; go_simp; first | done | (with_reducible rfl))
          simp only [Act.put, List.getElem_toArray, List.getElem_cons_succ, List.getElem_cons_zero, List.setIfInBounds_toArray, List.set_cons_zero, List.set_cons_succ]
          have xc := HWD.out.1.at_ p x hx
          have xz := HWD.out.1.fz p (List.getElem?_eq_some_iff.1 hx).1
          generalize wb.drew = wd at *
          refine wpAnyH_ready (rs := [13]) (by kernel_rfl) (by simp) ?_
          refine AllReadyH.cons rfl (fun K hK => ?_) AllReadyH.nil
          go_simp
          refine hK.out _ _ trivial (fun hHeld => ?_)
          clear hK K
          refine wpAnyH_take (i := 17) (oi := _) (v := ?_) rfl (by kernel_rfl) (by kernel_rfl) (by kernel_rfl) (fun _ _ _ h => h) (Or.inl ⟨by rfl, ?_⟩) (by assumption) ?_
          rotate_left
          · (intro w hSw; go_simp; first | done | (with_reducible rfl))
          simp only [Act.put, List.getElem_toArray, List.getElem_cons_succ, List.getElem_cons_zero, List.setIfInBounds_toArray, List.set_cons_zero, List.set_cons_succ]
          refine wpAnyH_take (i := 18) (oi := _) (v := ?_) rfl (by kernel_rfl) (by kernel_rfl) (by kernel_rfl) (fun _ _ _ h => h) (Or.inl ⟨by rfl, ?_⟩) (by assumption) ?_
          rotate_left
          · (intro w hSw; go_simp; first | done | (with_reducible rfl))
          simp only [Act.put, List.getElem_toArray, List.getElem_cons_succ, List.getElem_cons_zero, List.setIfInBounds_toArray, List.set_cons_zero, List.set_cons_succ]
          obtain ⟨we, hwe⟩ : ∃ q, wd.setCell ⟨bk, p, none⟩ (.int .u8 (bits .xor .u8 (x.toNat : Int) 1)) = q := ⟨_, rfl⟩
          have HE : Keep (Wb we bk ((B ++ t).set p y) ∧ w.grownBy we none) := ⟨by rw [← hwe, hxor]; exact HWD.out.1.set p y, by rw [← hwe]; exact gr_new HWD.out.2 (gr_set wd bk p _) HBK.out⟩
          have hcv2 := HE.out.1.bytes S.size cap (by rw [List.length_set]; have := congrArg List.length HSL.out.1; rw [sl_len] at this; exact this.symm) HCAP.out
          obtain ⟨S2, hS2⟩ : ∃ q, ba ((B ++ t).set p y) = q := ⟨_, rfl⟩
          rw [hS2] at hcv2
          have HSN : Keep (Calls Tryz.prog 18 #[.string S2, .string key] we fun e w' => e = .returned (.bool false) ∧ we.grownBy w' none) := ⟨by
            have hss : S2.size = (B ++ t).length := by rw [← hS2, ba_size, List.length_set]
            have hc := sealed_c S2 key we (HK.out.kept HE.out.2 (by simp)) (by rw [hss, List.length_append]; have := HLEN.out; omega) (by have := HKS.out; omega)
            have hf : sealed S2 key = false := by
              rw [← hS2, ← hy, ← hp, show B.length + 31 - i = B.length + (31 - i) by omega]
              exact sealed_turned (by have := HLEN.out; omega) HLEN.out.2.2 HKB.out.1 (by rw [HNM.out.2.1, HNM.out.2.2.1]; exact HKB.out.2) (by omega) (by rw [show B.length + (31 - i) = p by omega]; exact hx) (by decide)
            rw [hf] at hc; exact hc⟩

          refine wpAnyH_ready (rs := [19]) (by kernel_rfl) (by simp) ?_
          refine AllReadyH.cons rfl (fun K hK => ?_) AllReadyH.nil
          go_simp
          go_wp2_with fail
          refine hK.out _ _ trivial (fun hHeld => ?_)
          refine wpAnyH_done (by kernel_rfl) ?_ _
          clear hK K xz xc HWD HW
          generalize hwx : World.setCell wd { block := bk, off := p } _ = wx
          have hx2 : wx = we := hwx.symm.trans (Eq.trans (by rfl) hwe)
          clear hwx hwe
          subst hx2
          go_wp2_with fail
          refine HSN.out.mono ?_
          rintro e' wf ⟨rfl, gn⟩
          have HF : Keep (w.grownBy wf none) := ⟨HE.out.2.trans gn⟩
          clear gn
          go_wp2_with fail
          refine ⟨⟨i + 1, by omega, rfl, HF⟩, ?_⟩
          simp only [intOf]; omega
        · have hrm : (i : Int).tmod 8 = 1 := by rw [Int.tmod_eq_emod_of_nonneg (by omega)]; omega
          obtain ⟨y, hy⟩ : ∃ y, x ^^^ 2 = y := ⟨_, rfl⟩
          have hxor : bits .xor .u8 (x.toNat : Int) 2 = (y.toNat : Int) := by rw [← hy]; exact c_xor x 2
          refine wp_region_held_drew (S := fun _ => True) (by kernel_rfl) trivial (fun hHeld => ?_)
          refine wpAnyH_take (i := 0) (oi := _) (v := ?_) rfl (by kernel_rfl) (by kernel_rfl) (by kernel_rfl) (fun _ _ _ h => h) (Or.inl ⟨by rfl, ?_⟩) (by assumption) ?_
          rotate_left
          · (intro w hSw; go_simp; first | done | (with_reducible rfl))
          simp only [Act.put, List.getElem_toArray, List.getElem_cons_zero, List.setIfInBounds_toArray, List.set_cons_zero, List.set_cons_succ]
          refine wpAnyH_take (i := 1) (oi := _) (v := ?_) rfl (by kernel_rfl) (by kernel_rfl) (by kernel_rfl) (fun _ _ _ h => h) (Or.inl ⟨by rfl, ?_⟩) (by assumption) ?_
          rotate_left
          · (intro w hSw; go_simp; first | done | (with_reducible rfl))
          simp only [Act.put, List.getElem_toArray, List.getElem_cons_succ, List.getElem_cons_zero, List.setIfInBounds_toArray, List.set_cons_zero, List.set_cons_succ]
          refine wpAnyH_take (i := 2) (oi := _) (v := ?_) rfl (by kernel_rfl) (by kernel_rfl) (by kernel_rfl) (fun _ _ _ h => h) (Or.inl ⟨by rfl, ?_⟩) (by assumption) ?_
          rotate_left
          · (intro w hSw; go_simp; first | done | (with_reducible rfl))
          simp only [Act.put, List.getElem_toArray, List.getElem_cons_succ, List.getElem_cons_zero, List.setIfInBounds_toArray, List.set_cons_zero, List.set_cons_succ]
          refine wpAnyH_take (i := 3) (oi := _) (v := ?_) rfl (by kernel_rfl) (by kernel_rfl) (by kernel_rfl) (fun _ _ _ h => h) (Or.inl ⟨by rfl, ?_⟩) (by assumption) ?_
          rotate_left
          · (intro w hSw; go_simp; first | done | (with_reducible rfl))
          simp only [Act.put, List.getElem_toArray, List.getElem_cons_succ, List.getElem_cons_zero, List.setIfInBounds_toArray, List.set_cons_zero, List.set_cons_succ]
          refine wpAnyH_take (i := 4) (oi := _) (v := ?_) rfl (by kernel_rfl) (by kernel_rfl) (by kernel_rfl) (fun _ _ _ h => h) (Or.inl ⟨by rfl, ?_⟩) (by assumption) ?_
          rotate_left
          · (intro w hSw; go_simp; first | done | (with_reducible rfl))
          simp only [Act.put, List.getElem_toArray, List.getElem_cons_succ, List.getElem_cons_zero, List.setIfInBounds_toArray, List.set_cons_zero, List.set_cons_succ]
          refine wpAnyH_take (i := 5) (oi := _) (v := ?_) rfl (by kernel_rfl) (by kernel_rfl) (by kernel_rfl) (fun _ _ _ h => h) (Or.inl ⟨by rfl, ?_⟩) (by assumption) ?_
          rotate_left
          · (intro w hSw; go_simp; first | done | (with_reducible rfl))
          simp only [Act.put, List.getElem_toArray, List.getElem_cons_succ, List.getElem_cons_zero, List.setIfInBounds_toArray, List.set_cons_zero, List.set_cons_succ]
          refine wpAnyH_take (i := 6) (oi := _) (v := ?_) rfl (by kernel_rfl) (by kernel_rfl) (by kernel_rfl) (fun _ _ _ h => h) (Or.inl ⟨by rfl, ?_⟩) (by assumption) ?_
          rotate_left
          · (intro w hSw; go_simp; first | done | (with_reducible rfl))
          simp only [Act.put, List.getElem_toArray, List.getElem_cons_succ, List.getElem_cons_zero, List.setIfInBounds_toArray, List.set_cons_zero, List.set_cons_succ]
          refine wpAnyH_take (i := 7) (oi := _) (v := ?_) rfl (by kernel_rfl) (by kernel_rfl) (by kernel_rfl) (fun _ _ _ h => h) (Or.inl ⟨by rfl, ?_⟩) (by assumption) ?_
          rotate_left
          · (intro w hSw; go_simp; first | done | (with_reducible rfl))
          simp only [Act.put, List.getElem_toArray, List.getElem_cons_succ, List.getElem_cons_zero, List.setIfInBounds_toArray, List.set_cons_zero, List.set_cons_succ]
          refine wpAnyH_take (i := 8) (oi := _) (v := ?_) rfl (by kernel_rfl) (by kernel_rfl) (by kernel_rfl) (fun _ _ _ h => h) (Or.inl ⟨by rfl, ?_⟩) (by assumption) ?_
          rotate_left
          · (intro w hSw; go_simp; first | done | (with_reducible rfl))
          simp only [Act.put, List.getElem_toArray, List.getElem_cons_succ, List.getElem_cons_zero, List.setIfInBounds_toArray, List.set_cons_zero, List.set_cons_succ]
          refine wpAnyH_take (i := 9) (oi := _) (v := ?_) rfl (by kernel_rfl) (by kernel_rfl) (by kernel_rfl) (fun _ _ _ h => h) (Or.inl ⟨by rfl, ?_⟩) (by assumption) ?_
          rotate_left
          · (intro w hSw; go_simp; first | done | (with_reducible rfl))
          simp only [Act.put, List.getElem_toArray, List.getElem_cons_succ, List.getElem_cons_zero, List.setIfInBounds_toArray, List.set_cons_zero, List.set_cons_succ]
          refine wpAnyH_take (i := 10) (oi := _) (v := ?_) rfl (by kernel_rfl) (by kernel_rfl) (by kernel_rfl) (fun _ _ _ h => h) (Or.inl ⟨by rfl, ?_⟩) (by assumption) ?_
          rotate_left
          · (intro w hSw; go_simp; first | done | (with_reducible rfl))
          simp only [Act.put, List.getElem_toArray, List.getElem_cons_succ, List.getElem_cons_zero, List.setIfInBounds_toArray, List.set_cons_zero, List.set_cons_succ]
          refine wpAnyH_take (i := 11) (oi := _) (v := ?_) rfl (by kernel_rfl) (by kernel_rfl) (by kernel_rfl) (fun _ _ _ h => h) (Or.inl ⟨by rfl, ?_⟩) (by assumption) ?_
          rotate_left
          · (intro w hSw; go_simp; first | done | (with_reducible rfl))
          simp only [Act.put, List.getElem_toArray, List.getElem_cons_succ, List.getElem_cons_zero, List.setIfInBounds_toArray, List.set_cons_zero, List.set_cons_succ]
          refine wpAnyH_take (i := 12) (oi := _) (v := ?_) rfl (by kernel_rfl) (by kernel_rfl) (by kernel_rfl) (fun _ _ _ h => h) (Or.inl ⟨by rfl, ?_⟩) (by assumption) ?_
          rotate_left
          · (intro w hSw; go_simp; first | done | (with_reducible rfl))
          simp only [Act.put, List.getElem_toArray, List.getElem_cons_succ, List.getElem_cons_zero, List.setIfInBounds_toArray, List.set_cons_zero, List.set_cons_succ]
          refine wpAnyH_take (i := 14) (oi := _) (v := ?_) rfl (by kernel_rfl) (by kernel_rfl) (by kernel_rfl) (fun _ _ _ h => h) (Or.inl ⟨by rfl, ?_⟩) (by assumption) ?_
          rotate_left
          · (intro w hSw; go_simp; first | done | (with_reducible rfl))
          simp only [Act.put, List.getElem_toArray, List.getElem_cons_succ, List.getElem_cons_zero, List.setIfInBounds_toArray, List.set_cons_zero, List.set_cons_succ]
          refine wpAnyH_take (i := 15) (oi := _) (v := ?_) rfl (by kernel_rfl) (by kernel_rfl) (by kernel_rfl) (fun _ _ _ h => h) (Or.inl ⟨by rfl, ?_⟩) (by assumption) ?_
          rotate_left
          · (intro w hSw; go_simp; first | done | (with_reducible rfl))
          simp only [Act.put, List.getElem_toArray, List.getElem_cons_succ, List.getElem_cons_zero, List.setIfInBounds_toArray, List.set_cons_zero, List.set_cons_succ]
          refine wpAnyH_take (i := 16) (oi := _) (v := ?_) rfl (by kernel_rfl) (by kernel_rfl) (by kernel_rfl) (fun _ _ _ h => h) (Or.inl ⟨by rfl, ?_⟩) (by assumption) ?_
          rotate_left
          · (intro w hSw; go_simp; first | done | (with_reducible rfl))
          simp only [Act.put, List.getElem_toArray, List.getElem_cons_succ, List.getElem_cons_zero, List.setIfInBounds_toArray, List.set_cons_zero, List.set_cons_succ]
          have xc := HWD.out.1.at_ p x hx
          have xz := HWD.out.1.fz p (List.getElem?_eq_some_iff.1 hx).1
          generalize wb.drew = wd at *
          refine wpAnyH_ready (rs := [13]) (by kernel_rfl) (by simp) ?_
          refine AllReadyH.cons rfl (fun K hK => ?_) AllReadyH.nil
          go_simp
          refine hK.out _ _ trivial (fun hHeld => ?_)
          clear hK K
          refine wpAnyH_take (i := 17) (oi := _) (v := ?_) rfl (by kernel_rfl) (by kernel_rfl) (by kernel_rfl) (fun _ _ _ h => h) (Or.inl ⟨by rfl, ?_⟩) (by assumption) ?_
          rotate_left
          · (intro w hSw; go_simp; first | done | (with_reducible rfl))
          simp only [Act.put, List.getElem_toArray, List.getElem_cons_succ, List.getElem_cons_zero, List.setIfInBounds_toArray, List.set_cons_zero, List.set_cons_succ]
          refine wpAnyH_take (i := 18) (oi := _) (v := ?_) rfl (by kernel_rfl) (by kernel_rfl) (by kernel_rfl) (fun _ _ _ h => h) (Or.inl ⟨by rfl, ?_⟩) (by assumption) ?_
          rotate_left
          · (intro w hSw; go_simp; first | done | (with_reducible rfl))
          simp only [Act.put, List.getElem_toArray, List.getElem_cons_succ, List.getElem_cons_zero, List.setIfInBounds_toArray, List.set_cons_zero, List.set_cons_succ]
          obtain ⟨we, hwe⟩ : ∃ q, wd.setCell ⟨bk, p, none⟩ (.int .u8 (bits .xor .u8 (x.toNat : Int) 2)) = q := ⟨_, rfl⟩
          have HE : Keep (Wb we bk ((B ++ t).set p y) ∧ w.grownBy we none) := ⟨by rw [← hwe, hxor]; exact HWD.out.1.set p y, by rw [← hwe]; exact gr_new HWD.out.2 (gr_set wd bk p _) HBK.out⟩
          have hcv2 := HE.out.1.bytes S.size cap (by rw [List.length_set]; have := congrArg List.length HSL.out.1; rw [sl_len] at this; exact this.symm) HCAP.out
          obtain ⟨S2, hS2⟩ : ∃ q, ba ((B ++ t).set p y) = q := ⟨_, rfl⟩
          rw [hS2] at hcv2
          have HSN : Keep (Calls Tryz.prog 18 #[.string S2, .string key] we fun e w' => e = .returned (.bool false) ∧ we.grownBy w' none) := ⟨by
            have hss : S2.size = (B ++ t).length := by rw [← hS2, ba_size, List.length_set]
            have hc := sealed_c S2 key we (HK.out.kept HE.out.2 (by simp)) (by rw [hss, List.length_append]; have := HLEN.out; omega) (by have := HKS.out; omega)
            have hf : sealed S2 key = false := by
              rw [← hS2, ← hy, ← hp, show B.length + 31 - i = B.length + (31 - i) by omega]
              exact sealed_turned (by have := HLEN.out; omega) HLEN.out.2.2 HKB.out.1 (by rw [HNM.out.2.1, HNM.out.2.2.1]; exact HKB.out.2) (by omega) (by rw [show B.length + (31 - i) = p by omega]; exact hx) (by decide)
            rw [hf] at hc; exact hc⟩

          refine wpAnyH_ready (rs := [19]) (by kernel_rfl) (by simp) ?_
          refine AllReadyH.cons rfl (fun K hK => ?_) AllReadyH.nil
          go_simp
          go_wp2_with fail
          refine hK.out _ _ trivial (fun hHeld => ?_)
          refine wpAnyH_done (by kernel_rfl) ?_ _
          clear hK K xz xc HWD HW
          generalize hwx : World.setCell wd { block := bk, off := p } _ = wx
          have hx2 : wx = we := hwx.symm.trans (Eq.trans (by rfl) hwe)
          clear hwx hwe
          subst hx2
          go_wp2_with fail
          refine HSN.out.mono ?_
          rintro e' wf ⟨rfl, gn⟩
          have HF : Keep (w.grownBy wf none) := ⟨HE.out.2.trans gn⟩
          clear gn
          go_wp2_with fail
          refine ⟨⟨i + 1, by omega, rfl, HF⟩, ?_⟩
          simp only [intOf]; omega
        · have hrm : (i : Int).tmod 8 = 2 := by rw [Int.tmod_eq_emod_of_nonneg (by omega)]; omega
          obtain ⟨y, hy⟩ : ∃ y, x ^^^ 4 = y := ⟨_, rfl⟩
          have hxor : bits .xor .u8 (x.toNat : Int) 4 = (y.toNat : Int) := by rw [← hy]; exact c_xor x 4
          refine wp_region_held_drew (S := fun _ => True) (by kernel_rfl) trivial (fun hHeld => ?_)
          refine wpAnyH_take (i := 0) (oi := _) (v := ?_) rfl (by kernel_rfl) (by kernel_rfl) (by kernel_rfl) (fun _ _ _ h => h) (Or.inl ⟨by rfl, ?_⟩) (by assumption) ?_
          rotate_left
          · (intro w hSw; go_simp; first | done | (with_reducible rfl))
          simp only [Act.put, List.getElem_toArray, List.getElem_cons_zero, List.setIfInBounds_toArray, List.set_cons_zero, List.set_cons_succ]
          refine wpAnyH_take (i := 1) (oi := _) (v := ?_) rfl (by kernel_rfl) (by kernel_rfl) (by kernel_rfl) (fun _ _ _ h => h) (Or.inl ⟨by rfl, ?_⟩) (by assumption) ?_
          rotate_left
          · (intro w hSw; go_simp; first | done | (with_reducible rfl))
          simp only [Act.put, List.getElem_toArray, List.getElem_cons_succ, List.getElem_cons_zero, List.setIfInBounds_toArray, List.set_cons_zero, List.set_cons_succ]
          refine wpAnyH_take (i := 2) (oi := _) (v := ?_) rfl (by kernel_rfl) (by kernel_rfl) (by kernel_rfl) (fun _ _ _ h => h) (Or.inl ⟨by rfl, ?_⟩) (by assumption) ?_
          rotate_left
          · (intro w hSw; go_simp; first | done | (with_reducible rfl))
          simp only [Act.put, List.getElem_toArray, List.getElem_cons_succ, List.getElem_cons_zero, List.setIfInBounds_toArray, List.set_cons_zero, List.set_cons_succ]
          refine wpAnyH_take (i := 3) (oi := _) (v := ?_) rfl (by kernel_rfl) (by kernel_rfl) (by kernel_rfl) (fun _ _ _ h => h) (Or.inl ⟨by rfl, ?_⟩) (by assumption) ?_
          rotate_left
          · (intro w hSw; go_simp; first | done | (with_reducible rfl))
          simp only [Act.put, List.getElem_toArray, List.getElem_cons_succ, List.getElem_cons_zero, List.setIfInBounds_toArray, List.set_cons_zero, List.set_cons_succ]
          refine wpAnyH_take (i := 4) (oi := _) (v := ?_) rfl (by kernel_rfl) (by kernel_rfl) (by kernel_rfl) (fun _ _ _ h => h) (Or.inl ⟨by rfl, ?_⟩) (by assumption) ?_
          rotate_left
          · (intro w hSw; go_simp; first | done | (with_reducible rfl))
          simp only [Act.put, List.getElem_toArray, List.getElem_cons_succ, List.getElem_cons_zero, List.setIfInBounds_toArray, List.set_cons_zero, List.set_cons_succ]
          refine wpAnyH_take (i := 5) (oi := _) (v := ?_) rfl (by kernel_rfl) (by kernel_rfl) (by kernel_rfl) (fun _ _ _ h => h) (Or.inl ⟨by rfl, ?_⟩) (by assumption) ?_
          rotate_left
          · (intro w hSw; go_simp; first | done | (with_reducible rfl))
          simp only [Act.put, List.getElem_toArray, List.getElem_cons_succ, List.getElem_cons_zero, List.setIfInBounds_toArray, List.set_cons_zero, List.set_cons_succ]
          refine wpAnyH_take (i := 6) (oi := _) (v := ?_) rfl (by kernel_rfl) (by kernel_rfl) (by kernel_rfl) (fun _ _ _ h => h) (Or.inl ⟨by rfl, ?_⟩) (by assumption) ?_
          rotate_left
          · (intro w hSw; go_simp; first | done | (with_reducible rfl))
          simp only [Act.put, List.getElem_toArray, List.getElem_cons_succ, List.getElem_cons_zero, List.setIfInBounds_toArray, List.set_cons_zero, List.set_cons_succ]
          refine wpAnyH_take (i := 7) (oi := _) (v := ?_) rfl (by kernel_rfl) (by kernel_rfl) (by kernel_rfl) (fun _ _ _ h => h) (Or.inl ⟨by rfl, ?_⟩) (by assumption) ?_
          rotate_left
          · (intro w hSw; go_simp; first | done | (with_reducible rfl))
          simp only [Act.put, List.getElem_toArray, List.getElem_cons_succ, List.getElem_cons_zero, List.setIfInBounds_toArray, List.set_cons_zero, List.set_cons_succ]
          refine wpAnyH_take (i := 8) (oi := _) (v := ?_) rfl (by kernel_rfl) (by kernel_rfl) (by kernel_rfl) (fun _ _ _ h => h) (Or.inl ⟨by rfl, ?_⟩) (by assumption) ?_
          rotate_left
          · (intro w hSw; go_simp; first | done | (with_reducible rfl))
          simp only [Act.put, List.getElem_toArray, List.getElem_cons_succ, List.getElem_cons_zero, List.setIfInBounds_toArray, List.set_cons_zero, List.set_cons_succ]
          refine wpAnyH_take (i := 9) (oi := _) (v := ?_) rfl (by kernel_rfl) (by kernel_rfl) (by kernel_rfl) (fun _ _ _ h => h) (Or.inl ⟨by rfl, ?_⟩) (by assumption) ?_
          rotate_left
          · (intro w hSw; go_simp; first | done | (with_reducible rfl))
          simp only [Act.put, List.getElem_toArray, List.getElem_cons_succ, List.getElem_cons_zero, List.setIfInBounds_toArray, List.set_cons_zero, List.set_cons_succ]
          refine wpAnyH_take (i := 10) (oi := _) (v := ?_) rfl (by kernel_rfl) (by kernel_rfl) (by kernel_rfl) (fun _ _ _ h => h) (Or.inl ⟨by rfl, ?_⟩) (by assumption) ?_
          rotate_left
          · (intro w hSw; go_simp; first | done | (with_reducible rfl))
          simp only [Act.put, List.getElem_toArray, List.getElem_cons_succ, List.getElem_cons_zero, List.setIfInBounds_toArray, List.set_cons_zero, List.set_cons_succ]
          refine wpAnyH_take (i := 11) (oi := _) (v := ?_) rfl (by kernel_rfl) (by kernel_rfl) (by kernel_rfl) (fun _ _ _ h => h) (Or.inl ⟨by rfl, ?_⟩) (by assumption) ?_
          rotate_left
          · (intro w hSw; go_simp; first | done | (with_reducible rfl))
          simp only [Act.put, List.getElem_toArray, List.getElem_cons_succ, List.getElem_cons_zero, List.setIfInBounds_toArray, List.set_cons_zero, List.set_cons_succ]
          refine wpAnyH_take (i := 12) (oi := _) (v := ?_) rfl (by kernel_rfl) (by kernel_rfl) (by kernel_rfl) (fun _ _ _ h => h) (Or.inl ⟨by rfl, ?_⟩) (by assumption) ?_
          rotate_left
          · (intro w hSw; go_simp; first | done | (with_reducible rfl))
          simp only [Act.put, List.getElem_toArray, List.getElem_cons_succ, List.getElem_cons_zero, List.setIfInBounds_toArray, List.set_cons_zero, List.set_cons_succ]
          refine wpAnyH_take (i := 14) (oi := _) (v := ?_) rfl (by kernel_rfl) (by kernel_rfl) (by kernel_rfl) (fun _ _ _ h => h) (Or.inl ⟨by rfl, ?_⟩) (by assumption) ?_
          rotate_left
          · (intro w hSw; go_simp; first | done | (with_reducible rfl))
          simp only [Act.put, List.getElem_toArray, List.getElem_cons_succ, List.getElem_cons_zero, List.setIfInBounds_toArray, List.set_cons_zero, List.set_cons_succ]
          refine wpAnyH_take (i := 15) (oi := _) (v := ?_) rfl (by kernel_rfl) (by kernel_rfl) (by kernel_rfl) (fun _ _ _ h => h) (Or.inl ⟨by rfl, ?_⟩) (by assumption) ?_
          rotate_left
          · (intro w hSw; go_simp; first | done | (with_reducible rfl))
          simp only [Act.put, List.getElem_toArray, List.getElem_cons_succ, List.getElem_cons_zero, List.setIfInBounds_toArray, List.set_cons_zero, List.set_cons_succ]
          refine wpAnyH_take (i := 16) (oi := _) (v := ?_) rfl (by kernel_rfl) (by kernel_rfl) (by kernel_rfl) (fun _ _ _ h => h) (Or.inl ⟨by rfl, ?_⟩) (by assumption) ?_
          rotate_left
          · (intro w hSw; go_simp; first | done | (with_reducible rfl))
          simp only [Act.put, List.getElem_toArray, List.getElem_cons_succ, List.getElem_cons_zero, List.setIfInBounds_toArray, List.set_cons_zero, List.set_cons_succ]
          have xc := HWD.out.1.at_ p x hx
          have xz := HWD.out.1.fz p (List.getElem?_eq_some_iff.1 hx).1
          generalize wb.drew = wd at *
          refine wpAnyH_ready (rs := [13]) (by kernel_rfl) (by simp) ?_
          refine AllReadyH.cons rfl (fun K hK => ?_) AllReadyH.nil
          go_simp
          refine hK.out _ _ trivial (fun hHeld => ?_)
          clear hK K
          refine wpAnyH_take (i := 17) (oi := _) (v := ?_) rfl (by kernel_rfl) (by kernel_rfl) (by kernel_rfl) (fun _ _ _ h => h) (Or.inl ⟨by rfl, ?_⟩) (by assumption) ?_
          rotate_left
          · (intro w hSw; go_simp; first | done | (with_reducible rfl))
          simp only [Act.put, List.getElem_toArray, List.getElem_cons_succ, List.getElem_cons_zero, List.setIfInBounds_toArray, List.set_cons_zero, List.set_cons_succ]
          refine wpAnyH_take (i := 18) (oi := _) (v := ?_) rfl (by kernel_rfl) (by kernel_rfl) (by kernel_rfl) (fun _ _ _ h => h) (Or.inl ⟨by rfl, ?_⟩) (by assumption) ?_
          rotate_left
          · (intro w hSw; go_simp; first | done | (with_reducible rfl))
          simp only [Act.put, List.getElem_toArray, List.getElem_cons_succ, List.getElem_cons_zero, List.setIfInBounds_toArray, List.set_cons_zero, List.set_cons_succ]
          obtain ⟨we, hwe⟩ : ∃ q, wd.setCell ⟨bk, p, none⟩ (.int .u8 (bits .xor .u8 (x.toNat : Int) 4)) = q := ⟨_, rfl⟩
          have HE : Keep (Wb we bk ((B ++ t).set p y) ∧ w.grownBy we none) := ⟨by rw [← hwe, hxor]; exact HWD.out.1.set p y, by rw [← hwe]; exact gr_new HWD.out.2 (gr_set wd bk p _) HBK.out⟩
          have hcv2 := HE.out.1.bytes S.size cap (by rw [List.length_set]; have := congrArg List.length HSL.out.1; rw [sl_len] at this; exact this.symm) HCAP.out
          obtain ⟨S2, hS2⟩ : ∃ q, ba ((B ++ t).set p y) = q := ⟨_, rfl⟩
          rw [hS2] at hcv2
          have HSN : Keep (Calls Tryz.prog 18 #[.string S2, .string key] we fun e w' => e = .returned (.bool false) ∧ we.grownBy w' none) := ⟨by
            have hss : S2.size = (B ++ t).length := by rw [← hS2, ba_size, List.length_set]
            have hc := sealed_c S2 key we (HK.out.kept HE.out.2 (by simp)) (by rw [hss, List.length_append]; have := HLEN.out; omega) (by have := HKS.out; omega)
            have hf : sealed S2 key = false := by
              rw [← hS2, ← hy, ← hp, show B.length + 31 - i = B.length + (31 - i) by omega]
              exact sealed_turned (by have := HLEN.out; omega) HLEN.out.2.2 HKB.out.1 (by rw [HNM.out.2.1, HNM.out.2.2.1]; exact HKB.out.2) (by omega) (by rw [show B.length + (31 - i) = p by omega]; exact hx) (by decide)
            rw [hf] at hc; exact hc⟩

          refine wpAnyH_ready (rs := [19]) (by kernel_rfl) (by simp) ?_
          refine AllReadyH.cons rfl (fun K hK => ?_) AllReadyH.nil
          go_simp
          go_wp2_with fail
          refine hK.out _ _ trivial (fun hHeld => ?_)
          refine wpAnyH_done (by kernel_rfl) ?_ _
          clear hK K xz xc HWD HW
          generalize hwx : World.setCell wd { block := bk, off := p } _ = wx
          have hx2 : wx = we := hwx.symm.trans (Eq.trans (by rfl) hwe)
          clear hwx hwe
          subst hx2
          go_wp2_with fail
          refine HSN.out.mono ?_
          rintro e' wf ⟨rfl, gn⟩
          have HF : Keep (w.grownBy wf none) := ⟨HE.out.2.trans gn⟩
          clear gn
          go_wp2_with fail
          refine ⟨⟨i + 1, by omega, rfl, HF⟩, ?_⟩
          simp only [intOf]; omega
        · have hrm : (i : Int).tmod 8 = 3 := by rw [Int.tmod_eq_emod_of_nonneg (by omega)]; omega
          obtain ⟨y, hy⟩ : ∃ y, x ^^^ 8 = y := ⟨_, rfl⟩
          have hxor : bits .xor .u8 (x.toNat : Int) 8 = (y.toNat : Int) := by rw [← hy]; exact c_xor x 8
          refine wp_region_held_drew (S := fun _ => True) (by kernel_rfl) trivial (fun hHeld => ?_)
          refine wpAnyH_take (i := 0) (oi := _) (v := ?_) rfl (by kernel_rfl) (by kernel_rfl) (by kernel_rfl) (fun _ _ _ h => h) (Or.inl ⟨by rfl, ?_⟩) (by assumption) ?_
          rotate_left
          · (intro w hSw; go_simp; first | done | (with_reducible rfl))
          simp only [Act.put, List.getElem_toArray, List.getElem_cons_zero, List.setIfInBounds_toArray, List.set_cons_zero, List.set_cons_succ]
          refine wpAnyH_take (i := 1) (oi := _) (v := ?_) rfl (by kernel_rfl) (by kernel_rfl) (by kernel_rfl) (fun _ _ _ h => h) (Or.inl ⟨by rfl, ?_⟩) (by assumption) ?_
          rotate_left
          · (intro w hSw; go_simp; first | done | (with_reducible rfl))
          simp only [Act.put, List.getElem_toArray, List.getElem_cons_succ, List.getElem_cons_zero, List.setIfInBounds_toArray, List.set_cons_zero, List.set_cons_succ]
          refine wpAnyH_take (i := 2) (oi := _) (v := ?_) rfl (by kernel_rfl) (by kernel_rfl) (by kernel_rfl) (fun _ _ _ h => h) (Or.inl ⟨by rfl, ?_⟩) (by assumption) ?_
          rotate_left
          · (intro w hSw; go_simp; first | done | (with_reducible rfl))
          simp only [Act.put, List.getElem_toArray, List.getElem_cons_succ, List.getElem_cons_zero, List.setIfInBounds_toArray, List.set_cons_zero, List.set_cons_succ]
          refine wpAnyH_take (i := 3) (oi := _) (v := ?_) rfl (by kernel_rfl) (by kernel_rfl) (by kernel_rfl) (fun _ _ _ h => h) (Or.inl ⟨by rfl, ?_⟩) (by assumption) ?_
          rotate_left
          · (intro w hSw; go_simp; first | done | (with_reducible rfl))
          simp only [Act.put, List.getElem_toArray, List.getElem_cons_succ, List.getElem_cons_zero, List.setIfInBounds_toArray, List.set_cons_zero, List.set_cons_succ]
          refine wpAnyH_take (i := 4) (oi := _) (v := ?_) rfl (by kernel_rfl) (by kernel_rfl) (by kernel_rfl) (fun _ _ _ h => h) (Or.inl ⟨by rfl, ?_⟩) (by assumption) ?_
          rotate_left
          · (intro w hSw; go_simp; first | done | (with_reducible rfl))
          simp only [Act.put, List.getElem_toArray, List.getElem_cons_succ, List.getElem_cons_zero, List.setIfInBounds_toArray, List.set_cons_zero, List.set_cons_succ]
          refine wpAnyH_take (i := 5) (oi := _) (v := ?_) rfl (by kernel_rfl) (by kernel_rfl) (by kernel_rfl) (fun _ _ _ h => h) (Or.inl ⟨by rfl, ?_⟩) (by assumption) ?_
          rotate_left
          · (intro w hSw; go_simp; first | done | (with_reducible rfl))
          simp only [Act.put, List.getElem_toArray, List.getElem_cons_succ, List.getElem_cons_zero, List.setIfInBounds_toArray, List.set_cons_zero, List.set_cons_succ]
          refine wpAnyH_take (i := 6) (oi := _) (v := ?_) rfl (by kernel_rfl) (by kernel_rfl) (by kernel_rfl) (fun _ _ _ h => h) (Or.inl ⟨by rfl, ?_⟩) (by assumption) ?_
          rotate_left
          · (intro w hSw; go_simp; first | done | (with_reducible rfl))
          simp only [Act.put, List.getElem_toArray, List.getElem_cons_succ, List.getElem_cons_zero, List.setIfInBounds_toArray, List.set_cons_zero, List.set_cons_succ]
          refine wpAnyH_take (i := 7) (oi := _) (v := ?_) rfl (by kernel_rfl) (by kernel_rfl) (by kernel_rfl) (fun _ _ _ h => h) (Or.inl ⟨by rfl, ?_⟩) (by assumption) ?_
          rotate_left
          · (intro w hSw; go_simp; first | done | (with_reducible rfl))
          simp only [Act.put, List.getElem_toArray, List.getElem_cons_succ, List.getElem_cons_zero, List.setIfInBounds_toArray, List.set_cons_zero, List.set_cons_succ]
          refine wpAnyH_take (i := 8) (oi := _) (v := ?_) rfl (by kernel_rfl) (by kernel_rfl) (by kernel_rfl) (fun _ _ _ h => h) (Or.inl ⟨by rfl, ?_⟩) (by assumption) ?_
          rotate_left
          · (intro w hSw; go_simp; first | done | (with_reducible rfl))
          simp only [Act.put, List.getElem_toArray, List.getElem_cons_succ, List.getElem_cons_zero, List.setIfInBounds_toArray, List.set_cons_zero, List.set_cons_succ]
          refine wpAnyH_take (i := 9) (oi := _) (v := ?_) rfl (by kernel_rfl) (by kernel_rfl) (by kernel_rfl) (fun _ _ _ h => h) (Or.inl ⟨by rfl, ?_⟩) (by assumption) ?_
          rotate_left
          · (intro w hSw; go_simp; first | done | (with_reducible rfl))
          simp only [Act.put, List.getElem_toArray, List.getElem_cons_succ, List.getElem_cons_zero, List.setIfInBounds_toArray, List.set_cons_zero, List.set_cons_succ]
          refine wpAnyH_take (i := 10) (oi := _) (v := ?_) rfl (by kernel_rfl) (by kernel_rfl) (by kernel_rfl) (fun _ _ _ h => h) (Or.inl ⟨by rfl, ?_⟩) (by assumption) ?_
          rotate_left
          · (intro w hSw; go_simp; first | done | (with_reducible rfl))
          simp only [Act.put, List.getElem_toArray, List.getElem_cons_succ, List.getElem_cons_zero, List.setIfInBounds_toArray, List.set_cons_zero, List.set_cons_succ]
          refine wpAnyH_take (i := 11) (oi := _) (v := ?_) rfl (by kernel_rfl) (by kernel_rfl) (by kernel_rfl) (fun _ _ _ h => h) (Or.inl ⟨by rfl, ?_⟩) (by assumption) ?_
          rotate_left
          · (intro w hSw; go_simp; first | done | (with_reducible rfl))
          simp only [Act.put, List.getElem_toArray, List.getElem_cons_succ, List.getElem_cons_zero, List.setIfInBounds_toArray, List.set_cons_zero, List.set_cons_succ]
          refine wpAnyH_take (i := 12) (oi := _) (v := ?_) rfl (by kernel_rfl) (by kernel_rfl) (by kernel_rfl) (fun _ _ _ h => h) (Or.inl ⟨by rfl, ?_⟩) (by assumption) ?_
          rotate_left
          · (intro w hSw; go_simp; first | done | (with_reducible rfl))
          simp only [Act.put, List.getElem_toArray, List.getElem_cons_succ, List.getElem_cons_zero, List.setIfInBounds_toArray, List.set_cons_zero, List.set_cons_succ]
          refine wpAnyH_take (i := 14) (oi := _) (v := ?_) rfl (by kernel_rfl) (by kernel_rfl) (by kernel_rfl) (fun _ _ _ h => h) (Or.inl ⟨by rfl, ?_⟩) (by assumption) ?_
          rotate_left
          · (intro w hSw; go_simp; first | done | (with_reducible rfl))
          simp only [Act.put, List.getElem_toArray, List.getElem_cons_succ, List.getElem_cons_zero, List.setIfInBounds_toArray, List.set_cons_zero, List.set_cons_succ]
          refine wpAnyH_take (i := 15) (oi := _) (v := ?_) rfl (by kernel_rfl) (by kernel_rfl) (by kernel_rfl) (fun _ _ _ h => h) (Or.inl ⟨by rfl, ?_⟩) (by assumption) ?_
          rotate_left
          · (intro w hSw; go_simp; first | done | (with_reducible rfl))
          simp only [Act.put, List.getElem_toArray, List.getElem_cons_succ, List.getElem_cons_zero, List.setIfInBounds_toArray, List.set_cons_zero, List.set_cons_succ]
          refine wpAnyH_take (i := 16) (oi := _) (v := ?_) rfl (by kernel_rfl) (by kernel_rfl) (by kernel_rfl) (fun _ _ _ h => h) (Or.inl ⟨by rfl, ?_⟩) (by assumption) ?_
          rotate_left
          · (intro w hSw; go_simp; first | done | (with_reducible rfl))
          simp only [Act.put, List.getElem_toArray, List.getElem_cons_succ, List.getElem_cons_zero, List.setIfInBounds_toArray, List.set_cons_zero, List.set_cons_succ]
          have xc := HWD.out.1.at_ p x hx
          have xz := HWD.out.1.fz p (List.getElem?_eq_some_iff.1 hx).1
          generalize wb.drew = wd at *
          refine wpAnyH_ready (rs := [13]) (by kernel_rfl) (by simp) ?_
          refine AllReadyH.cons rfl (fun K hK => ?_) AllReadyH.nil
          go_simp
          refine hK.out _ _ trivial (fun hHeld => ?_)
          clear hK K
          refine wpAnyH_take (i := 17) (oi := _) (v := ?_) rfl (by kernel_rfl) (by kernel_rfl) (by kernel_rfl) (fun _ _ _ h => h) (Or.inl ⟨by rfl, ?_⟩) (by assumption) ?_
          rotate_left
          · (intro w hSw; go_simp; first | done | (with_reducible rfl))
          simp only [Act.put, List.getElem_toArray, List.getElem_cons_succ, List.getElem_cons_zero, List.setIfInBounds_toArray, List.set_cons_zero, List.set_cons_succ]
          refine wpAnyH_take (i := 18) (oi := _) (v := ?_) rfl (by kernel_rfl) (by kernel_rfl) (by kernel_rfl) (fun _ _ _ h => h) (Or.inl ⟨by rfl, ?_⟩) (by assumption) ?_
          rotate_left
          · (intro w hSw; go_simp; first | done | (with_reducible rfl))
          simp only [Act.put, List.getElem_toArray, List.getElem_cons_succ, List.getElem_cons_zero, List.setIfInBounds_toArray, List.set_cons_zero, List.set_cons_succ]
          obtain ⟨we, hwe⟩ : ∃ q, wd.setCell ⟨bk, p, none⟩ (.int .u8 (bits .xor .u8 (x.toNat : Int) 8)) = q := ⟨_, rfl⟩
          have HE : Keep (Wb we bk ((B ++ t).set p y) ∧ w.grownBy we none) := ⟨by rw [← hwe, hxor]; exact HWD.out.1.set p y, by rw [← hwe]; exact gr_new HWD.out.2 (gr_set wd bk p _) HBK.out⟩
          have hcv2 := HE.out.1.bytes S.size cap (by rw [List.length_set]; have := congrArg List.length HSL.out.1; rw [sl_len] at this; exact this.symm) HCAP.out
          obtain ⟨S2, hS2⟩ : ∃ q, ba ((B ++ t).set p y) = q := ⟨_, rfl⟩
          rw [hS2] at hcv2
          have HSN : Keep (Calls Tryz.prog 18 #[.string S2, .string key] we fun e w' => e = .returned (.bool false) ∧ we.grownBy w' none) := ⟨by
            have hss : S2.size = (B ++ t).length := by rw [← hS2, ba_size, List.length_set]
            have hc := sealed_c S2 key we (HK.out.kept HE.out.2 (by simp)) (by rw [hss, List.length_append]; have := HLEN.out; omega) (by have := HKS.out; omega)
            have hf : sealed S2 key = false := by
              rw [← hS2, ← hy, ← hp, show B.length + 31 - i = B.length + (31 - i) by omega]
              exact sealed_turned (by have := HLEN.out; omega) HLEN.out.2.2 HKB.out.1 (by rw [HNM.out.2.1, HNM.out.2.2.1]; exact HKB.out.2) (by omega) (by rw [show B.length + (31 - i) = p by omega]; exact hx) (by decide)
            rw [hf] at hc; exact hc⟩

          refine wpAnyH_ready (rs := [19]) (by kernel_rfl) (by simp) ?_
          refine AllReadyH.cons rfl (fun K hK => ?_) AllReadyH.nil
          go_simp
          go_wp2_with fail
          refine hK.out _ _ trivial (fun hHeld => ?_)
          refine wpAnyH_done (by kernel_rfl) ?_ _
          clear hK K xz xc HWD HW
          generalize hwx : World.setCell wd { block := bk, off := p } _ = wx
          have hx2 : wx = we := hwx.symm.trans (Eq.trans (by rfl) hwe)
          clear hwx hwe
          subst hx2
          go_wp2_with fail
          refine HSN.out.mono ?_
          rintro e' wf ⟨rfl, gn⟩
          have HF : Keep (w.grownBy wf none) := ⟨HE.out.2.trans gn⟩
          clear gn
          go_wp2_with fail
          refine ⟨⟨i + 1, by omega, rfl, HF⟩, ?_⟩
          simp only [intOf]; omega
        · have hrm : (i : Int).tmod 8 = 4 := by rw [Int.tmod_eq_emod_of_nonneg (by omega)]; omega
          obtain ⟨y, hy⟩ : ∃ y, x ^^^ 16 = y := ⟨_, rfl⟩
          have hxor : bits .xor .u8 (x.toNat : Int) 16 = (y.toNat : Int) := by rw [← hy]; exact c_xor x 16
          refine wp_region_held_drew (S := fun _ => True) (by kernel_rfl) trivial (fun hHeld => ?_)
          refine wpAnyH_take (i := 0) (oi := _) (v := ?_) rfl (by kernel_rfl) (by kernel_rfl) (by kernel_rfl) (fun _ _ _ h => h) (Or.inl ⟨by rfl, ?_⟩) (by assumption) ?_
          rotate_left
          · (intro w hSw; go_simp; first | done | (with_reducible rfl))
          simp only [Act.put, List.getElem_toArray, List.getElem_cons_zero, List.setIfInBounds_toArray, List.set_cons_zero, List.set_cons_succ]
          refine wpAnyH_take (i := 1) (oi := _) (v := ?_) rfl (by kernel_rfl) (by kernel_rfl) (by kernel_rfl) (fun _ _ _ h => h) (Or.inl ⟨by rfl, ?_⟩) (by assumption) ?_
          rotate_left
          · (intro w hSw; go_simp; first | done | (with_reducible rfl))
          simp only [Act.put, List.getElem_toArray, List.getElem_cons_succ, List.getElem_cons_zero, List.setIfInBounds_toArray, List.set_cons_zero, List.set_cons_succ]
          refine wpAnyH_take (i := 2) (oi := _) (v := ?_) rfl (by kernel_rfl) (by kernel_rfl) (by kernel_rfl) (fun _ _ _ h => h) (Or.inl ⟨by rfl, ?_⟩) (by assumption) ?_
          rotate_left
          · (intro w hSw; go_simp; first | done | (with_reducible rfl))
          simp only [Act.put, List.getElem_toArray, List.getElem_cons_succ, List.getElem_cons_zero, List.setIfInBounds_toArray, List.set_cons_zero, List.set_cons_succ]
          refine wpAnyH_take (i := 3) (oi := _) (v := ?_) rfl (by kernel_rfl) (by kernel_rfl) (by kernel_rfl) (fun _ _ _ h => h) (Or.inl ⟨by rfl, ?_⟩) (by assumption) ?_
          rotate_left
          · (intro w hSw; go_simp; first | done | (with_reducible rfl))
          simp only [Act.put, List.getElem_toArray, List.getElem_cons_succ, List.getElem_cons_zero, List.setIfInBounds_toArray, List.set_cons_zero, List.set_cons_succ]
          refine wpAnyH_take (i := 4) (oi := _) (v := ?_) rfl (by kernel_rfl) (by kernel_rfl) (by kernel_rfl) (fun _ _ _ h => h) (Or.inl ⟨by rfl, ?_⟩) (by assumption) ?_
          rotate_left
          · (intro w hSw; go_simp; first | done | (with_reducible rfl))
          simp only [Act.put, List.getElem_toArray, List.getElem_cons_succ, List.getElem_cons_zero, List.setIfInBounds_toArray, List.set_cons_zero, List.set_cons_succ]
          refine wpAnyH_take (i := 5) (oi := _) (v := ?_) rfl (by kernel_rfl) (by kernel_rfl) (by kernel_rfl) (fun _ _ _ h => h) (Or.inl ⟨by rfl, ?_⟩) (by assumption) ?_
          rotate_left
          · (intro w hSw; go_simp; first | done | (with_reducible rfl))
          simp only [Act.put, List.getElem_toArray, List.getElem_cons_succ, List.getElem_cons_zero, List.setIfInBounds_toArray, List.set_cons_zero, List.set_cons_succ]
          refine wpAnyH_take (i := 6) (oi := _) (v := ?_) rfl (by kernel_rfl) (by kernel_rfl) (by kernel_rfl) (fun _ _ _ h => h) (Or.inl ⟨by rfl, ?_⟩) (by assumption) ?_
          rotate_left
          · (intro w hSw; go_simp; first | done | (with_reducible rfl))
          simp only [Act.put, List.getElem_toArray, List.getElem_cons_succ, List.getElem_cons_zero, List.setIfInBounds_toArray, List.set_cons_zero, List.set_cons_succ]
          refine wpAnyH_take (i := 7) (oi := _) (v := ?_) rfl (by kernel_rfl) (by kernel_rfl) (by kernel_rfl) (fun _ _ _ h => h) (Or.inl ⟨by rfl, ?_⟩) (by assumption) ?_
          rotate_left
          · (intro w hSw; go_simp; first | done | (with_reducible rfl))
          simp only [Act.put, List.getElem_toArray, List.getElem_cons_succ, List.getElem_cons_zero, List.setIfInBounds_toArray, List.set_cons_zero, List.set_cons_succ]
          refine wpAnyH_take (i := 8) (oi := _) (v := ?_) rfl (by kernel_rfl) (by kernel_rfl) (by kernel_rfl) (fun _ _ _ h => h) (Or.inl ⟨by rfl, ?_⟩) (by assumption) ?_
          rotate_left
          · (intro w hSw; go_simp; first | done | (with_reducible rfl))
          simp only [Act.put, List.getElem_toArray, List.getElem_cons_succ, List.getElem_cons_zero, List.setIfInBounds_toArray, List.set_cons_zero, List.set_cons_succ]
          refine wpAnyH_take (i := 9) (oi := _) (v := ?_) rfl (by kernel_rfl) (by kernel_rfl) (by kernel_rfl) (fun _ _ _ h => h) (Or.inl ⟨by rfl, ?_⟩) (by assumption) ?_
          rotate_left
          · (intro w hSw; go_simp; first | done | (with_reducible rfl))
          simp only [Act.put, List.getElem_toArray, List.getElem_cons_succ, List.getElem_cons_zero, List.setIfInBounds_toArray, List.set_cons_zero, List.set_cons_succ]
          refine wpAnyH_take (i := 10) (oi := _) (v := ?_) rfl (by kernel_rfl) (by kernel_rfl) (by kernel_rfl) (fun _ _ _ h => h) (Or.inl ⟨by rfl, ?_⟩) (by assumption) ?_
          rotate_left
          · (intro w hSw; go_simp; first | done | (with_reducible rfl))
          simp only [Act.put, List.getElem_toArray, List.getElem_cons_succ, List.getElem_cons_zero, List.setIfInBounds_toArray, List.set_cons_zero, List.set_cons_succ]
          refine wpAnyH_take (i := 11) (oi := _) (v := ?_) rfl (by kernel_rfl) (by kernel_rfl) (by kernel_rfl) (fun _ _ _ h => h) (Or.inl ⟨by rfl, ?_⟩) (by assumption) ?_
          rotate_left
          · (intro w hSw; go_simp; first | done | (with_reducible rfl))
          simp only [Act.put, List.getElem_toArray, List.getElem_cons_succ, List.getElem_cons_zero, List.setIfInBounds_toArray, List.set_cons_zero, List.set_cons_succ]
          refine wpAnyH_take (i := 12) (oi := _) (v := ?_) rfl (by kernel_rfl) (by kernel_rfl) (by kernel_rfl) (fun _ _ _ h => h) (Or.inl ⟨by rfl, ?_⟩) (by assumption) ?_
          rotate_left
          · (intro w hSw; go_simp; first | done | (with_reducible rfl))
          simp only [Act.put, List.getElem_toArray, List.getElem_cons_succ, List.getElem_cons_zero, List.setIfInBounds_toArray, List.set_cons_zero, List.set_cons_succ]
          refine wpAnyH_take (i := 14) (oi := _) (v := ?_) rfl (by kernel_rfl) (by kernel_rfl) (by kernel_rfl) (fun _ _ _ h => h) (Or.inl ⟨by rfl, ?_⟩) (by assumption) ?_
          rotate_left
          · (intro w hSw; go_simp; first | done | (with_reducible rfl))
          simp only [Act.put, List.getElem_toArray, List.getElem_cons_succ, List.getElem_cons_zero, List.setIfInBounds_toArray, List.set_cons_zero, List.set_cons_succ]
          refine wpAnyH_take (i := 15) (oi := _) (v := ?_) rfl (by kernel_rfl) (by kernel_rfl) (by kernel_rfl) (fun _ _ _ h => h) (Or.inl ⟨by rfl, ?_⟩) (by assumption) ?_
          rotate_left
          · (intro w hSw; go_simp; first | done | (with_reducible rfl))
          simp only [Act.put, List.getElem_toArray, List.getElem_cons_succ, List.getElem_cons_zero, List.setIfInBounds_toArray, List.set_cons_zero, List.set_cons_succ]
          refine wpAnyH_take (i := 16) (oi := _) (v := ?_) rfl (by kernel_rfl) (by kernel_rfl) (by kernel_rfl) (fun _ _ _ h => h) (Or.inl ⟨by rfl, ?_⟩) (by assumption) ?_
          rotate_left
          · (intro w hSw; go_simp; first | done | (with_reducible rfl))
          simp only [Act.put, List.getElem_toArray, List.getElem_cons_succ, List.getElem_cons_zero, List.setIfInBounds_toArray, List.set_cons_zero, List.set_cons_succ]
          have xc := HWD.out.1.at_ p x hx
          have xz := HWD.out.1.fz p (List.getElem?_eq_some_iff.1 hx).1
          generalize wb.drew = wd at *
          refine wpAnyH_ready (rs := [13]) (by kernel_rfl) (by simp) ?_
          refine AllReadyH.cons rfl (fun K hK => ?_) AllReadyH.nil
          go_simp
          refine hK.out _ _ trivial (fun hHeld => ?_)
          clear hK K
          refine wpAnyH_take (i := 17) (oi := _) (v := ?_) rfl (by kernel_rfl) (by kernel_rfl) (by kernel_rfl) (fun _ _ _ h => h) (Or.inl ⟨by rfl, ?_⟩) (by assumption) ?_
          rotate_left
          · (intro w hSw; go_simp; first | done | (with_reducible rfl))
          simp only [Act.put, List.getElem_toArray, List.getElem_cons_succ, List.getElem_cons_zero, List.setIfInBounds_toArray, List.set_cons_zero, List.set_cons_succ]
          refine wpAnyH_take (i := 18) (oi := _) (v := ?_) rfl (by kernel_rfl) (by kernel_rfl) (by kernel_rfl) (fun _ _ _ h => h) (Or.inl ⟨by rfl, ?_⟩) (by assumption) ?_
          rotate_left
          · (intro w hSw; go_simp; first | done | (with_reducible rfl))
          simp only [Act.put, List.getElem_toArray, List.getElem_cons_succ, List.getElem_cons_zero, List.setIfInBounds_toArray, List.set_cons_zero, List.set_cons_succ]
          obtain ⟨we, hwe⟩ : ∃ q, wd.setCell ⟨bk, p, none⟩ (.int .u8 (bits .xor .u8 (x.toNat : Int) 16)) = q := ⟨_, rfl⟩
          have HE : Keep (Wb we bk ((B ++ t).set p y) ∧ w.grownBy we none) := ⟨by rw [← hwe, hxor]; exact HWD.out.1.set p y, by rw [← hwe]; exact gr_new HWD.out.2 (gr_set wd bk p _) HBK.out⟩
          have hcv2 := HE.out.1.bytes S.size cap (by rw [List.length_set]; have := congrArg List.length HSL.out.1; rw [sl_len] at this; exact this.symm) HCAP.out
          obtain ⟨S2, hS2⟩ : ∃ q, ba ((B ++ t).set p y) = q := ⟨_, rfl⟩
          rw [hS2] at hcv2
          have HSN : Keep (Calls Tryz.prog 18 #[.string S2, .string key] we fun e w' => e = .returned (.bool false) ∧ we.grownBy w' none) := ⟨by
            have hss : S2.size = (B ++ t).length := by rw [← hS2, ba_size, List.length_set]
            have hc := sealed_c S2 key we (HK.out.kept HE.out.2 (by simp)) (by rw [hss, List.length_append]; have := HLEN.out; omega) (by have := HKS.out; omega)
            have hf : sealed S2 key = false := by
              rw [← hS2, ← hy, ← hp, show B.length + 31 - i = B.length + (31 - i) by omega]
              exact sealed_turned (by have := HLEN.out; omega) HLEN.out.2.2 HKB.out.1 (by rw [HNM.out.2.1, HNM.out.2.2.1]; exact HKB.out.2) (by omega) (by rw [show B.length + (31 - i) = p by omega]; exact hx) (by decide)
            rw [hf] at hc; exact hc⟩

          refine wpAnyH_ready (rs := [19]) (by kernel_rfl) (by simp) ?_
          refine AllReadyH.cons rfl (fun K hK => ?_) AllReadyH.nil
          go_simp
          go_wp2_with fail
          refine hK.out _ _ trivial (fun hHeld => ?_)
          refine wpAnyH_done (by kernel_rfl) ?_ _
          clear hK K xz xc HWD HW
          generalize hwx : World.setCell wd { block := bk, off := p } _ = wx
          have hx2 : wx = we := hwx.symm.trans (Eq.trans (by rfl) hwe)
          clear hwx hwe
          subst hx2
          go_wp2_with fail
          refine HSN.out.mono ?_
          rintro e' wf ⟨rfl, gn⟩
          have HF : Keep (w.grownBy wf none) := ⟨HE.out.2.trans gn⟩
          clear gn
          go_wp2_with fail
          refine ⟨⟨i + 1, by omega, rfl, HF⟩, ?_⟩
          simp only [intOf]; omega
        · have hrm : (i : Int).tmod 8 = 5 := by rw [Int.tmod_eq_emod_of_nonneg (by omega)]; omega
          obtain ⟨y, hy⟩ : ∃ y, x ^^^ 32 = y := ⟨_, rfl⟩
          have hxor : bits .xor .u8 (x.toNat : Int) 32 = (y.toNat : Int) := by rw [← hy]; exact c_xor x 32
          refine wp_region_held_drew (S := fun _ => True) (by kernel_rfl) trivial (fun hHeld => ?_)
          refine wpAnyH_take (i := 0) (oi := _) (v := ?_) rfl (by kernel_rfl) (by kernel_rfl) (by kernel_rfl) (fun _ _ _ h => h) (Or.inl ⟨by rfl, ?_⟩) (by assumption) ?_
          rotate_left
          · (intro w hSw; go_simp; first | done | (with_reducible rfl))
          simp only [Act.put, List.getElem_toArray, List.getElem_cons_zero, List.setIfInBounds_toArray, List.set_cons_zero, List.set_cons_succ]
          refine wpAnyH_take (i := 1) (oi := _) (v := ?_) rfl (by kernel_rfl) (by kernel_rfl) (by kernel_rfl) (fun _ _ _ h => h) (Or.inl ⟨by rfl, ?_⟩) (by assumption) ?_
          rotate_left
          · (intro w hSw; go_simp; first | done | (with_reducible rfl))
          simp only [Act.put, List.getElem_toArray, List.getElem_cons_succ, List.getElem_cons_zero, List.setIfInBounds_toArray, List.set_cons_zero, List.set_cons_succ]
          refine wpAnyH_take (i := 2) (oi := _) (v := ?_) rfl (by kernel_rfl) (by kernel_rfl) (by kernel_rfl) (fun _ _ _ h => h) (Or.inl ⟨by rfl, ?_⟩) (by assumption) ?_
          rotate_left
          · (intro w hSw; go_simp; first | done | (with_reducible rfl))
          simp only [Act.put, List.getElem_toArray, List.getElem_cons_succ, List.getElem_cons_zero, List.setIfInBounds_toArray, List.set_cons_zero, List.set_cons_succ]
          refine wpAnyH_take (i := 3) (oi := _) (v := ?_) rfl (by kernel_rfl) (by kernel_rfl) (by kernel_rfl) (fun _ _ _ h => h) (Or.inl ⟨by rfl, ?_⟩) (by assumption) ?_
          rotate_left
          · (intro w hSw; go_simp; first | done | (with_reducible rfl))
          simp only [Act.put, List.getElem_toArray, List.getElem_cons_succ, List.getElem_cons_zero, List.setIfInBounds_toArray, List.set_cons_zero, List.set_cons_succ]
          refine wpAnyH_take (i := 4) (oi := _) (v := ?_) rfl (by kernel_rfl) (by kernel_rfl) (by kernel_rfl) (fun _ _ _ h => h) (Or.inl ⟨by rfl, ?_⟩) (by assumption) ?_
          rotate_left
          · (intro w hSw; go_simp; first | done | (with_reducible rfl))
          simp only [Act.put, List.getElem_toArray, List.getElem_cons_succ, List.getElem_cons_zero, List.setIfInBounds_toArray, List.set_cons_zero, List.set_cons_succ]
          refine wpAnyH_take (i := 5) (oi := _) (v := ?_) rfl (by kernel_rfl) (by kernel_rfl) (by kernel_rfl) (fun _ _ _ h => h) (Or.inl ⟨by rfl, ?_⟩) (by assumption) ?_
          rotate_left
          · (intro w hSw; go_simp; first | done | (with_reducible rfl))
          simp only [Act.put, List.getElem_toArray, List.getElem_cons_succ, List.getElem_cons_zero, List.setIfInBounds_toArray, List.set_cons_zero, List.set_cons_succ]
          refine wpAnyH_take (i := 6) (oi := _) (v := ?_) rfl (by kernel_rfl) (by kernel_rfl) (by kernel_rfl) (fun _ _ _ h => h) (Or.inl ⟨by rfl, ?_⟩) (by assumption) ?_
          rotate_left
          · (intro w hSw; go_simp; first | done | (with_reducible rfl))
          simp only [Act.put, List.getElem_toArray, List.getElem_cons_succ, List.getElem_cons_zero, List.setIfInBounds_toArray, List.set_cons_zero, List.set_cons_succ]
          refine wpAnyH_take (i := 7) (oi := _) (v := ?_) rfl (by kernel_rfl) (by kernel_rfl) (by kernel_rfl) (fun _ _ _ h => h) (Or.inl ⟨by rfl, ?_⟩) (by assumption) ?_
          rotate_left
          · (intro w hSw; go_simp; first | done | (with_reducible rfl))
          simp only [Act.put, List.getElem_toArray, List.getElem_cons_succ, List.getElem_cons_zero, List.setIfInBounds_toArray, List.set_cons_zero, List.set_cons_succ]
          refine wpAnyH_take (i := 8) (oi := _) (v := ?_) rfl (by kernel_rfl) (by kernel_rfl) (by kernel_rfl) (fun _ _ _ h => h) (Or.inl ⟨by rfl, ?_⟩) (by assumption) ?_
          rotate_left
          · (intro w hSw; go_simp; first | done | (with_reducible rfl))
          simp only [Act.put, List.getElem_toArray, List.getElem_cons_succ, List.getElem_cons_zero, List.setIfInBounds_toArray, List.set_cons_zero, List.set_cons_succ]
          refine wpAnyH_take (i := 9) (oi := _) (v := ?_) rfl (by kernel_rfl) (by kernel_rfl) (by kernel_rfl) (fun _ _ _ h => h) (Or.inl ⟨by rfl, ?_⟩) (by assumption) ?_
          rotate_left
          · (intro w hSw; go_simp; first | done | (with_reducible rfl))
          simp only [Act.put, List.getElem_toArray, List.getElem_cons_succ, List.getElem_cons_zero, List.setIfInBounds_toArray, List.set_cons_zero, List.set_cons_succ]
          refine wpAnyH_take (i := 10) (oi := _) (v := ?_) rfl (by kernel_rfl) (by kernel_rfl) (by kernel_rfl) (fun _ _ _ h => h) (Or.inl ⟨by rfl, ?_⟩) (by assumption) ?_
          rotate_left
          · (intro w hSw; go_simp; first | done | (with_reducible rfl))
          simp only [Act.put, List.getElem_toArray, List.getElem_cons_succ, List.getElem_cons_zero, List.setIfInBounds_toArray, List.set_cons_zero, List.set_cons_succ]
          refine wpAnyH_take (i := 11) (oi := _) (v := ?_) rfl (by kernel_rfl) (by kernel_rfl) (by kernel_rfl) (fun _ _ _ h => h) (Or.inl ⟨by rfl, ?_⟩) (by assumption) ?_
          rotate_left
          · (intro w hSw; go_simp; first | done | (with_reducible rfl))
          simp only [Act.put, List.getElem_toArray, List.getElem_cons_succ, List.getElem_cons_zero, List.setIfInBounds_toArray, List.set_cons_zero, List.set_cons_succ]
          refine wpAnyH_take (i := 12) (oi := _) (v := ?_) rfl (by kernel_rfl) (by kernel_rfl) (by kernel_rfl) (fun _ _ _ h => h) (Or.inl ⟨by rfl, ?_⟩) (by assumption) ?_
          rotate_left
          · (intro w hSw; go_simp; first | done | (with_reducible rfl))
          simp only [Act.put, List.getElem_toArray, List.getElem_cons_succ, List.getElem_cons_zero, List.setIfInBounds_toArray, List.set_cons_zero, List.set_cons_succ]
          refine wpAnyH_take (i := 14) (oi := _) (v := ?_) rfl (by kernel_rfl) (by kernel_rfl) (by kernel_rfl) (fun _ _ _ h => h) (Or.inl ⟨by rfl, ?_⟩) (by assumption) ?_
          rotate_left
          · (intro w hSw; go_simp; first | done | (with_reducible rfl))
          simp only [Act.put, List.getElem_toArray, List.getElem_cons_succ, List.getElem_cons_zero, List.setIfInBounds_toArray, List.set_cons_zero, List.set_cons_succ]
          refine wpAnyH_take (i := 15) (oi := _) (v := ?_) rfl (by kernel_rfl) (by kernel_rfl) (by kernel_rfl) (fun _ _ _ h => h) (Or.inl ⟨by rfl, ?_⟩) (by assumption) ?_
          rotate_left
          · (intro w hSw; go_simp; first | done | (with_reducible rfl))
          simp only [Act.put, List.getElem_toArray, List.getElem_cons_succ, List.getElem_cons_zero, List.setIfInBounds_toArray, List.set_cons_zero, List.set_cons_succ]
          refine wpAnyH_take (i := 16) (oi := _) (v := ?_) rfl (by kernel_rfl) (by kernel_rfl) (by kernel_rfl) (fun _ _ _ h => h) (Or.inl ⟨by rfl, ?_⟩) (by assumption) ?_
          rotate_left
          · (intro w hSw; go_simp; first | done | (with_reducible rfl))
          simp only [Act.put, List.getElem_toArray, List.getElem_cons_succ, List.getElem_cons_zero, List.setIfInBounds_toArray, List.set_cons_zero, List.set_cons_succ]
          have xc := HWD.out.1.at_ p x hx
          have xz := HWD.out.1.fz p (List.getElem?_eq_some_iff.1 hx).1
          generalize wb.drew = wd at *
          refine wpAnyH_ready (rs := [13]) (by kernel_rfl) (by simp) ?_
          refine AllReadyH.cons rfl (fun K hK => ?_) AllReadyH.nil
          go_simp
          refine hK.out _ _ trivial (fun hHeld => ?_)
          clear hK K
          refine wpAnyH_take (i := 17) (oi := _) (v := ?_) rfl (by kernel_rfl) (by kernel_rfl) (by kernel_rfl) (fun _ _ _ h => h) (Or.inl ⟨by rfl, ?_⟩) (by assumption) ?_
          rotate_left
          · (intro w hSw; go_simp; first | done | (with_reducible rfl))
          simp only [Act.put, List.getElem_toArray, List.getElem_cons_succ, List.getElem_cons_zero, List.setIfInBounds_toArray, List.set_cons_zero, List.set_cons_succ]
          refine wpAnyH_take (i := 18) (oi := _) (v := ?_) rfl (by kernel_rfl) (by kernel_rfl) (by kernel_rfl) (fun _ _ _ h => h) (Or.inl ⟨by rfl, ?_⟩) (by assumption) ?_
          rotate_left
          · (intro w hSw; go_simp; first | done | (with_reducible rfl))
          simp only [Act.put, List.getElem_toArray, List.getElem_cons_succ, List.getElem_cons_zero, List.setIfInBounds_toArray, List.set_cons_zero, List.set_cons_succ]
          obtain ⟨we, hwe⟩ : ∃ q, wd.setCell ⟨bk, p, none⟩ (.int .u8 (bits .xor .u8 (x.toNat : Int) 32)) = q := ⟨_, rfl⟩
          have HE : Keep (Wb we bk ((B ++ t).set p y) ∧ w.grownBy we none) := ⟨by rw [← hwe, hxor]; exact HWD.out.1.set p y, by rw [← hwe]; exact gr_new HWD.out.2 (gr_set wd bk p _) HBK.out⟩
          have hcv2 := HE.out.1.bytes S.size cap (by rw [List.length_set]; have := congrArg List.length HSL.out.1; rw [sl_len] at this; exact this.symm) HCAP.out
          obtain ⟨S2, hS2⟩ : ∃ q, ba ((B ++ t).set p y) = q := ⟨_, rfl⟩
          rw [hS2] at hcv2
          have HSN : Keep (Calls Tryz.prog 18 #[.string S2, .string key] we fun e w' => e = .returned (.bool false) ∧ we.grownBy w' none) := ⟨by
            have hss : S2.size = (B ++ t).length := by rw [← hS2, ba_size, List.length_set]
            have hc := sealed_c S2 key we (HK.out.kept HE.out.2 (by simp)) (by rw [hss, List.length_append]; have := HLEN.out; omega) (by have := HKS.out; omega)
            have hf : sealed S2 key = false := by
              rw [← hS2, ← hy, ← hp, show B.length + 31 - i = B.length + (31 - i) by omega]
              exact sealed_turned (by have := HLEN.out; omega) HLEN.out.2.2 HKB.out.1 (by rw [HNM.out.2.1, HNM.out.2.2.1]; exact HKB.out.2) (by omega) (by rw [show B.length + (31 - i) = p by omega]; exact hx) (by decide)
            rw [hf] at hc; exact hc⟩

          refine wpAnyH_ready (rs := [19]) (by kernel_rfl) (by simp) ?_
          refine AllReadyH.cons rfl (fun K hK => ?_) AllReadyH.nil
          go_simp
          go_wp2_with fail
          refine hK.out _ _ trivial (fun hHeld => ?_)
          refine wpAnyH_done (by kernel_rfl) ?_ _
          clear hK K xz xc HWD HW
          generalize hwx : World.setCell wd { block := bk, off := p } _ = wx
          have hx2 : wx = we := hwx.symm.trans (Eq.trans (by rfl) hwe)
          clear hwx hwe
          subst hx2
          go_wp2_with fail
          refine HSN.out.mono ?_
          rintro e' wf ⟨rfl, gn⟩
          have HF : Keep (w.grownBy wf none) := ⟨HE.out.2.trans gn⟩
          clear gn
          go_wp2_with fail
          refine ⟨⟨i + 1, by omega, rfl, HF⟩, ?_⟩
          simp only [intOf]; omega
        · have hrm : (i : Int).tmod 8 = 6 := by rw [Int.tmod_eq_emod_of_nonneg (by omega)]; omega
          obtain ⟨y, hy⟩ : ∃ y, x ^^^ 64 = y := ⟨_, rfl⟩
          have hxor : bits .xor .u8 (x.toNat : Int) 64 = (y.toNat : Int) := by rw [← hy]; exact c_xor x 64
          refine wp_region_held_drew (S := fun _ => True) (by kernel_rfl) trivial (fun hHeld => ?_)
          refine wpAnyH_take (i := 0) (oi := _) (v := ?_) rfl (by kernel_rfl) (by kernel_rfl) (by kernel_rfl) (fun _ _ _ h => h) (Or.inl ⟨by rfl, ?_⟩) (by assumption) ?_
          rotate_left
          · (intro w hSw; go_simp; first | done | (with_reducible rfl))
          simp only [Act.put, List.getElem_toArray, List.getElem_cons_zero, List.setIfInBounds_toArray, List.set_cons_zero, List.set_cons_succ]
          refine wpAnyH_take (i := 1) (oi := _) (v := ?_) rfl (by kernel_rfl) (by kernel_rfl) (by kernel_rfl) (fun _ _ _ h => h) (Or.inl ⟨by rfl, ?_⟩) (by assumption) ?_
          rotate_left
          · (intro w hSw; go_simp; first | done | (with_reducible rfl))
          simp only [Act.put, List.getElem_toArray, List.getElem_cons_succ, List.getElem_cons_zero, List.setIfInBounds_toArray, List.set_cons_zero, List.set_cons_succ]
          refine wpAnyH_take (i := 2) (oi := _) (v := ?_) rfl (by kernel_rfl) (by kernel_rfl) (by kernel_rfl) (fun _ _ _ h => h) (Or.inl ⟨by rfl, ?_⟩) (by assumption) ?_
          rotate_left
          · (intro w hSw; go_simp; first | done | (with_reducible rfl))
          simp only [Act.put, List.getElem_toArray, List.getElem_cons_succ, List.getElem_cons_zero, List.setIfInBounds_toArray, List.set_cons_zero, List.set_cons_succ]
          refine wpAnyH_take (i := 3) (oi := _) (v := ?_) rfl (by kernel_rfl) (by kernel_rfl) (by kernel_rfl) (fun _ _ _ h => h) (Or.inl ⟨by rfl, ?_⟩) (by assumption) ?_
          rotate_left
          · (intro w hSw; go_simp; first | done | (with_reducible rfl))
          simp only [Act.put, List.getElem_toArray, List.getElem_cons_succ, List.getElem_cons_zero, List.setIfInBounds_toArray, List.set_cons_zero, List.set_cons_succ]
          refine wpAnyH_take (i := 4) (oi := _) (v := ?_) rfl (by kernel_rfl) (by kernel_rfl) (by kernel_rfl) (fun _ _ _ h => h) (Or.inl ⟨by rfl, ?_⟩) (by assumption) ?_
          rotate_left
          · (intro w hSw; go_simp; first | done | (with_reducible rfl))
          simp only [Act.put, List.getElem_toArray, List.getElem_cons_succ, List.getElem_cons_zero, List.setIfInBounds_toArray, List.set_cons_zero, List.set_cons_succ]
          refine wpAnyH_take (i := 5) (oi := _) (v := ?_) rfl (by kernel_rfl) (by kernel_rfl) (by kernel_rfl) (fun _ _ _ h => h) (Or.inl ⟨by rfl, ?_⟩) (by assumption) ?_
          rotate_left
          · (intro w hSw; go_simp; first | done | (with_reducible rfl))
          simp only [Act.put, List.getElem_toArray, List.getElem_cons_succ, List.getElem_cons_zero, List.setIfInBounds_toArray, List.set_cons_zero, List.set_cons_succ]
          refine wpAnyH_take (i := 6) (oi := _) (v := ?_) rfl (by kernel_rfl) (by kernel_rfl) (by kernel_rfl) (fun _ _ _ h => h) (Or.inl ⟨by rfl, ?_⟩) (by assumption) ?_
          rotate_left
          · (intro w hSw; go_simp; first | done | (with_reducible rfl))
          simp only [Act.put, List.getElem_toArray, List.getElem_cons_succ, List.getElem_cons_zero, List.setIfInBounds_toArray, List.set_cons_zero, List.set_cons_succ]
          refine wpAnyH_take (i := 7) (oi := _) (v := ?_) rfl (by kernel_rfl) (by kernel_rfl) (by kernel_rfl) (fun _ _ _ h => h) (Or.inl ⟨by rfl, ?_⟩) (by assumption) ?_
          rotate_left
          · (intro w hSw; go_simp; first | done | (with_reducible rfl))
          simp only [Act.put, List.getElem_toArray, List.getElem_cons_succ, List.getElem_cons_zero, List.setIfInBounds_toArray, List.set_cons_zero, List.set_cons_succ]
          refine wpAnyH_take (i := 8) (oi := _) (v := ?_) rfl (by kernel_rfl) (by kernel_rfl) (by kernel_rfl) (fun _ _ _ h => h) (Or.inl ⟨by rfl, ?_⟩) (by assumption) ?_
          rotate_left
          · (intro w hSw; go_simp; first | done | (with_reducible rfl))
          simp only [Act.put, List.getElem_toArray, List.getElem_cons_succ, List.getElem_cons_zero, List.setIfInBounds_toArray, List.set_cons_zero, List.set_cons_succ]
          refine wpAnyH_take (i := 9) (oi := _) (v := ?_) rfl (by kernel_rfl) (by kernel_rfl) (by kernel_rfl) (fun _ _ _ h => h) (Or.inl ⟨by rfl, ?_⟩) (by assumption) ?_
          rotate_left
          · (intro w hSw; go_simp; first | done | (with_reducible rfl))
          simp only [Act.put, List.getElem_toArray, List.getElem_cons_succ, List.getElem_cons_zero, List.setIfInBounds_toArray, List.set_cons_zero, List.set_cons_succ]
          refine wpAnyH_take (i := 10) (oi := _) (v := ?_) rfl (by kernel_rfl) (by kernel_rfl) (by kernel_rfl) (fun _ _ _ h => h) (Or.inl ⟨by rfl, ?_⟩) (by assumption) ?_
          rotate_left
          · (intro w hSw; go_simp; first | done | (with_reducible rfl))
          simp only [Act.put, List.getElem_toArray, List.getElem_cons_succ, List.getElem_cons_zero, List.setIfInBounds_toArray, List.set_cons_zero, List.set_cons_succ]
          refine wpAnyH_take (i := 11) (oi := _) (v := ?_) rfl (by kernel_rfl) (by kernel_rfl) (by kernel_rfl) (fun _ _ _ h => h) (Or.inl ⟨by rfl, ?_⟩) (by assumption) ?_
          rotate_left
          · (intro w hSw; go_simp; first | done | (with_reducible rfl))
          simp only [Act.put, List.getElem_toArray, List.getElem_cons_succ, List.getElem_cons_zero, List.setIfInBounds_toArray, List.set_cons_zero, List.set_cons_succ]
          refine wpAnyH_take (i := 12) (oi := _) (v := ?_) rfl (by kernel_rfl) (by kernel_rfl) (by kernel_rfl) (fun _ _ _ h => h) (Or.inl ⟨by rfl, ?_⟩) (by assumption) ?_
          rotate_left
          · (intro w hSw; go_simp; first | done | (with_reducible rfl))
          simp only [Act.put, List.getElem_toArray, List.getElem_cons_succ, List.getElem_cons_zero, List.setIfInBounds_toArray, List.set_cons_zero, List.set_cons_succ]
          refine wpAnyH_take (i := 14) (oi := _) (v := ?_) rfl (by kernel_rfl) (by kernel_rfl) (by kernel_rfl) (fun _ _ _ h => h) (Or.inl ⟨by rfl, ?_⟩) (by assumption) ?_
          rotate_left
          · (intro w hSw; go_simp; first | done | (with_reducible rfl))
          simp only [Act.put, List.getElem_toArray, List.getElem_cons_succ, List.getElem_cons_zero, List.setIfInBounds_toArray, List.set_cons_zero, List.set_cons_succ]
          refine wpAnyH_take (i := 15) (oi := _) (v := ?_) rfl (by kernel_rfl) (by kernel_rfl) (by kernel_rfl) (fun _ _ _ h => h) (Or.inl ⟨by rfl, ?_⟩) (by assumption) ?_
          rotate_left
          · (intro w hSw; go_simp; first | done | (with_reducible rfl))
          simp only [Act.put, List.getElem_toArray, List.getElem_cons_succ, List.getElem_cons_zero, List.setIfInBounds_toArray, List.set_cons_zero, List.set_cons_succ]
          refine wpAnyH_take (i := 16) (oi := _) (v := ?_) rfl (by kernel_rfl) (by kernel_rfl) (by kernel_rfl) (fun _ _ _ h => h) (Or.inl ⟨by rfl, ?_⟩) (by assumption) ?_
          rotate_left
          · (intro w hSw; go_simp; first | done | (with_reducible rfl))
          simp only [Act.put, List.getElem_toArray, List.getElem_cons_succ, List.getElem_cons_zero, List.setIfInBounds_toArray, List.set_cons_zero, List.set_cons_succ]
          have xc := HWD.out.1.at_ p x hx
          have xz := HWD.out.1.fz p (List.getElem?_eq_some_iff.1 hx).1
          generalize wb.drew = wd at *
          refine wpAnyH_ready (rs := [13]) (by kernel_rfl) (by simp) ?_
          refine AllReadyH.cons rfl (fun K hK => ?_) AllReadyH.nil
          go_simp
          refine hK.out _ _ trivial (fun hHeld => ?_)
          clear hK K
          refine wpAnyH_take (i := 17) (oi := _) (v := ?_) rfl (by kernel_rfl) (by kernel_rfl) (by kernel_rfl) (fun _ _ _ h => h) (Or.inl ⟨by rfl, ?_⟩) (by assumption) ?_
          rotate_left
          · (intro w hSw; go_simp; first | done | (with_reducible rfl))
          simp only [Act.put, List.getElem_toArray, List.getElem_cons_succ, List.getElem_cons_zero, List.setIfInBounds_toArray, List.set_cons_zero, List.set_cons_succ]
          refine wpAnyH_take (i := 18) (oi := _) (v := ?_) rfl (by kernel_rfl) (by kernel_rfl) (by kernel_rfl) (fun _ _ _ h => h) (Or.inl ⟨by rfl, ?_⟩) (by assumption) ?_
          rotate_left
          · (intro w hSw; go_simp; first | done | (with_reducible rfl))
          simp only [Act.put, List.getElem_toArray, List.getElem_cons_succ, List.getElem_cons_zero, List.setIfInBounds_toArray, List.set_cons_zero, List.set_cons_succ]
          obtain ⟨we, hwe⟩ : ∃ q, wd.setCell ⟨bk, p, none⟩ (.int .u8 (bits .xor .u8 (x.toNat : Int) 64)) = q := ⟨_, rfl⟩
          have HE : Keep (Wb we bk ((B ++ t).set p y) ∧ w.grownBy we none) := ⟨by rw [← hwe, hxor]; exact HWD.out.1.set p y, by rw [← hwe]; exact gr_new HWD.out.2 (gr_set wd bk p _) HBK.out⟩
          have hcv2 := HE.out.1.bytes S.size cap (by rw [List.length_set]; have := congrArg List.length HSL.out.1; rw [sl_len] at this; exact this.symm) HCAP.out
          obtain ⟨S2, hS2⟩ : ∃ q, ba ((B ++ t).set p y) = q := ⟨_, rfl⟩
          rw [hS2] at hcv2
          have HSN : Keep (Calls Tryz.prog 18 #[.string S2, .string key] we fun e w' => e = .returned (.bool false) ∧ we.grownBy w' none) := ⟨by
            have hss : S2.size = (B ++ t).length := by rw [← hS2, ba_size, List.length_set]
            have hc := sealed_c S2 key we (HK.out.kept HE.out.2 (by simp)) (by rw [hss, List.length_append]; have := HLEN.out; omega) (by have := HKS.out; omega)
            have hf : sealed S2 key = false := by
              rw [← hS2, ← hy, ← hp, show B.length + 31 - i = B.length + (31 - i) by omega]
              exact sealed_turned (by have := HLEN.out; omega) HLEN.out.2.2 HKB.out.1 (by rw [HNM.out.2.1, HNM.out.2.2.1]; exact HKB.out.2) (by omega) (by rw [show B.length + (31 - i) = p by omega]; exact hx) (by decide)
            rw [hf] at hc; exact hc⟩

          refine wpAnyH_ready (rs := [19]) (by kernel_rfl) (by simp) ?_
          refine AllReadyH.cons rfl (fun K hK => ?_) AllReadyH.nil
          go_simp
          go_wp2_with fail
          refine hK.out _ _ trivial (fun hHeld => ?_)
          refine wpAnyH_done (by kernel_rfl) ?_ _
          clear hK K xz xc HWD HW
          generalize hwx : World.setCell wd { block := bk, off := p } _ = wx
          have hx2 : wx = we := hwx.symm.trans (Eq.trans (by rfl) hwe)
          clear hwx hwe
          subst hx2
          go_wp2_with fail
          refine HSN.out.mono ?_
          rintro e' wf ⟨rfl, gn⟩
          have HF : Keep (w.grownBy wf none) := ⟨HE.out.2.trans gn⟩
          clear gn
          go_wp2_with fail
          refine ⟨⟨i + 1, by omega, rfl, HF⟩, ?_⟩
          simp only [intOf]; omega
        · have hrm : (i : Int).tmod 8 = 7 := by rw [Int.tmod_eq_emod_of_nonneg (by omega)]; omega
          obtain ⟨y, hy⟩ : ∃ y, x ^^^ 128 = y := ⟨_, rfl⟩
          have hxor : bits .xor .u8 (x.toNat : Int) 128 = (y.toNat : Int) := by rw [← hy]; exact c_xor x 128
          refine wp_region_held_drew (S := fun _ => True) (by kernel_rfl) trivial (fun hHeld => ?_)
          refine wpAnyH_take (i := 0) (oi := _) (v := ?_) rfl (by kernel_rfl) (by kernel_rfl) (by kernel_rfl) (fun _ _ _ h => h) (Or.inl ⟨by rfl, ?_⟩) (by assumption) ?_
          rotate_left
          · (intro w hSw; go_simp; first | done | (with_reducible rfl))
          simp only [Act.put, List.getElem_toArray, List.getElem_cons_zero, List.setIfInBounds_toArray, List.set_cons_zero, List.set_cons_succ]
          refine wpAnyH_take (i := 1) (oi := _) (v := ?_) rfl (by kernel_rfl) (by kernel_rfl) (by kernel_rfl) (fun _ _ _ h => h) (Or.inl ⟨by rfl, ?_⟩) (by assumption) ?_
          rotate_left
          · (intro w hSw; go_simp; first | done | (with_reducible rfl))
          simp only [Act.put, List.getElem_toArray, List.getElem_cons_succ, List.getElem_cons_zero, List.setIfInBounds_toArray, List.set_cons_zero, List.set_cons_succ]
          refine wpAnyH_take (i := 2) (oi := _) (v := ?_) rfl (by kernel_rfl) (by kernel_rfl) (by kernel_rfl) (fun _ _ _ h => h) (Or.inl ⟨by rfl, ?_⟩) (by assumption) ?_
          rotate_left
          · (intro w hSw; go_simp; first | done | (with_reducible rfl))
          simp only [Act.put, List.getElem_toArray, List.getElem_cons_succ, List.getElem_cons_zero, List.setIfInBounds_toArray, List.set_cons_zero, List.set_cons_succ]
          refine wpAnyH_take (i := 3) (oi := _) (v := ?_) rfl (by kernel_rfl) (by kernel_rfl) (by kernel_rfl) (fun _ _ _ h => h) (Or.inl ⟨by rfl, ?_⟩) (by assumption) ?_
          rotate_left
          · (intro w hSw; go_simp; first | done | (with_reducible rfl))
          simp only [Act.put, List.getElem_toArray, List.getElem_cons_succ, List.getElem_cons_zero, List.setIfInBounds_toArray, List.set_cons_zero, List.set_cons_succ]
          refine wpAnyH_take (i := 4) (oi := _) (v := ?_) rfl (by kernel_rfl) (by kernel_rfl) (by kernel_rfl) (fun _ _ _ h => h) (Or.inl ⟨by rfl, ?_⟩) (by assumption) ?_
          rotate_left
          · (intro w hSw; go_simp; first | done | (with_reducible rfl))
          simp only [Act.put, List.getElem_toArray, List.getElem_cons_succ, List.getElem_cons_zero, List.setIfInBounds_toArray, List.set_cons_zero, List.set_cons_succ]
          refine wpAnyH_take (i := 5) (oi := _) (v := ?_) rfl (by kernel_rfl) (by kernel_rfl) (by kernel_rfl) (fun _ _ _ h => h) (Or.inl ⟨by rfl, ?_⟩) (by assumption) ?_
          rotate_left
          · (intro w hSw; go_simp; first | done | (with_reducible rfl))
          simp only [Act.put, List.getElem_toArray, List.getElem_cons_succ, List.getElem_cons_zero, List.setIfInBounds_toArray, List.set_cons_zero, List.set_cons_succ]
          refine wpAnyH_take (i := 6) (oi := _) (v := ?_) rfl (by kernel_rfl) (by kernel_rfl) (by kernel_rfl) (fun _ _ _ h => h) (Or.inl ⟨by rfl, ?_⟩) (by assumption) ?_
          rotate_left
          · (intro w hSw; go_simp; first | done | (with_reducible rfl))
          simp only [Act.put, List.getElem_toArray, List.getElem_cons_succ, List.getElem_cons_zero, List.setIfInBounds_toArray, List.set_cons_zero, List.set_cons_succ]
          refine wpAnyH_take (i := 7) (oi := _) (v := ?_) rfl (by kernel_rfl) (by kernel_rfl) (by kernel_rfl) (fun _ _ _ h => h) (Or.inl ⟨by rfl, ?_⟩) (by assumption) ?_
          rotate_left
          · (intro w hSw; go_simp; first | done | (with_reducible rfl))
          simp only [Act.put, List.getElem_toArray, List.getElem_cons_succ, List.getElem_cons_zero, List.setIfInBounds_toArray, List.set_cons_zero, List.set_cons_succ]
          refine wpAnyH_take (i := 8) (oi := _) (v := ?_) rfl (by kernel_rfl) (by kernel_rfl) (by kernel_rfl) (fun _ _ _ h => h) (Or.inl ⟨by rfl, ?_⟩) (by assumption) ?_
          rotate_left
          · (intro w hSw; go_simp; first | done | (with_reducible rfl))
          simp only [Act.put, List.getElem_toArray, List.getElem_cons_succ, List.getElem_cons_zero, List.setIfInBounds_toArray, List.set_cons_zero, List.set_cons_succ]
          refine wpAnyH_take (i := 9) (oi := _) (v := ?_) rfl (by kernel_rfl) (by kernel_rfl) (by kernel_rfl) (fun _ _ _ h => h) (Or.inl ⟨by rfl, ?_⟩) (by assumption) ?_
          rotate_left
          · (intro w hSw; go_simp; first | done | (with_reducible rfl))
          simp only [Act.put, List.getElem_toArray, List.getElem_cons_succ, List.getElem_cons_zero, List.setIfInBounds_toArray, List.set_cons_zero, List.set_cons_succ]
          refine wpAnyH_take (i := 10) (oi := _) (v := ?_) rfl (by kernel_rfl) (by kernel_rfl) (by kernel_rfl) (fun _ _ _ h => h) (Or.inl ⟨by rfl, ?_⟩) (by assumption) ?_
          rotate_left
          · (intro w hSw; go_simp; first | done | (with_reducible rfl))
          simp only [Act.put, List.getElem_toArray, List.getElem_cons_succ, List.getElem_cons_zero, List.setIfInBounds_toArray, List.set_cons_zero, List.set_cons_succ]
          refine wpAnyH_take (i := 11) (oi := _) (v := ?_) rfl (by kernel_rfl) (by kernel_rfl) (by kernel_rfl) (fun _ _ _ h => h) (Or.inl ⟨by rfl, ?_⟩) (by assumption) ?_
          rotate_left
          · (intro w hSw; go_simp; first | done | (with_reducible rfl))
          simp only [Act.put, List.getElem_toArray, List.getElem_cons_succ, List.getElem_cons_zero, List.setIfInBounds_toArray, List.set_cons_zero, List.set_cons_succ]
          refine wpAnyH_take (i := 12) (oi := _) (v := ?_) rfl (by kernel_rfl) (by kernel_rfl) (by kernel_rfl) (fun _ _ _ h => h) (Or.inl ⟨by rfl, ?_⟩) (by assumption) ?_
          rotate_left
          · (intro w hSw; go_simp; first | done | (with_reducible rfl))
          simp only [Act.put, List.getElem_toArray, List.getElem_cons_succ, List.getElem_cons_zero, List.setIfInBounds_toArray, List.set_cons_zero, List.set_cons_succ]
          refine wpAnyH_take (i := 14) (oi := _) (v := ?_) rfl (by kernel_rfl) (by kernel_rfl) (by kernel_rfl) (fun _ _ _ h => h) (Or.inl ⟨by rfl, ?_⟩) (by assumption) ?_
          rotate_left
          · (intro w hSw; go_simp; first | done | (with_reducible rfl))
          simp only [Act.put, List.getElem_toArray, List.getElem_cons_succ, List.getElem_cons_zero, List.setIfInBounds_toArray, List.set_cons_zero, List.set_cons_succ]
          refine wpAnyH_take (i := 15) (oi := _) (v := ?_) rfl (by kernel_rfl) (by kernel_rfl) (by kernel_rfl) (fun _ _ _ h => h) (Or.inl ⟨by rfl, ?_⟩) (by assumption) ?_
          rotate_left
          · (intro w hSw; go_simp; first | done | (with_reducible rfl))
          simp only [Act.put, List.getElem_toArray, List.getElem_cons_succ, List.getElem_cons_zero, List.setIfInBounds_toArray, List.set_cons_zero, List.set_cons_succ]
          refine wpAnyH_take (i := 16) (oi := _) (v := ?_) rfl (by kernel_rfl) (by kernel_rfl) (by kernel_rfl) (fun _ _ _ h => h) (Or.inl ⟨by rfl, ?_⟩) (by assumption) ?_
          rotate_left
          · (intro w hSw; go_simp; first | done | (with_reducible rfl))
          simp only [Act.put, List.getElem_toArray, List.getElem_cons_succ, List.getElem_cons_zero, List.setIfInBounds_toArray, List.set_cons_zero, List.set_cons_succ]
          have xc := HWD.out.1.at_ p x hx
          have xz := HWD.out.1.fz p (List.getElem?_eq_some_iff.1 hx).1
          generalize wb.drew = wd at *
          refine wpAnyH_ready (rs := [13]) (by kernel_rfl) (by simp) ?_
          refine AllReadyH.cons rfl (fun K hK => ?_) AllReadyH.nil
          go_simp
          refine hK.out _ _ trivial (fun hHeld => ?_)
          clear hK K
          refine wpAnyH_take (i := 17) (oi := _) (v := ?_) rfl (by kernel_rfl) (by kernel_rfl) (by kernel_rfl) (fun _ _ _ h => h) (Or.inl ⟨by rfl, ?_⟩) (by assumption) ?_
          rotate_left
          · (intro w hSw; go_simp; first | done | (with_reducible rfl))
          simp only [Act.put, List.getElem_toArray, List.getElem_cons_succ, List.getElem_cons_zero, List.setIfInBounds_toArray, List.set_cons_zero, List.set_cons_succ]
          refine wpAnyH_take (i := 18) (oi := _) (v := ?_) rfl (by kernel_rfl) (by kernel_rfl) (by kernel_rfl) (fun _ _ _ h => h) (Or.inl ⟨by rfl, ?_⟩) (by assumption) ?_
          rotate_left
          · (intro w hSw; go_simp; first | done | (with_reducible rfl))
          simp only [Act.put, List.getElem_toArray, List.getElem_cons_succ, List.getElem_cons_zero, List.setIfInBounds_toArray, List.set_cons_zero, List.set_cons_succ]
          obtain ⟨we, hwe⟩ : ∃ q, wd.setCell ⟨bk, p, none⟩ (.int .u8 (bits .xor .u8 (x.toNat : Int) 128)) = q := ⟨_, rfl⟩
          have HE : Keep (Wb we bk ((B ++ t).set p y) ∧ w.grownBy we none) := ⟨by rw [← hwe, hxor]; exact HWD.out.1.set p y, by rw [← hwe]; exact gr_new HWD.out.2 (gr_set wd bk p _) HBK.out⟩
          have hcv2 := HE.out.1.bytes S.size cap (by rw [List.length_set]; have := congrArg List.length HSL.out.1; rw [sl_len] at this; exact this.symm) HCAP.out
          obtain ⟨S2, hS2⟩ : ∃ q, ba ((B ++ t).set p y) = q := ⟨_, rfl⟩
          rw [hS2] at hcv2
          have HSN : Keep (Calls Tryz.prog 18 #[.string S2, .string key] we fun e w' => e = .returned (.bool false) ∧ we.grownBy w' none) := ⟨by
            have hss : S2.size = (B ++ t).length := by rw [← hS2, ba_size, List.length_set]
            have hc := sealed_c S2 key we (HK.out.kept HE.out.2 (by simp)) (by rw [hss, List.length_append]; have := HLEN.out; omega) (by have := HKS.out; omega)
            have hf : sealed S2 key = false := by
              rw [← hS2, ← hy, ← hp, show B.length + 31 - i = B.length + (31 - i) by omega]
              exact sealed_turned (by have := HLEN.out; omega) HLEN.out.2.2 HKB.out.1 (by rw [HNM.out.2.1, HNM.out.2.2.1]; exact HKB.out.2) (by omega) (by rw [show B.length + (31 - i) = p by omega]; exact hx) (by decide)
            rw [hf] at hc; exact hc⟩

          refine wpAnyH_ready (rs := [19]) (by kernel_rfl) (by simp) ?_
          refine AllReadyH.cons rfl (fun K hK => ?_) AllReadyH.nil
          go_simp
          go_wp2_with fail
          refine hK.out _ _ trivial (fun hHeld => ?_)
          refine wpAnyH_done (by kernel_rfl) ?_ _
          clear hK K xz xc HWD HW
          generalize hwx : World.setCell wd { block := bk, off := p } _ = wx
          have hx2 : wx = we := hwx.symm.trans (Eq.trans (by rfl) hwe)
          clear hwx hwe
          subst hx2
          go_wp2_with fail
          refine HSN.out.mono ?_
          rintro e' wf ⟨rfl, gn⟩
          have HF : Keep (w.grownBy wf none) := ⟨HE.out.2.trans gn⟩
          clear gn
          go_wp2_with fail
          refine ⟨⟨i + 1, by omega, rfl, HF⟩, ?_⟩
          simp only [intOf]; omega
      · have hia : ¬ (i : Int) < 32 := by omega
        obtain ⟨p, hp⟩ : ∃ p, B.length - 1 = p := ⟨_, rfl⟩
        have hpM : M - 32 - 1 = (p : Int) := by have := HLEN.out; have := HNM.out.2.2.2; omega
        have wa : IntKind.i64.wrap (M - 32 - 1) = (p : Int) := by rw [hpM]; exact IntWalk.i64_in _ (by omega)
        have wp : IntKind.i64.wrap (p : Int) = (p : Int) := IntWalk.i64_in _ (by omega)
        have p0 : (0 : Int) ≤ (p : Int) := by omega
        have p1 : (p : Int) < M := by omega
        have p2 : p < S.size := by omega
        have p3 : ((p : Nat) : Int).toNat = p := by omega
        have hcvt := HCV.out wr
        obtain ⟨wb, hwb⟩ : ∃ q, Lib.bytesWorld wr 5 S = q := ⟨_, rfl⟩
        have HW : Keep (Wb wb wr.heap.size (B ++ t) ∧ w.grownBy wb none) := ⟨by rw [← hwb, ← HSL.out.1]; exact Wb.new wr S, by rw [← hwb]; exact HG.out.trans (gr_bytes wr S)⟩
        rw [hwb] at hcvt
        obtain ⟨cap, hcap⟩ : ∃ q, grownCap wr S.size 0 5 = q := ⟨_, rfl⟩
        have HCAP : Keep (S.size ≤ cap) := ⟨by rw [← hcap]; exact grownCap_ge _ _ _ _⟩
        rw [hcap] at hcvt
        obtain ⟨bk, hbk⟩ : ∃ q, wr.heap.size = q := ⟨_, rfl⟩
        have HBK : Keep (w.heap.size ≤ bk) := ⟨by rw [← hbk]; exact HG.out.size⟩
        rw [hbk] at hcvt HW
        obtain ⟨x, hx⟩ : ∃ x, (B ++ t)[p]? = some x := ⟨_, List.getElem?_eq_getElem (by rw [List.length_append]; have := HLEN.out; omega)⟩
        have xc := HW.out.1.at_ p x hx
        have xz := HW.out.1.fz p (List.getElem?_eq_some_iff.1 hx).1
        obtain ⟨y, hy⟩ : ∃ y, x ^^^ 1 = y := ⟨_, rfl⟩
        have hxor : bits .xor .u8 (x.toNat : Int) 1 = (y.toNat : Int) := by rw [← hy]; exact c_xor x 1
        have HXO := Keep.mk hxor
        clear hwb hcap hbk hxor
        go_upto_region 26 with fail
        obtain ⟨we, hwe⟩ : ∃ q, wb.setCell ⟨bk, p, none⟩ (.int .u8 (bits .xor .u8 (x.toNat : Int) 1)) = q := ⟨_, rfl⟩
        have HE : Keep (Wb we bk ((B ++ t).set p y) ∧ w.grownBy we none) := ⟨by rw [← hwe, HXO.out]; exact HW.out.1.set p y, by rw [← hwe]; exact gr_new HW.out.2 (gr_set wb bk p _) HBK.out⟩
        have hcv2 := HE.out.1.bytes S.size cap (by rw [List.length_set]; have := congrArg List.length HSL.out.1; rw [sl_len] at this; exact this.symm) HCAP.out
        obtain ⟨S2, hS2⟩ : ∃ q, ba ((B ++ t).set p y) = q := ⟨_, rfl⟩
        rw [hS2] at hcv2
        generalize hwx : World.setCell wb { block := bk, off := p } _ = wx
        have hx2 : wx = we := hwx.symm.trans (Eq.trans (by rfl) hwe)
        clear hwx hwe
        subst hx2
        clear hcvt xc xz HW
        obtain ⟨H1, hH1⟩ : ∃ q, hmacB other Bd = q := ⟨_, rfl⟩
        obtain ⟨q1, hq1⟩ : ∃ q, sealed S other = q := ⟨_, rfl⟩
        obtain ⟨q2, hq2⟩ : ∃ q, sealed S2 key = q := ⟨_, rfl⟩
        obtain ⟨Bd2, hBd2⟩ : ∃ q, bodyB S2 = q := ⟨_, rfl⟩
        obtain ⟨H2, hH2⟩ : ∃ q, hmacB key Bd2 = q := ⟨_, rfl⟩
        obtain ⟨B3, t3, hS3, ht3, hB34, hkB3, hB3l⟩ := short_all HLEN.out.2.1 HLEN.out.2.2 HKB.out.1
        rw [HNM.out.1] at hS3
        obtain ⟨m1, hm1⟩ : ∃ q, B.length + 31 = q := ⟨_, rfl⟩
        rw [hm1] at hS3
        obtain ⟨S3, hS3e⟩ : ∃ q, ba (B3 ++ t3) = q := ⟨_, rfl⟩
        rw [hS3e] at hS3
        obtain ⟨key2, hkey2⟩ : ∃ q, key ++ ({ data := #[1] } : ByteArray) = q := ⟨_, rfl⟩
        obtain ⟨q3, hq3⟩ : ∃ q, sealed S3 key2 = q := ⟨_, rfl⟩
        obtain ⟨Bd3, hBd3⟩ : ∃ q, bodyB S3 = q := ⟨_, rfl⟩
        obtain ⟨H3, hH3⟩ : ∃ q, hmacB key2 Bd3 = q := ⟨_, rfl⟩
        obtain ⟨L3, hL3⟩ : ∃ q, S3.extract (S3.size - 32) S3.size = q := ⟨_, rfl⟩
        have e1 : (H1.toList == T.toList) = q1 := by
          rw [eqd, ← hq1, ← HNM.out.1, sealed_cut (by have := HLEN.out; omega) HLEN.out.2.2 HKB.out.1, HNM.out.2.2.1, HNM.out.2.1, hH1]
        have e2 : (H2.toList == T.toList) = q2 := by
          have hset : (B ++ t).set p y = B.set p y ++ t := List.set_append_left _ _ (by have := HLEN.out; omega)
          have hk2 : kindL (B.set p y) = kindL B := by
            have a1 : (B.set p y).take 4 = B.take 4 := by rw [List.take_set_of_le (by have := HLEN.out; omega)]
            have k1 := kindL_app (B := (B.set p y).take 4) (by rw [List.length_take, List.length_set]; have := HLEN.out; omega) ((B.set p y).drop 4)
            have k2 := kindL_app (B := B.take 4) (by rw [List.length_take]; have := HLEN.out; omega) (B.drop 4)
            rw [List.take_append_drop] at k1 k2
            rw [k1, a1, ← k2]
          have hc4 : 4 ≤ (B.set p y).length := by rw [List.length_set]; have := HLEN.out; omega
          have hb2 : Bd2 = ba (B.set p y) := by rw [← hBd2, ← hS2, hset]; exact body_cut hc4 HLEN.out.2.2 (by rw [hk2]; exact HKB.out.1)
          rw [eqd, ← hq2, ← hS2, hset, sealed_cut hc4 HLEN.out.2.2 (by rw [hk2]; exact HKB.out.1), HNM.out.2.2.1, ← hb2, hH2]
        have e3 : (H3.toList == L3.toList) = q3 := by
          have hb3 : Bd3 = ba B3 := by rw [← hBd3, ← hS3e]; exact body_cut hB34 ht3 hkB3
          have hl3 : L3 = ba t3 := by rw [← hL3, ← hS3e]; exact last_cut ht3
          rw [eqd, ← hq3, ← hS3e, sealed_cut hB34 ht3 hkB3, ← hb3, ← hl3, hH3]
        have sS2 : S2.size = S.size := by rw [← hS2, ba_size, List.length_set, ← HNM.out.1, ba_size]
        have sS3 : S3.size + 1 = S.size := by rw [← hS3e, ba_size, List.length_append, ht3, ← HNM.out.1, ba_size, List.length_append, HLEN.out.2.2]; omega
        have sK2 : key2.size = key.size + 1 := by rw [← hkey2, ByteArray.size_append]; rfl
        have sB2 : Bd2.size ≤ S2.size := by rw [← hBd2]; exact bodyB_size _
        have sB3 : Bd3.size ≤ S3.size := by rw [← hBd3]; exact bodyB_size _
        have C1 : Keep (∀ W, Kc W → Calls Tryz.prog 18 #[.string S, .string other] W fun e w' => e = .returned (.bool q1) ∧ W.grownBy w' none) := ⟨fun W hk => by have := sealed_c S other W hk (by omega) (by have := HKS.out; omega); rw [hq1] at this; exact this⟩
        have C2 : Keep (∀ W, Kc W → Calls Tryz.prog 17 #[.string other, .string Bd] W fun e w' => e = .returned (.string H1) ∧ W.grownBy w' none) := ⟨fun W hk => by have := tag_any other Bd W hk (by have := HKS.out; omega) (by omega); rw [hH1] at this; exact this⟩
        have C3 : Keep (∀ W, Kc W → Calls Tryz.prog 18 #[.string S2, .string key] W fun e w' => e = .returned (.bool q2) ∧ W.grownBy w' none) := ⟨fun W hk => by have := sealed_c S2 key W hk (by omega) (by have := HKS.out; omega); rw [hq2] at this; exact this⟩
        have C4 : Keep (∀ W, Calls Tryz.prog 14 #[.string S2] W fun e w' => e = .returned (.string Bd2) ∧ W.grownBy w' none) := ⟨fun W => by have := body_c S2 W (by omega); rw [hBd2] at this; exact this⟩
        have C5 : Keep (∀ W, Kc W → Calls Tryz.prog 17 #[.string key, .string Bd2] W fun e w' => e = .returned (.string H2) ∧ W.grownBy w' none) := ⟨fun W hk => by have := tag_any key Bd2 W hk (by have := HKS.out; omega) (by omega); rw [hH2] at this; exact this⟩
        have C6 : Keep (∀ W, Kc W → Calls Tryz.prog 18 #[.string S3, .string key2] W fun e w' => e = .returned (.bool q3) ∧ W.grownBy w' none) := ⟨fun W hk => by have := sealed_c S3 key2 W hk (by omega) (by have := HKS.out; omega); rw [hq3] at this; exact this⟩
        have C7 : Keep (∀ W, Calls Tryz.prog 14 #[.string S3] W fun e w' => e = .returned (.string Bd3) ∧ W.grownBy w' none) := ⟨fun W => by have := body_c S3 W (by omega); rw [hBd3] at this; exact this⟩
        have C8 : Keep (∀ W, Kc W → Calls Tryz.prog 17 #[.string key2, .string Bd3] W fun e w' => e = .returned (.string H3) ∧ W.grownBy w' none) := ⟨fun W hk => by have := tag_any key2 Bd3 W hk (by have := HKS.out; omega) (by omega); rw [hH3] at this; exact this⟩
        have C9 : Keep (∀ W, Calls Tryz.prog 19 #[.string S3] W fun e w' => e = .returned (.string L3) ∧ W.grownBy w' none) := ⟨fun W => by have := (last_c S3 W (by omega) (by omega)).mono (fun _ w' q => (⟨q.1, by rw [q.2]; exact World.grownBy.refl _ _⟩ : _ ∧ W.grownBy w' none)); rw [hL3] at this; exact this⟩
        have bK : ∀ W, (Op.stringOp .add key { data := #[1] }).run Tryz.prog W = .ok (.string key2) W := fun W => by rw [← hkey2]; exact addS key { data := #[1] } (by show key.size + 1 ≤ _; have := HKS.out; omega) W
        have wm : IntKind.i64.wrap (M - 1) = (m1 : Int) := by rw [show M - 1 = (m1 : Int) by have := HNM.out.2.2.2; omega]; exact IntWalk.i64_in _ (by have := HLEN.out; omega)
        have m0 : (0 : Int) ≤ (m1 : Int) := by omega
        have m2 : (m1 : Int) ≤ M := by have := HNM.out.2.2.2; omega
        have HGwe : Keep (w.grownBy wx none) := ⟨HE.out.2⟩
        clear hH1 hq1 hq2 hBd2 hH2 hS3e hkey2 hq3 hBd3 hH3 hL3 sS2 sS3 sK2 sB2 sB3 ht3 hB34 hkB3 hB3l hS2 hx hy hp hpM wa wp p0 p1 p2 p3
        go_wp2_with fail
        clear hcv2
        have HGd : Keep (w.grownBy wx.drew none) := ⟨HGwe.out.trans (gr_drew _ _)⟩
        refine wp_region_held_drew (S := fun w' => w.grownBy w' none) (by kernel_rfl) HGd.out (fun hHeld => ?_)
        refine wpAnyH_take (i := 0) (oi := _) (v := ?_) rfl (by kernel_rfl) (by kernel_rfl) (by kernel_rfl) (fun _ _ _ h => h) (Or.inl ⟨by rfl, ?_⟩) (by assumption) ?_
        rotate_left
        · (intro w hSw; go_simp; first | done | (with_reducible rfl))
        simp only [Act.put, List.getElem_toArray, List.getElem_cons_zero, List.setIfInBounds_toArray, List.set_cons_zero, List.set_cons_succ]
        refine wpAnyH_take (i := 1) (oi := _) (v := ?_) rfl (by kernel_rfl) (by kernel_rfl) (by kernel_rfl) (fun _ _ _ h => h) (Or.inl ⟨by rfl, ?_⟩) (by assumption) ?_
        rotate_left
        · (intro w hSw; go_simp; first | done | (with_reducible rfl))
        simp only [Act.put, List.getElem_toArray, List.getElem_cons_succ, List.getElem_cons_zero, List.setIfInBounds_toArray, List.set_cons_zero, List.set_cons_succ]
        refine wpAnyH_take (i := 3) (oi := _) (v := ?_) rfl (by kernel_rfl) (by kernel_rfl) (by kernel_rfl) (fun _ _ _ h => h) (Or.inl ⟨by rfl, ?_⟩) (by assumption) ?_
        rotate_left
        · (intro w hSw; go_simp; first | done | (with_reducible rfl))
        simp only [Act.put, List.getElem_toArray, List.getElem_cons_succ, List.getElem_cons_zero, List.setIfInBounds_toArray, List.set_cons_zero, List.set_cons_succ]
        refine wpAnyH_take (i := 4) (oi := _) (v := ?_) rfl (by kernel_rfl) (by kernel_rfl) (by kernel_rfl) (fun _ _ _ h => h) (Or.inl ⟨by rfl, ?_⟩) (by assumption) ?_
        rotate_left
        · (intro w hSw; go_simp; first | done | (with_reducible rfl))
        simp only [Act.put, List.getElem_toArray, List.getElem_cons_succ, List.getElem_cons_zero, List.setIfInBounds_toArray, List.set_cons_zero, List.set_cons_succ]
        refine wpAnyH_take (i := 6) (oi := _) (v := ?_) rfl (by kernel_rfl) (by kernel_rfl) (by kernel_rfl) (fun _ _ _ h => h) (Or.inl ⟨by rfl, ?_⟩) (by assumption) ?_
        rotate_left
        · (intro w hSw; go_simp; first | done | (with_reducible rfl))
        simp only [Act.put, List.getElem_toArray, List.getElem_cons_succ, List.getElem_cons_zero, List.setIfInBounds_toArray, List.set_cons_zero, List.set_cons_succ]
        refine wpAnyH_ready (rs := [2]) (by kernel_rfl) (by simp) ?_
        refine AllReadyH.cons rfl (fun K hK => ?_) AllReadyH.nil
        go_simp
        refine (C1.out _ (HK.out.kept HGd.out (by simp))).mono ?_
        rintro e' v1 ⟨rfl, gn⟩
        have HGv1 : Keep (w.grownBy v1 none) := ⟨HGd.out.trans gn⟩
        clear gn
        refine hK.out _ _ HGv1.out (fun hHeld => ?_)
        clear hK K
        refine wpAnyH_ready (rs := [5]) (by kernel_rfl) (by simp) ?_
        refine AllReadyH.cons rfl (fun K hK => ?_) AllReadyH.nil
        go_simp
        refine (C2.out _ (HK.out.kept HGv1.out (by simp))).mono ?_
        rintro e' v2 ⟨rfl, gn⟩
        have HGv2 : Keep (w.grownBy v2 none) := ⟨HGv1.out.trans gn⟩
        clear gn
        refine hK.out _ _ HGv2.out (fun hHeld => ?_)
        clear hK K
        refine wpAnyH_take (i := 7) (oi := _) (v := ?_) rfl (by kernel_rfl) (by kernel_rfl) (by kernel_rfl) (fun _ _ _ h => h) (Or.inl ⟨by rfl, ?_⟩) (by assumption) ?_
        rotate_left
        · (intro w hSw; go_simp; first | done | (with_reducible rfl))
        simp only [Act.put, List.getElem_toArray, List.getElem_cons_succ, List.getElem_cons_zero, List.setIfInBounds_toArray, List.set_cons_zero, List.set_cons_succ]
        refine wpAnyH_take (i := 8) (oi := _) (v := ?_) rfl (by kernel_rfl) (by kernel_rfl) (by kernel_rfl) (fun _ _ _ h => h) (Or.inl ⟨by rfl, ?_⟩) (by assumption) ?_
        rotate_left
        · (intro w hSw; go_simp; first | done | (with_reducible rfl))
        simp only [Act.put, List.getElem_toArray, List.getElem_cons_succ, List.getElem_cons_zero, List.setIfInBounds_toArray, List.set_cons_zero, List.set_cons_succ]
        refine wpAnyH_take (i := 9) (oi := _) (v := ?_) rfl (by kernel_rfl) (by kernel_rfl) (by kernel_rfl) (fun _ _ _ h => h) (Or.inl ⟨by rfl, ?_⟩) (by assumption) ?_
        rotate_left
        · (intro w hSw; go_simp; first | done | (with_reducible rfl))
        simp only [Act.put, List.getElem_toArray, List.getElem_cons_succ, List.getElem_cons_zero, List.setIfInBounds_toArray, List.set_cons_zero, List.set_cons_succ]
        refine wpAnyH_take (i := 10) (oi := _) (v := ?_) rfl (by kernel_rfl) (by kernel_rfl) (by kernel_rfl) (fun _ _ _ h => h) (Or.inl ⟨by rfl, ?_⟩) (by assumption) ?_
        rotate_left
        · (intro w hSw; go_simp; first | done | (with_reducible rfl))
        simp only [Act.put, List.getElem_toArray, List.getElem_cons_succ, List.getElem_cons_zero, List.setIfInBounds_toArray, List.set_cons_zero, List.set_cons_succ]
        refine wpAnyH_take (i := 11) (oi := _) (v := ?_) rfl (by kernel_rfl) (by kernel_rfl) (by kernel_rfl) (fun _ _ _ h => h) (Or.inl ⟨by rfl, ?_⟩) (by assumption) ?_
        rotate_left
        · (intro w hSw; go_simp; first | done | (with_reducible rfl))
        simp only [Act.put, List.getElem_toArray, List.getElem_cons_succ, List.getElem_cons_zero, List.setIfInBounds_toArray, List.set_cons_zero, List.set_cons_succ]
        refine wpAnyH_take (i := 13) (oi := _) (v := ?_) rfl (by kernel_rfl) (by kernel_rfl) (by kernel_rfl) (fun _ _ _ h => h) (Or.inl ⟨by rfl, ?_⟩) (by assumption) ?_
        rotate_left
        · (intro w hSw; go_simp; first | done | (with_reducible rfl))
        simp only [Act.put, List.getElem_toArray, List.getElem_cons_succ, List.getElem_cons_zero, List.setIfInBounds_toArray, List.set_cons_zero, List.set_cons_succ]
        refine wpAnyH_take (i := 14) (oi := _) (v := ?_) rfl (by kernel_rfl) (by kernel_rfl) (by kernel_rfl) (fun _ _ _ h => h) (Or.inl ⟨by rfl, ?_⟩) (by assumption) ?_
        rotate_left
        · (intro w hSw; go_simp; first | done | (with_reducible rfl))
        simp only [Act.put, List.getElem_toArray, List.getElem_cons_succ, List.getElem_cons_zero, List.setIfInBounds_toArray, List.set_cons_zero, List.set_cons_succ]
        refine wpAnyH_take (i := 17) (oi := _) (v := ?_) rfl (by kernel_rfl) (by kernel_rfl) (by kernel_rfl) (fun _ _ _ h => h) (Or.inl ⟨by rfl, ?_⟩) (by assumption) ?_
        rotate_left
        · (intro w hSw; go_simp; first | done | (with_reducible rfl))
        simp only [Act.put, List.getElem_toArray, List.getElem_cons_succ, List.getElem_cons_zero, List.setIfInBounds_toArray, List.set_cons_zero, List.set_cons_succ]
        refine wpAnyH_ready (rs := [12]) (by kernel_rfl) (by simp) ?_
        refine AllReadyH.cons rfl (fun K hK => ?_) AllReadyH.nil
        go_simp
        refine (C3.out _ (HK.out.kept HGv2.out (by simp))).mono ?_
        rintro e' v3 ⟨rfl, gn⟩
        have HGv3 : Keep (w.grownBy v3 none) := ⟨HGv2.out.trans gn⟩
        clear gn
        refine hK.out _ _ HGv3.out (fun hHeld => ?_)
        clear hK K
        refine wpAnyH_ready (rs := [15]) (by kernel_rfl) (by simp) ?_
        refine AllReadyH.cons rfl (fun K hK => ?_) AllReadyH.nil
        go_simp
        refine (C4.out _).mono ?_
        rintro e' v4 ⟨rfl, gn⟩
        have HGv4 : Keep (w.grownBy v4 none) := ⟨HGv3.out.trans gn⟩
        clear gn
        refine hK.out _ _ HGv4.out (fun hHeld => ?_)
        clear hK K
        refine wpAnyH_ready (rs := [16]) (by kernel_rfl) (by simp) ?_
        refine AllReadyH.cons rfl (fun K hK => ?_) AllReadyH.nil
        go_simp
        refine (C5.out _ (HK.out.kept HGv4.out (by simp))).mono ?_
        rintro e' v5 ⟨rfl, gn⟩
        have HGv5 : Keep (w.grownBy v5 none) := ⟨HGv4.out.trans gn⟩
        clear gn
        refine hK.out _ _ HGv5.out (fun hHeld => ?_)
        clear hK K
        refine wpAnyH_take (i := 18) (oi := _) (v := ?_) rfl (by kernel_rfl) (by kernel_rfl) (by kernel_rfl) (fun _ _ _ h => h) (Or.inl ⟨by rfl, ?_⟩) (by assumption) ?_
        rotate_left
        · (intro w hSw; go_simp; first | done | (with_reducible rfl))
        simp only [Act.put, List.getElem_toArray, List.getElem_cons_succ, List.getElem_cons_zero, List.setIfInBounds_toArray, List.set_cons_zero, List.set_cons_succ]
        refine wpAnyH_take (i := 19) (oi := _) (v := ?_) rfl (by kernel_rfl) (by kernel_rfl) (by kernel_rfl) (fun _ _ _ h => h) (Or.inl ⟨by rfl, ?_⟩) (by assumption) ?_
        rotate_left
        · (intro w hSw; go_simp; first | done | (with_reducible rfl))
        simp only [Act.put, List.getElem_toArray, List.getElem_cons_succ, List.getElem_cons_zero, List.setIfInBounds_toArray, List.set_cons_zero, List.set_cons_succ]
        refine wpAnyH_take (i := 20) (oi := _) (v := ?_) rfl (by kernel_rfl) (by kernel_rfl) (by kernel_rfl) (fun _ _ _ h => h) (Or.inl ⟨by rfl, ?_⟩) (by assumption) ?_
        rotate_left
        · (intro w hSw; go_simp; first | done | (with_reducible rfl))
        simp only [Act.put, List.getElem_toArray, List.getElem_cons_succ, List.getElem_cons_zero, List.setIfInBounds_toArray, List.set_cons_zero, List.set_cons_succ]
        refine wpAnyH_take (i := 21) (oi := _) (v := ?_) rfl (by kernel_rfl) (by kernel_rfl) (by kernel_rfl) (fun _ _ _ h => h) (Or.inl ⟨by rfl, ?_⟩) (by assumption) ?_
        rotate_left
        · (intro w hSw; go_simp; first | done | (with_reducible rfl))
        simp only [Act.put, List.getElem_toArray, List.getElem_cons_succ, List.getElem_cons_zero, List.setIfInBounds_toArray, List.set_cons_zero, List.set_cons_succ]
        refine wpAnyH_take (i := 22) (oi := _) (v := ?_) rfl (by kernel_rfl) (by kernel_rfl) (by kernel_rfl) (fun _ _ _ h => h) (Or.inl ⟨by rfl, ?_⟩) (by assumption) ?_
        rotate_left
        · (intro w hSw; go_simp; first | done | (with_reducible rfl))
        simp only [Act.put, List.getElem_toArray, List.getElem_cons_succ, List.getElem_cons_zero, List.setIfInBounds_toArray, List.set_cons_zero, List.set_cons_succ]
        refine wpAnyH_take (i := 23) (oi := _) (v := ?_) rfl (by kernel_rfl) (by kernel_rfl) (by kernel_rfl) (fun _ _ _ h => h) (Or.inl ⟨by rfl, ?_⟩) (by assumption) ?_
        rotate_left
        · (intro w hSw; go_simp; first | done | (with_reducible rfl))
        simp only [Act.put, List.getElem_toArray, List.getElem_cons_succ, List.getElem_cons_zero, List.setIfInBounds_toArray, List.set_cons_zero, List.set_cons_succ]
        refine wpAnyH_take (i := 24) (oi := _) (v := ?_) rfl (by kernel_rfl) (by kernel_rfl) (by kernel_rfl) (fun _ _ _ h => h) (Or.inl ⟨by rfl, ?_⟩) (by assumption) ?_
        rotate_left
        · (intro w hSw; go_simp; first | done | (with_reducible rfl))
        simp only [Act.put, List.getElem_toArray, List.getElem_cons_succ, List.getElem_cons_zero, List.setIfInBounds_toArray, List.set_cons_zero, List.set_cons_succ]
        refine wpAnyH_take (i := 25) (oi := _) (v := ?_) rfl (by kernel_rfl) (by kernel_rfl) (by kernel_rfl) (fun _ _ _ h => h) (Or.inl ⟨by rfl, ?_⟩) (by assumption) ?_
        rotate_left
        · (intro w hSw; go_simp; first | done | (with_reducible rfl))
        simp only [Act.put, List.getElem_toArray, List.getElem_cons_succ, List.getElem_cons_zero, List.setIfInBounds_toArray, List.set_cons_zero, List.set_cons_succ]
        refine wpAnyH_take (i := 26) (oi := _) (v := ?_) rfl (by kernel_rfl) (by kernel_rfl) (by kernel_rfl) (fun _ _ _ h => h) (Or.inl ⟨by rfl, ?_⟩) (by assumption) ?_
        rotate_left
        · (intro w hSw; go_simp; first | done | (with_reducible rfl))
        simp only [Act.put, List.getElem_toArray, List.getElem_cons_succ, List.getElem_cons_zero, List.setIfInBounds_toArray, List.set_cons_zero, List.set_cons_succ]
        refine wpAnyH_take (i := 27) (oi := _) (v := ?_) rfl (by kernel_rfl) (by kernel_rfl) (by kernel_rfl) (fun _ _ _ h => h) (Or.inl ⟨by rfl, ?_⟩) (by assumption) ?_
        rotate_left
        · (intro w hSw; go_simp; first | done | (with_reducible rfl))
        simp only [Act.put, List.getElem_toArray, List.getElem_cons_succ, List.getElem_cons_zero, List.setIfInBounds_toArray, List.set_cons_zero, List.set_cons_succ]
        refine wpAnyH_take (i := 28) (oi := _) (v := ?_) rfl (by kernel_rfl) (by kernel_rfl) (by kernel_rfl) (fun _ _ _ h => h) (Or.inl ⟨by rfl, ?_⟩) (by assumption) ?_
        rotate_left
        · (intro w hSw; go_simp; first | done | (with_reducible rfl))
        simp only [Act.put, List.getElem_toArray, List.getElem_cons_succ, List.getElem_cons_zero, List.setIfInBounds_toArray, List.set_cons_zero, List.set_cons_succ]
        refine wpAnyH_take (i := 31) (oi := _) (v := ?_) rfl (by kernel_rfl) (by kernel_rfl) (by kernel_rfl) (fun _ _ _ h => h) (Or.inl ⟨by rfl, ?_⟩) (by assumption) ?_
        rotate_left
        · (intro w hSw; go_simp; first | done | (with_reducible rfl))
        simp only [Act.put, List.getElem_toArray, List.getElem_cons_succ, List.getElem_cons_zero, List.setIfInBounds_toArray, List.set_cons_zero, List.set_cons_succ]
        refine wpAnyH_take (i := 32) (oi := _) (v := ?_) rfl (by kernel_rfl) (by kernel_rfl) (by kernel_rfl) (fun _ _ _ h => h) (Or.inl ⟨by rfl, ?_⟩) (by assumption) ?_
        rotate_left
        · (intro w hSw; go_simp; first | done | (with_reducible rfl))
        simp only [Act.put, List.getElem_toArray, List.getElem_cons_succ, List.getElem_cons_zero, List.setIfInBounds_toArray, List.set_cons_zero, List.set_cons_succ]
        refine wpAnyH_take (i := 33) (oi := _) (v := ?_) rfl (by kernel_rfl) (by kernel_rfl) (by kernel_rfl) (fun _ _ _ h => h) (Or.inl ⟨by rfl, ?_⟩) (by assumption) ?_
        rotate_left
        · (intro w hSw; go_simp; first | done | (with_reducible rfl))
        simp only [Act.put, List.getElem_toArray, List.getElem_cons_succ, List.getElem_cons_zero, List.setIfInBounds_toArray, List.set_cons_zero, List.set_cons_succ]
        refine wpAnyH_take (i := 34) (oi := _) (v := ?_) rfl (by kernel_rfl) (by kernel_rfl) (by kernel_rfl) (fun _ _ _ h => h) (Or.inl ⟨by rfl, ?_⟩) (by assumption) ?_
        rotate_left
        · (intro w hSw; go_simp; first | done | (with_reducible rfl))
        simp only [Act.put, List.getElem_toArray, List.getElem_cons_succ, List.getElem_cons_zero, List.setIfInBounds_toArray, List.set_cons_zero, List.set_cons_succ]
        refine wpAnyH_take (i := 35) (oi := _) (v := ?_) rfl (by kernel_rfl) (by kernel_rfl) (by kernel_rfl) (fun _ _ _ h => h) (Or.inl ⟨by rfl, ?_⟩) (by assumption) ?_
        rotate_left
        · (intro w hSw; go_simp; first | done | (with_reducible rfl))
        simp only [Act.put, List.getElem_toArray, List.getElem_cons_succ, List.getElem_cons_zero, List.setIfInBounds_toArray, List.set_cons_zero, List.set_cons_succ]
        refine wpAnyH_take (i := 36) (oi := _) (v := ?_) rfl (by kernel_rfl) (by kernel_rfl) (by kernel_rfl) (fun _ _ _ h => h) (Or.inl ⟨by rfl, ?_⟩) (by assumption) ?_
        rotate_left
        · (intro w hSw; go_simp; first | done | (with_reducible rfl))
        simp only [Act.put, List.getElem_toArray, List.getElem_cons_succ, List.getElem_cons_zero, List.setIfInBounds_toArray, List.set_cons_zero, List.set_cons_succ]
        refine wpAnyH_take (i := 37) (oi := _) (v := ?_) rfl (by kernel_rfl) (by kernel_rfl) (by kernel_rfl) (fun _ _ _ h => h) (Or.inl ⟨by rfl, ?_⟩) (by assumption) ?_
        rotate_left
        · (intro w hSw; go_simp; first | done | (with_reducible rfl))
        simp only [Act.put, List.getElem_toArray, List.getElem_cons_succ, List.getElem_cons_zero, List.setIfInBounds_toArray, List.set_cons_zero, List.set_cons_succ]
        refine wpAnyH_take (i := 40) (oi := _) (v := ?_) rfl (by kernel_rfl) (by kernel_rfl) (by kernel_rfl) (fun _ _ _ h => h) (Or.inl ⟨by rfl, ?_⟩) (by assumption) ?_
        rotate_left
        · (intro w hSw; go_simp; first | done | (with_reducible rfl))
        simp only [Act.put, List.getElem_toArray, List.getElem_cons_succ, List.getElem_cons_zero, List.setIfInBounds_toArray, List.set_cons_zero, List.set_cons_succ]
        refine wpAnyH_take (i := 41) (oi := _) (v := ?_) rfl (by kernel_rfl) (by kernel_rfl) (by kernel_rfl) (fun _ _ _ h => h) (Or.inl ⟨by rfl, ?_⟩) (by assumption) ?_
        rotate_left
        · (intro w hSw; go_simp; first | done | (with_reducible rfl))
        simp only [Act.put, List.getElem_toArray, List.getElem_cons_succ, List.getElem_cons_zero, List.setIfInBounds_toArray, List.set_cons_zero, List.set_cons_succ]
        refine wpAnyH_take (i := 42) (oi := _) (v := ?_) rfl (by kernel_rfl) (by kernel_rfl) (by kernel_rfl) (fun _ _ _ h => h) (Or.inl ⟨by rfl, ?_⟩) (by assumption) ?_
        rotate_left
        · (intro w hSw; go_simp; first | done | (with_reducible rfl))
        simp only [Act.put, List.getElem_toArray, List.getElem_cons_succ, List.getElem_cons_zero, List.setIfInBounds_toArray, List.set_cons_zero, List.set_cons_succ]
        refine wpAnyH_take (i := 43) (oi := _) (v := ?_) rfl (by kernel_rfl) (by kernel_rfl) (by kernel_rfl) (fun _ _ _ h => h) (Or.inl ⟨by rfl, ?_⟩) (by assumption) ?_
        rotate_left
        · (intro w hSw; go_simp; first | done | (with_reducible rfl))
        simp only [Act.put, List.getElem_toArray, List.getElem_cons_succ, List.getElem_cons_zero, List.setIfInBounds_toArray, List.set_cons_zero, List.set_cons_succ]
        refine wpAnyH_take (i := 44) (oi := _) (v := ?_) rfl (by kernel_rfl) (by kernel_rfl) (by kernel_rfl) (fun _ _ _ h => h) (Or.inl ⟨by rfl, ?_⟩) (by assumption) ?_
        rotate_left
        · (intro w hSw; go_simp; first | done | (with_reducible rfl))
        simp only [Act.put, List.getElem_toArray, List.getElem_cons_succ, List.getElem_cons_zero, List.setIfInBounds_toArray, List.set_cons_zero, List.set_cons_succ]
        refine wpAnyH_ready (rs := [29]) (by kernel_rfl) (by simp) ?_
        refine AllReadyH.cons rfl (fun K hK => ?_) AllReadyH.nil
        go_simp
        refine (C6.out _ (HK.out.kept HGv5.out (by simp))).mono ?_
        rintro e' v6 ⟨rfl, gn⟩
        have HGv6 : Keep (w.grownBy v6 none) := ⟨HGv5.out.trans gn⟩
        clear gn
        refine hK.out _ _ HGv6.out (fun hHeld => ?_)
        clear hK K
        refine wpAnyH_take (i := 30) (oi := _) (v := ?_) rfl (by kernel_rfl) (by kernel_rfl) (by kernel_rfl) (fun _ _ _ h => h) (Or.inl ⟨by rfl, ?_⟩) (by assumption) ?_
        rotate_left
        · (intro w hSw; go_simp; first | done | (with_reducible rfl))
        simp only [Act.put, List.getElem_toArray, List.getElem_cons_succ, List.getElem_cons_zero, List.setIfInBounds_toArray, List.set_cons_zero, List.set_cons_succ]
        refine wpAnyH_ready (rs := [38]) (by kernel_rfl) (by simp) ?_
        refine AllReadyH.cons rfl (fun K hK => ?_) AllReadyH.nil
        go_simp
        refine (C7.out _).mono ?_
        rintro e' v7 ⟨rfl, gn⟩
        have HGv7 : Keep (w.grownBy v7 none) := ⟨HGv6.out.trans gn⟩
        clear gn
        refine hK.out _ _ HGv7.out (fun hHeld => ?_)
        clear hK K
        refine wpAnyH_ready (rs := [39]) (by kernel_rfl) (by simp) ?_
        refine AllReadyH.cons rfl (fun K hK => ?_) AllReadyH.nil
        go_simp
        refine (C8.out _ (HK.out.kept HGv7.out (by simp))).mono ?_
        rintro e' v8 ⟨rfl, gn⟩
        have HGv8 : Keep (w.grownBy v8 none) := ⟨HGv7.out.trans gn⟩
        clear gn
        refine hK.out _ _ HGv8.out (fun hHeld => ?_)
        clear hK K
        refine wpAnyH_ready (rs := [45]) (by kernel_rfl) (by simp) ?_
        refine AllReadyH.cons rfl (fun K hK => ?_) AllReadyH.nil
        go_simp
        refine (C9.out _).mono ?_
        rintro e' v9 ⟨rfl, gn⟩
        have HGv9 : Keep (w.grownBy v9 none) := ⟨HGv8.out.trans gn⟩
        clear gn
        refine hK.out _ _ HGv9.out (fun hHeld => ?_)
        clear hK K
        refine wpAnyH_take (i := 46) (oi := _) (v := ?_) rfl (by kernel_rfl) (by kernel_rfl) (by kernel_rfl) (fun _ _ _ h => h) (Or.inl ⟨by rfl, ?_⟩) (by assumption) ?_
        rotate_left
        · (intro w hSw; go_simp; first | done | (with_reducible rfl))
        simp only [Act.put, List.getElem_toArray, List.getElem_cons_succ, List.getElem_cons_zero, List.setIfInBounds_toArray, List.set_cons_zero, List.set_cons_succ]
        refine wpAnyH_take (i := 47) (oi := _) (v := ?_) rfl (by kernel_rfl) (by kernel_rfl) (by kernel_rfl) (fun _ _ _ h => h) (Or.inl ⟨by rfl, ?_⟩) (by assumption) ?_
        rotate_left
        · (intro w hSw; go_simp; first | done | (with_reducible rfl))
        simp only [Act.put, List.getElem_toArray, List.getElem_cons_succ, List.getElem_cons_zero, List.setIfInBounds_toArray, List.set_cons_zero, List.set_cons_succ]
        refine wpAnyH_take (i := 48) (oi := _) (v := ?_) rfl (by kernel_rfl) (by kernel_rfl) (by kernel_rfl) (fun _ _ _ h => h) (Or.inl ⟨by rfl, ?_⟩) (by assumption) ?_
        rotate_left
        · (intro w hSw; go_simp; first | done | (with_reducible rfl))
        simp only [Act.put, List.getElem_toArray, List.getElem_cons_succ, List.getElem_cons_zero, List.setIfInBounds_toArray, List.set_cons_zero, List.set_cons_succ]
        refine wpAnyH_take (i := 49) (oi := _) (v := ?_) rfl (by kernel_rfl) (by kernel_rfl) (by kernel_rfl) (fun _ _ _ h => h) (Or.inl ⟨by rfl, ?_⟩) (by assumption) ?_
        rotate_left
        · (intro w hSw; go_simp; first | done | (with_reducible rfl))
        simp only [Act.put, List.getElem_toArray, List.getElem_cons_succ, List.getElem_cons_zero, List.setIfInBounds_toArray, List.set_cons_zero, List.set_cons_succ]
        refine wpAnyH_take (i := 50) (oi := _) (v := ?_) rfl (by kernel_rfl) (by kernel_rfl) (by kernel_rfl) (fun _ _ _ h => h) (Or.inl ⟨by rfl, ?_⟩) (by assumption) ?_
        rotate_left
        · (intro w hSw; go_simp; first | done | (with_reducible rfl))
        simp only [Act.put, List.getElem_toArray, List.getElem_cons_succ, List.getElem_cons_zero, List.setIfInBounds_toArray, List.set_cons_zero, List.set_cons_succ]
        refine wpAnyH_done (by kernel_rfl) ?_ _
        go_wp2_with fail
        go_ret
        exact ⟨rfl, HGv9.out⟩
  · obtain ⟨s0, hcase⟩ := seal_no d key HDF.out.1 (by rw [HSD.out.2]; exact he0)
    rw [HSD.out.1] at s0
    rw [HSD.out.2] at hcase
    subst s0
    have HCA := Keep.mk hcase
    clear hcase HSD
    obtain ⟨f, hf⟩ : ∃ x, (enc d).2 = x := ⟨_, rfl⟩
    obtain ⟨F, hF⟩ : ∃ x, ba (enc d).1 = x := ⟨_, rfl⟩
    obtain ⟨g, hg⟩ : ∃ x, (enc d.bare).2 = x := ⟨_, rfl⟩
    obtain ⟨G, hG⟩ : ∃ x, ba (enc d.bare).1 = x := ⟨_, rfl⟩
    have HE1 : Keep (∀ W, Calls Tryz.prog 12 #[.agg d.cells.toArray] W fun e' w' => e' = .returned (.tuple #[.string F, .int .i64 f]) ∧ W.grownBy w' none) := ⟨fun W => by have := encode_c d HDF.out.1 HDF.out.2 W; rw [hf, hF] at this; exact this⟩
    have HE2 : Keep (∀ W, Calls Tryz.prog 12 #[.agg d.bare.cells.toArray] W fun e' w' => e' = .returned (.tuple #[.string G, .int .i64 g]) ∧ W.grownBy w' none) := ⟨fun W => by have := encode_c d.bare (Dg.bare_fine HDF.out.1) (Dg.bare_small HDF.out.2) W; rw [hg, hG] at this; exact this⟩
    have HTI : Keep (∀ W, Calls Tryz.prog 15 #[.int .u8 0, .int .i64 32] W fun e w' => e = .returned (.string zero32) ∧ W.grownBy w' none) := ⟨fun W => times_c 0 0 rfl 32 (by omega) W⟩
    rw [hf, hg] at HCA
    clear hf hF hg hG
    unfold nob
    go_wp2_with (refine wpList_load_mid rfl 26 _ rfl _ _ rfl d.cells _ (HC.out.1).range hdu hdr info26 ?_)
    refine (HE1.out _).mono ?_
    rintro e' w3 ⟨rfl, gn⟩
    replace HC : Keep (Has w3 b3 d.cells 26 ∧ w.grownBy w3 none) := ⟨(HC.out.1).kept gn (by simp), (HC.out.2).trans gn⟩
    clear gn
    go_wp2_with fail
    refine (HTI.out _).mono ?_
    rintro e' w4 ⟨rfl, gn⟩
    replace HC : Keep (Has w4 b3 d.cells 26 ∧ w.grownBy w4 none) := ⟨(HC.out.1).kept gn (by simp), (HC.out.2).trans gn⟩
    clear gn
    have z14 := HC.out.1.frozen 14
    have c14 : w4.cell? ⟨b3, 14, none⟩ = some (.string d.tag) := HC.out.1.cellv 14 _ rfl
    have HC5 : Keep (Has (w4.setCell ⟨b3, 14, none⟩ (.string zero32)) b3 d.bare.cells 26 ∧ w.grownBy (w4.setCell ⟨b3, 14, none⟩ (.string zero32)) none) := ⟨HC.out.1.setCell 14 (.string zero32), gr_new HC.out.2 (gr_set w4 b3 14 _) HLO.out⟩
    obtain ⟨w5, hw5⟩ : ∃ q, w4.setCell ⟨b3, 14, none⟩ (.string zero32) = q := ⟨_, rfl⟩
    rw [hw5] at HC5
    go_wp2_with (refine wpList_load_mid rfl 26 _ rfl _ _ rfl d.bare.cells _ (HC5.out.1).range hdu hdr info26 ?_)
    refine (HE2.out _).mono ?_
    rintro e' w6 ⟨rfl, gn⟩
    have HC6 : Keep (Has w6 b3 d.bare.cells 26 ∧ w.grownBy w6 none) := ⟨(HC5.out.1).kept gn (by simp), (HC5.out.2).trans gn⟩
    clear gn HC5 HC hw5 z14 c14
    have k0 : w6.cell? ⟨b3, 0, none⟩ = some (.int .i64 d.kind) := HC6.out.1.cellv 0 _ rfl
    generalize d.kind = kd at *
    rcases HCA.out with ⟨k3, k7, rfl, hf0⟩ | ⟨hk37, rfl, hf7⟩
    · have hg1 : (g != 0) = true := by simp [he0]
      have hf1 : (f != 0) = true := by simp [hf0]
      go_wp2_with fail
      go_ret
      exact ⟨rfl, HC6.out.2⟩
    · have hkk : kd < 3 ∨ (¬ kd < 3 ∧ 7 < kd) := by omega
      rcases hkk with hk3 | ⟨hk3, hk7⟩
      · rcases (show g = 0 ∨ g = 71 ∨ (g ≠ 0 ∧ g ≠ 71) by omega) with hg0 | hg0 | ⟨hg0, hg7⟩
        · subst hg0
          rcases (show f = 0 ∨ f ≠ 0 by omega) with hf0 | hf0
          · subst hf0
            go_wp2_with fail
            go_ret
            exact ⟨rfl, HC6.out.2⟩
          · have hf1 : (f != 0) = true := by simp [hf0]
            go_wp2_with fail
            go_ret
            exact ⟨rfl, HC6.out.2⟩
        · subst hg0
          rcases (show f = 0 ∨ f ≠ 0 by omega) with hf0 | hf0
          · subst hf0
            go_wp2_with fail
            go_ret
            exact ⟨rfl, HC6.out.2⟩
          · have hf1 : (f != 0) = true := by simp [hf0]
            go_wp2_with fail
            go_ret
            exact ⟨rfl, HC6.out.2⟩
        · have hg1 : (g != 0) = true := by simp [hg0]
          have hg2 : ((71 : Int) == g) = false := by simp; omega
          rcases (show f = 0 ∨ f ≠ 0 by omega) with hf0 | hf0
          · subst hf0
            go_wp2_with fail
            go_ret
            exact ⟨rfl, HC6.out.2⟩
          · have hf1 : (f != 0) = true := by simp [hf0]
            go_wp2_with fail
            go_ret
            exact ⟨rfl, HC6.out.2⟩
      · have hf0 := hf7 hk7
        have hf1 : (f != 0) = true := by simp [hf0]
        rcases (show g = 0 ∨ g = 71 ∨ (g ≠ 0 ∧ g ≠ 71) by omega) with hg0 | hg0 | ⟨hg0, hg7⟩
        · subst hg0
          go_wp2_with fail
          go_ret
          exact ⟨rfl, HC6.out.2⟩
        · subst hg0
          go_wp2_with fail
          go_ret
          exact ⟨rfl, HC6.out.2⟩
        · have hg1 : (g != 0) = true := by simp [hg0]
          have hg2 : ((71 : Int) == g) = false := by simp; omega
          go_wp2_with fail
          go_ret
          exact ⟨rfl, HC6.out.2⟩
end Go.Proofs.YtiphnlfbgbemfaaGreatDoor.Pk

