/- slices: symMerge, one on the left -/
import Derived.Test.YtgedlabmndlooaaGreatC4
namespace Go.Proofs.YtgedlabmndlooaaGreat
open Go Go.RowKit Go.Maps

set_option maxRecDepth 100000 in
set_option maxHeartbeats 16000000 in
theorem sym1C (w0 W : World) (l : List As) (g n c kb a m b : Nat) (P B Q : List Cr) (x : Cr) (ha : P.length = a) (hm : a + 1 = m) (hb : m + B.length = b) (hB : Ris (fun c : Cr => c.pl) B) (hn : (P ++ [x] ++ B ++ Q).length = n) (hn1 : n ≤ 281474976710656) (hkb : boxA kb [nvC] 86 ∈ l)
    (h : Sep w0 W (rowV 26 14 (sl g n c) n (fl crv (P ++ [x] ++ B ++ Q)) :: l)) :
    Calls Tryz.prog 84 #[sl g n c, iv a, iv m, iv b, cvC kb] W fun e W' => e = .returned (.tuple #[]) ∧ ∃ R : List Cr, Ris (fun c : Cr => c.pl) R ∧ Stb (fun c : Cr => c.pl) ([x] ++ B) R ∧ Sep w0 W' (rowV 26 14 (sl g n c) n (fl crv (P ++ R ++ Q)) :: l) := by
  have HKB := Keep.mk hkb
  have hln : m ≤ b ∧ b ≤ n := by simp only [List.length_append, List.length_singleton] at hn; omega
  have HL : Keep (a + 1 = m ∧ m ≤ b ∧ b ≤ n ∧ n ≤ 281474976710656 ∧ P.length = a ∧ m + B.length = b) := ⟨⟨hm, hln.1, hln.2, hn1, ha, hb⟩⟩
  obtain ⟨D, hD⟩ : ∃ D, P ++ [x] ++ B ++ Q = D := ⟨_, rfl⟩
  have HB0 : Keep (Sep w0 W (rowV 26 14 (sl g n c) n (fl crv (D)) :: l)) := ⟨by rw [← hD]; exact h⟩
  have HLN : Keep (D.length = n) := ⟨by rw [← hD]; exact hn⟩
  have HD := Keep.mk hD
  have HN0 : Keep (0 < n) := ⟨by omega⟩
  have GA : Keep (D[a]? = some x) := ⟨by rw [← hD, show P ++ [x] ++ B ++ Q = P ++ x :: (B ++ Q) by simp, ← ha]; simp⟩
  have HDB : Keep (∀ (t : Nat) (y : Cr), B[t]? = some y → D[m + t]? = some y) := ⟨fun t y hy => by
    have ht := (List.getElem?_eq_some_iff.1 hy).1
    rw [← hD, List.append_assoc, List.getElem?_append_right (by simp only [List.length_append, List.length_singleton]; omega), show m + t - (P ++ [x]).length = t by simp only [List.length_append, List.length_singleton]; omega, List.getElem?_append_left ht]
    exact hy⟩
  have HRB := Keep.mk hB
  have Ha : Keep (a < n) := ⟨by omega⟩
  obtain ⟨du, hdu⟩ := under26
  have ec := ecmpC
  have hw0 : IntKind.i64.wrap ((m : Int) - (a : Int)) = 1 := by rw [IntKind.wrap_i64]; omega
  have haa : (0 : Int) ≤ (a : Int) := by omega
  have hab : (a : Int) < (n : Int) := by have := Ha.out; omega
  have hac : ((a : Nat) : Int).toNat = a := by omega
  clear h hD ha hm hb hB hn hkb hln
  go_enter Tryz.func84, Tryz.ntmps84
  go_wp2_with fail
  go_loopw [10, 11] (fun u10 u11 wr => ∃ i j : Nat, m ≤ i ∧ i ≤ j ∧ j ≤ b ∧ u10 = iv i ∧ u11 = iv j ∧ Keep ((∀ (t : Nat) (y : Cr), m + t < i → B[t]? = some y → y.pl < x.pl) ∧ (∀ (t : Nat) (y : Cr), j ≤ m + t → B[t]? = some y → x.pl ≤ y.pl)) ∧ Keep (Sep w0 wr (rowV 26 14 (sl g n c) n (fl crv (D)) :: l))) (fun u10 u11 _ => (intOf u11 - intOf u10).toNat)
  case atStart => exact ⟨m, b, Nat.le_refl _, HL.out.2.1, Nat.le_refl _, rfl, rfl, ⟨⟨fun t y h => by omega, fun t y h hy => by have := (List.getElem?_eq_some_iff.1 hy).1; have := HL.out; omega⟩⟩, HB0⟩
  case round =>
    clear HB0 hw0
    obtain ⟨i, j, hi, hij, hj, rfl, rfl, HI, HB⟩ := hrel
    by_cases hlt : i < j
    · have hlt1 : (i : Int) < (j : Int) := by omega
      have hbn := HL.out
      obtain ⟨ij, hij⟩ : ∃ ij, i + j = ij := ⟨_, rfl⟩
      obtain ⟨h, hh⟩ : ∃ h, ij / 2 = h := ⟨_, rfl⟩
      have hm1 : IntKind.i64.wrap ((i : Int) + (j : Int)) = ((ij : Nat) : Int) := by rw [IntKind.wrap_i64]; omega
      have hm2 : IntKind.u64.wrap ((ij : Nat) : Int) = ((ij : Nat) : Int) := by rw [IntKind.wrap_u64]; omega
      have hm3 : ((ij : Nat) : Int) / 2 = ((h : Nat) : Int) := by omega
      have hm3b : ((ij : Nat) : Int) >>> 1 = ((h : Nat) : Int) := by rw [← hm3]; exact Int.shiftRight_eq_div_pow _ 1
      have hm4 : IntKind.u64.wrap ((h : Nat) : Int) = ((h : Nat) : Int) := by rw [IntKind.wrap_u64]; omega
      have hm5 : IntKind.i64.wrap ((h : Nat) : Int) = ((h : Nat) : Int) := by rw [IntKind.wrap_i64]; omega
      have Hh : Keep (h < n) := ⟨by omega⟩
      obtain ⟨y, hy⟩ : ∃ y, B[h - m]? = some y := ⟨_, List.getElem?_eq_getElem (by omega)⟩
      have GH : Keep (D[h]? = some y) := ⟨by have := HDB.out (h - m) y hy; rwa [show m + (h - m) = h by omega] at this⟩
      obtain ⟨bb, hbb⟩ : ∃ bb, decide (Lib.compareInt y.pl x.pl < 0) = bb := ⟨_, rfl⟩
      have HBB := Keep.mk hbb
      have HHI : Keep (i ≤ h ∧ h < j ∧ m ≤ i ∧ j ≤ b) := ⟨by omega⟩
      have HY := Keep.mk hy
      have hh1 : IntKind.i64.wrap ((h : Int) + 1) = ((h + 1 : Nat) : Int) := by rw [IntKind.wrap_i64]; omega
      have hha : (0 : Int) ≤ (h : Int) := by omega
      have hhb : (h : Int) < (n : Int) := by have := Hh.out; omega
      have hhc : ((h : Nat) : Int).toNat = h := by omega
      clear hbb hy hij hh hbn hi hj hlt
      go_wp2_with fail
      refine region_Y (S := fun w' => Sep w0 w' (rowV 26 14 (sl g n c) n (fl crv (D)) :: l)) [] (by kernel_rfl) ?_
      obtain ⟨W0, hW0⟩ : ∃ W_, wr.drew = W_ := ⟨_, rfl⟩
      replace HB := Keep.mk (HB.out.grown (gr_drew _ none))
      rw [hW0] at HB ⊢
      clear hW0
      have hHeld : (fun w' => Sep w0 w' (rowV 26 14 (sl g n c) n (fl crv (D)) :: l)) W0 := HB.out
      refine yp (i := 0) (v := ?_) rfl (Or.inl ⟨by rfl, ?_⟩) ?_
      rotate_left
      · (intro w hSw; go_simp; first | done | (with_reducible rfl))
      simp only [Act.put, A1, A3, A4, A5, A6]
      refine yp (i := 1) (v := ?_) rfl (Or.inl ⟨by rfl, ?_⟩) ?_
      rotate_left
      · (intro w hSw; go_simp; first | done | (with_reducible rfl))
      simp only [Act.put, A1, A2, A3, A4, A5, A6]
      refine yp (i := 2) (v := ?_) rfl (Or.inl ⟨by rfl, ?_⟩) ?_
      rotate_left
      · (intro w hSw; go_simp; first | done | (with_reducible rfl))
      simp only [Act.put, A1, A2, A3, A4, A5, A6]
      refine yp (i := 3) (v := ?_) rfl (Or.inl ⟨by rfl, ?_⟩) ?_
      rotate_left
      · (intro w hSw; go_simp; first | done | (with_reducible rfl))
      simp only [Act.put, A1, A2, A3, A4, A5, A6]
      refine yt (i := 4) (v := .agg (crv y).toArray) rfl (yieldsIf_load_mid (by rfl) 26 _ rfl _ _ rfl _ _ (fun w hSw => fl_range crv_len (hSw.rowGet k0m) HN0.out h y GH.out) hdu.1 hdu.2 info26) (by assumption) ?_
      simp only [Act.put, A1, A2, A3, A4, A5, A6]
      refine yp (i := 5) (v := ?_) rfl (Or.inl ⟨by rfl, ?_⟩) ?_
      rotate_left
      · (intro w hSw; go_simp; first | done | (with_reducible rfl))
      simp only [Act.put, A1, A2, A3, A4, A5, A6]
      refine yp (i := 6) (v := ?_) rfl (Or.inl ⟨by rfl, ?_⟩) ?_
      rotate_left
      · (intro w hSw; go_simp; first | done | (with_reducible rfl))
      simp only [Act.put, A1, A2, A3, A4, A5, A6]
      refine yp (i := 7) (v := ?_) rfl (Or.inl ⟨by rfl, ?_⟩) ?_
      rotate_left
      · (intro w hSw; go_simp; first | done | (with_reducible rfl))
      simp only [Act.put, A1, A2, A3, A4, A5, A6]
      refine yt (i := 8) (v := .agg (crv x).toArray) rfl (yieldsIf_load_mid (by rfl) 26 _ rfl _ _ rfl _ _ (fun w hSw => fl_range crv_len (hSw.rowGet k0m) HN0.out a x GA.out) hdu.1 hdu.2 info26) (by assumption) ?_
      simp only [Act.put, A1, A2, A3, A4, A5, A6]
      refine wpAnyY_one (i := 9) (by kernel_rfl) rfl (fun K hK => ?_)
      go_simp
      refine (cmpC kb y x _ (HB.out.boxGet (List.mem_cons_of_mem _ HKB.out))).mono ?_
      rintro e wg ⟨rfl, hg⟩
      have HB2 := Keep.mk (HB.out.grown hg)
      refine hK.out _ _ (fun _ => HB2.out) ?_
      clear hK K hg HB hHeld
      have HB := HB2
      clear HB2
      have hHeld := HB.out
      refine yt (i := 10) (v := .bool bb) rfl (Or.inl ⟨by rfl, ?_⟩) (by assumption) ?_
      · (intro w hSw; have q := HBB.out; go_simp; first | done | rfl | (simp; done) | trace_state)
      simp only [Act.put, A1, A2, A3, A4, A5, A6]
      refine wpAnyY_done (by kernel_rfl) ?_ _
      clear hHeld
      cases bb
      · have hge : x.pl ≤ y.pl := by have := of_decide_eq_false HBB.out; rw [cmpI] at this; omega
        have HI2 : Keep ((∀ (t : Nat) (z : Cr), m + t < i → B[t]? = some z → z.pl < x.pl) ∧ (∀ (t : Nat) (z : Cr), h ≤ m + t → B[t]? = some z → x.pl ≤ z.pl)) := ⟨⟨HI.out.1, fun t z ht hz => by
          have q := Ris.le_of (key := (fun c : Cr => c.pl)) HRB.out (i := h - m) (j := t) (by have := HHI.out; omega) HY.out hz
          omega⟩⟩
        go_wp2_with fail
        go_roundw
        case rel => exact ⟨i, h, HHI.out.2.2.1, HHI.out.1, by have := HHI.out; omega, rfl, rfl, HI2, HB⟩
        case measure => simp [intOf]; have := HHI.out; omega
      · have hge : y.pl < x.pl := by have := of_decide_eq_true HBB.out; rwa [cmpI] at this
        have HI2 : Keep ((∀ (t : Nat) (z : Cr), m + t < h + 1 → B[t]? = some z → z.pl < x.pl) ∧ (∀ (t : Nat) (z : Cr), j ≤ m + t → B[t]? = some z → x.pl ≤ z.pl)) := ⟨⟨fun t z ht hz => by
          have q := Ris.le_of (key := (fun c : Cr => c.pl)) HRB.out (i := t) (j := h - m) (by have := HHI.out; omega) hz HY.out
          omega, HI.out.2⟩⟩
        go_wp2_with fail
        go_roundw
        case rel => exact ⟨h + 1, j, by have := HHI.out; omega, by have := HHI.out; omega, by have := HHI.out; omega, rfl, rfl, HI2, HB⟩
        case measure => simp [intOf]; have := HHI.out; omega
    · have hlt1 : ¬ (i : Int) < (j : Int) := by omega
      obtain rfl : i = j := by omega
      obtain ⟨B1, B2, hB12, hB1⟩ : ∃ B1 B2, B = B1 ++ B2 ∧ m + B1.length = i := ⟨B.take (i - m), B.drop (i - m), (List.take_append_drop _ _).symm, by rw [List.length_take]; have := HL.out; omega⟩
      have HRES : Keep (Ris (fun c : Cr => c.pl) (B1 ++ x :: B2) ∧ Stb (fun c : Cr => c.pl) ([x] ++ B) (B1 ++ x :: B2)) := ⟨by
        obtain ⟨q1, q2⟩ := HI.out
        have hR := HRB.out
        subst hB12
        have s1 : ∀ s ∈ B1, s.pl < x.pl := fun s hs => by
          obtain ⟨t, ht, e⟩ := List.mem_iff_getElem.1 hs
          exact q1 t s (by omega) (by rw [List.getElem?_append_left ht, List.getElem?_eq_getElem ht, e])
        have s2 : ∀ s ∈ B2, x.pl ≤ s.pl := fun s hs => by
          obtain ⟨t, ht, e⟩ := List.mem_iff_getElem.1 hs
          exact q2 (B1.length + t) s (by omega) (by rw [List.getElem?_append_right (by omega), Nat.add_sub_cancel_left, List.getElem?_eq_getElem ht, e])
        obtain ⟨r1, r2, r3⟩ := Ris.app.1 hR
        refine ⟨Ris.app.2 ⟨r1, List.pairwise_cons.2 ⟨s2, r2⟩, fun s hs t ht => ?_⟩, ?_⟩
        · rcases List.mem_cons.1 ht with rfl | ht
          · exact Int.le_of_lt (s1 s hs)
          · exact r3 s hs t ht
        · rw [show [x] ++ (B1 ++ B2) = ([x] ++ B1) ++ B2 by simp, show B1 ++ x :: B2 = (B1 ++ [x]) ++ B2 by simp]
          exact Stb.app (Stb.flip (fun u hu s hs => by rw [List.mem_singleton] at hu; subst hu; have := s1 s hs; omega)) (Stb.refl _)⟩
      obtain ⟨i1, hi1⟩ : ∃ i1, i = i1 + 1 := ⟨i - 1, by have := HL.out; omega⟩
      have hw1 : IntKind.i64.wrap ((i : Int) - 1) = ((i1 : Nat) : Int) := by have := HL.out; rw [IntKind.wrap_i64]; omega
      have HI1 : Keep (a + B1.length = i1 ∧ i1 < n) := ⟨by have := HL.out; omega⟩
      have HB1 : Keep (∃ (D Ba Bb : List Cr), B1 = Ba ++ Bb ∧ a + Ba.length = a ∧ D = P ++ Ba ++ x :: (Bb ++ B2 ++ Q) ∧ Sep w0 wr (rowV 26 14 (sl g n c) n (fl crv (D)) :: l)) := ⟨⟨D, [], B1, rfl, rfl, by rw [← HD.out, hB12]; simp, HB.out⟩⟩
      have HQ : Keep ((P ++ B1 ++ x :: (B2 ++ Q)).length = n) := ⟨by rw [← HLN.out, ← HD.out, hB12]; simp only [List.length_append, List.length_cons, List.length_nil]; omega⟩
      clear HI HB hij hi hj hlt hB1 hi1 GA HLN
      go_wp2_with fail
      go_loopw [13] (fun u13 wr => ∃ k : Nat, a ≤ k ∧ k ≤ i1 ∧ u13 = iv k ∧ Keep (∃ (D Ba Bb : List Cr), B1 = Ba ++ Bb ∧ a + Ba.length = k ∧ D = P ++ Ba ++ x :: (Bb ++ B2 ++ Q) ∧ Sep w0 wr (rowV 26 14 (sl g n c) n (fl crv (D)) :: l))) (fun u13 _ => (i1 - intOf u13).toNat)
      case atStart => exact ⟨a, Nat.le_refl _, by have := HI1.out; omega, rfl, HB1⟩
      case round =>
        clear HB1
        obtain ⟨k, hka, hk, rfl, HI⟩ := hrel
        by_cases hlt : k < i1
        · have hlt1 : (k : Int) < (i1 : Int) := by omega
          obtain ⟨D, Ba, Bb, e1, e2, hD, S1⟩ := HI.out
          have HB := Keep.mk S1
          cases Bb with
          | nil => have := HI1.out; rw [e1, List.append_nil] at this; omega
          | cons y Bb =>
          obtain ⟨k1, hk1⟩ : ∃ k1, k + 1 = k1 := ⟨_, rfl⟩
          have hkk : IntKind.i64.wrap ((k : Int) + 1) = ((k1 : Nat) : Int) := by have := HL.out; have := HI1.out; rw [IntKind.wrap_i64]; omega
          have Hk : Keep (k < n) := ⟨by have := HI1.out; omega⟩
          have Hk1 : Keep (k1 < n) := ⟨by have := HI1.out; have := HL.out; omega⟩
          have HLN : Keep (D.length = n) := ⟨by rw [← HQ.out, hD, e1]; simp only [List.length_append, List.length_cons]; omega⟩
          have lp : (P ++ Ba).length = k := by rw [List.length_append, HL.out.2.2.2.2.1]; exact e2
          have GK : Keep (D[k]? = some x) := ⟨by rw [hD, ← lp]; simp⟩
          have GK1 : Keep (D[k1]? = some y) := ⟨by
            rw [hD, show P ++ Ba ++ x :: (y :: Bb ++ B2 ++ Q) = (P ++ Ba ++ [x]) ++ y :: (Bb ++ B2 ++ Q) by simp, show k1 = (P ++ Ba ++ [x]).length by rw [List.length_append, lp]; exact hk1.symm]
            simp⟩
          have HF : Keep ((D.set k y).set k1 x = P ++ (Ba ++ [y]) ++ x :: (Bb ++ B2 ++ Q)) := ⟨by
            rw [hD, ← hk1, ← lp, List.set_append_right _ _ (Nat.le_refl _), Nat.sub_self, List.set_cons_zero, List.set_append_right _ _ (by omega), show (P ++ Ba).length + 1 - (P ++ Ba).length = 1 by omega]
            simp⟩
          have HE : Keep (B1 = (Ba ++ [y]) ++ Bb ∧ a + (Ba ++ [y]).length = k1) := ⟨⟨by rw [e1]; simp, by rw [List.length_append, List.length_singleton]; omega⟩⟩
          have HK : Keep (k < i1 ∧ a ≤ k ∧ k + 1 = k1) := ⟨⟨hlt, hka, hk1⟩⟩
          have hka : (0 : Int) ≤ (k : Int) := by omega
          have hkb : (k : Int) < (n : Int) := by have := Hk.out; omega
          have hkc : ((k : Nat) : Int).toNat = k := by omega
          have hk1a : (0 : Int) ≤ (k1 : Int) := by omega
          have hk1b : (k1 : Int) < (n : Int) := by have := Hk1.out; omega
          have hk1c : ((k1 : Nat) : Int).toNat = k1 := by omega
          clear HI S1 e1 e2 hD lp hk1 hlt hka hk
          go_wp2_with fail
          refine region_Y (S := fun w' => Sep w0 w' (rowV 26 14 (sl g n c) n (fl crv (D)) :: l)) [15, 17] (by kernel_rfl) ?_
          obtain ⟨W0, hW0⟩ : ∃ W_, wr.drew = W_ := ⟨_, rfl⟩
          replace HB := Keep.mk (HB.out.grown (gr_drew _ none))
          rw [hW0] at HB ⊢
          clear hW0
          have hHeld : (fun w' => Sep w0 w' (rowV 26 14 (sl g n c) n (fl crv (D)) :: l)) W0 := HB.out
          refine yp (i := 0) (v := ?_) rfl (Or.inl ⟨by rfl, ?_⟩) ?_
          rotate_left
          · (intro w hSw; go_simp; first | done | (with_reducible rfl))
          simp only [Act.put, A1, A3, A4, A5, A6]
          refine yp (i := 1) (v := ?_) rfl (Or.inl ⟨by rfl, ?_⟩) ?_
          rotate_left
          · (intro w hSw; go_simp; first | done | (with_reducible rfl))
          simp only [Act.put, A1, A2, A3, A4, A5, A6]
          refine yp (i := 2) (v := ?_) rfl (Or.inl ⟨by rfl, ?_⟩) ?_
          rotate_left
          · (intro w hSw; go_simp; first | done | (with_reducible rfl))
          simp only [Act.put, A1, A2, A3, A4, A5, A6]
          refine yp (i := 3) (v := ?_) rfl (Or.inl ⟨by rfl, ?_⟩) ?_
          rotate_left
          · (intro w hSw; go_simp; first | done | (with_reducible rfl))
          simp only [Act.put, A1, A2, A3, A4, A5, A6]
          refine yp (i := 4) (v := ?_) rfl (Or.inl ⟨by rfl, ?_⟩) ?_
          rotate_left
          · (intro w hSw; go_simp; first | done | (with_reducible rfl))
          simp only [Act.put, A1, A2, A3, A4, A5, A6]
          refine yp (i := 5) (v := ?_) rfl (Or.inl ⟨by rfl, ?_⟩) ?_
          rotate_left
          · (intro w hSw; go_simp; first | done | (with_reducible rfl))
          simp only [Act.put, A1, A2, A3, A4, A5, A6]
          refine yp (i := 6) (v := ?_) rfl (Or.inl ⟨by rfl, ?_⟩) ?_
          rotate_left
          · (intro w hSw; go_simp; first | done | (with_reducible rfl))
          simp only [Act.put, A1, A2, A3, A4, A5, A6]
          refine yp (i := 7) (v := ?_) rfl (Or.inl ⟨by rfl, ?_⟩) ?_
          rotate_left
          · (intro w hSw; go_simp; first | done | (with_reducible rfl))
          simp only [Act.put, A1, A2, A3, A4, A5, A6]
          refine yp (i := 8) (v := ?_) rfl (Or.inl ⟨by rfl, ?_⟩) ?_
          rotate_left
          · (intro w hSw; go_simp; first | done | (with_reducible rfl))
          simp only [Act.put, A1, A2, A3, A4, A5, A6]
          refine yt (i := 9) (v := .agg (crv y).toArray) rfl (yieldsIf_load_mid (by rfl) 26 _ rfl _ _ rfl _ _ (fun w hSw => fl_range crv_len (hSw.rowGet k0m) HN0.out k1 y GK1.out) hdu.1 hdu.2 info26) (by assumption) ?_
          simp only [Act.put, A1, A2, A3, A4, A5, A6]
          refine yp (i := 10) (v := ?_) rfl (Or.inl ⟨by rfl, ?_⟩) ?_
          rotate_left
          · (intro w hSw; go_simp; first | done | (with_reducible rfl))
          simp only [Act.put, A1, A2, A3, A4, A5, A6]
          refine yp (i := 11) (v := ?_) rfl (Or.inl ⟨by rfl, ?_⟩) ?_
          rotate_left
          · (intro w hSw; go_simp; first | done | (with_reducible rfl))
          simp only [Act.put, A1, A2, A3, A4, A5, A6]
          refine yp (i := 12) (v := ?_) rfl (Or.inl ⟨by rfl, ?_⟩) ?_
          rotate_left
          · (intro w hSw; go_simp; first | done | (with_reducible rfl))
          simp only [Act.put, A1, A2, A3, A4, A5, A6]
          refine yt (i := 13) (v := .agg (crv x).toArray) rfl (yieldsIf_load_mid (by rfl) 26 _ rfl _ _ rfl _ _ (fun w hSw => fl_range crv_len (hSw.rowGet k0m) HN0.out k x GK.out) hdu.1 hdu.2 info26) (by assumption) ?_
          simp only [Act.put, A1, A2, A3, A4, A5, A6]
          refine yp (i := 14) (v := ?_) rfl (Or.inl ⟨by rfl, ?_⟩) ?_
          rotate_left
          · (intro w hSw; go_simp; first | done | (with_reducible rfl))
          simp only [Act.put, A1, A2, A3, A4, A5, A6]
          refine wpAnyY_late (i := 15) (by kernel_rfl) rfl (by kernel_rfl) (fun K hK => ?_)
          rw [if_pos (show Region.wanted _ _ = true from rfl)]
          refine wp_store_mid 26 _ _ rfl g (k * 14) (crv y).toArray rfl rfl (row_there (HB.out.rowGet k0m) HN0.out 14 (by have := Hk.out; omega)) info26 (all_oneCell_toArray (crv_one y)) ?_
          have S_ := Sep.rowSetsAt (crv y) _ _ (k * 14) HB.out
          rw [fl_over crv_len _ k (by rw [HLN.out]; exact Hk.out) y] at S_
          refine hK.out _ _ ?_
          clear hK K
          replace HB := Keep.mk S_
          clear S_
          change Keep (Sep w0 (World.setCells W0 g (k * 14) (crv y)) _) at HB
          show wpAnyY _ _ _ _ _ _ _ _ _ (World.setCells W0 g (k * 14) (crv y))
          generalize World.setCells W0 g (k * 14) (crv y) = ws0 at HB ⊢
          simp only [Act.put, A1, A2, A3]
          refine yp (i := 16) (v := ?_) rfl (Or.inl ⟨by rfl, ?_⟩) ?_
          rotate_left
          · (intro w hSw; go_simp; first | done | (with_reducible rfl))
          simp only [Act.put, A1, A2, A3, A4, A5, A6]
          refine wpAnyY_late (i := 17) (by kernel_rfl) rfl (by kernel_rfl) (fun K hK => ?_)
          rw [if_pos (show Region.wanted _ _ = true from rfl)]
          refine wp_store_mid 26 _ _ rfl g (k1 * 14) (crv x).toArray rfl rfl (row_there (HB.out.rowGet k0m) HN0.out 14 (by have := Hk1.out; omega)) info26 (all_oneCell_toArray (crv_one x)) ?_
          have S_ := Sep.rowSetsAt (crv x) _ _ (k1 * 14) HB.out
          rw [fl_over crv_len _ k1 (by rw [List.length_set, HLN.out]; exact Hk1.out) x] at S_
          refine hK.out _ _ ?_
          clear hK K
          replace HB := Keep.mk S_
          clear S_
          change Keep (Sep w0 (World.setCells ws0 g (k1 * 14) (crv x)) _) at HB
          show wpAnyY _ _ _ _ _ _ _ _ _ (World.setCells ws0 g (k1 * 14) (crv x))
          generalize World.setCells ws0 g (k1 * 14) (crv x) = ws1 at HB ⊢
          simp only [Act.put, A1, A2, A3]
          refine wpAnyY_done (by kernel_rfl) ?_ _
          rw [HF.out] at HB
          have HR : Keep (∃ (D Ba Bb : List Cr), B1 = Ba ++ Bb ∧ a + Ba.length = k1 ∧ D = P ++ Ba ++ x :: (Bb ++ B2 ++ Q) ∧ Sep w0 ws1 (rowV 26 14 (sl g n c) n (fl crv (D)) :: l)) := ⟨⟨_, Ba ++ [y], Bb, HE.out.1, HE.out.2, rfl, HB.out⟩⟩
          clear HB
          go_wp2_with fail
          go_roundw
          case rel => exact ⟨k1, by have := HK.out; omega, by have := HK.out; omega, rfl, HR⟩
          case measure => simp [intOf]; have := HK.out; omega
        · have hlt1 : ¬ (k : Int) < (i1 : Int) := by omega
          have HE : Keep (Sep w0 wr (rowV 26 14 (sl g n c) n (fl crv (P ++ (B1 ++ x :: B2) ++ Q)) :: l)) := ⟨by
            obtain ⟨D, Ba, Bb, e1, e2, hD, S1⟩ := HI.out
            have e0 : Bb = [] := by
              cases Bb with
              | nil => rfl
              | cons _ _ => have := HI1.out; rw [e1] at this; simp only [List.length_append, List.length_cons] at this; omega
            subst e0
            rw [List.append_nil] at e1
            subst e1
            rw [hD] at S1
            simpa only [List.append_assoc, List.nil_append, List.cons_append] using S1⟩
          clear HI hlt hka hk
          go_wp2_with fail
          try simp only [Exit.inBlock, Exit.then]
          refine bodyPost_ret (results_none rfl _ _ _) rfl ?_
          exact ⟨rfl, B1 ++ x :: B2, HRES.out.1, by have q := HRES.out.2; rw [hB12] at q; exact q, by simpa only [List.append_assoc, List.cons_append] using HE.out⟩
set_option maxRecDepth 100000 in
set_option maxHeartbeats 16000000 in
theorem sym1S (w0 W : World) (l : List As) (g n c kb a m b : Nat) (P B Q : List Sh) (x : Sh) (ha : P.length = a) (hm : a + 1 = m) (hb : m + B.length = b) (hB : Ris (fun c : Sh => c.id) B) (hn : (P ++ [x] ++ B ++ Q).length = n) (hn1 : n ≤ 281474976710656) (hkb : boxA kb [nvS] 91 ∈ l)
    (h : Sep w0 W (rowV 46 7 (sl g n c) n (fl shv (P ++ [x] ++ B ++ Q)) :: l)) :
    Calls Tryz.prog 88 #[sl g n c, iv a, iv m, iv b, cvS kb] W fun e W' => e = .returned (.tuple #[]) ∧ ∃ R : List Sh, Ris (fun c : Sh => c.id) R ∧ Stb (fun c : Sh => c.id) ([x] ++ B) R ∧ Sep w0 W' (rowV 46 7 (sl g n c) n (fl shv (P ++ R ++ Q)) :: l) := by
  have HKB := Keep.mk hkb
  have hln : m ≤ b ∧ b ≤ n := by simp only [List.length_append, List.length_singleton] at hn; omega
  have HL : Keep (a + 1 = m ∧ m ≤ b ∧ b ≤ n ∧ n ≤ 281474976710656 ∧ P.length = a ∧ m + B.length = b) := ⟨⟨hm, hln.1, hln.2, hn1, ha, hb⟩⟩
  obtain ⟨D, hD⟩ : ∃ D, P ++ [x] ++ B ++ Q = D := ⟨_, rfl⟩
  have HB0 : Keep (Sep w0 W (rowV 46 7 (sl g n c) n (fl shv (D)) :: l)) := ⟨by rw [← hD]; exact h⟩
  have HLN : Keep (D.length = n) := ⟨by rw [← hD]; exact hn⟩
  have HD := Keep.mk hD
  have HN0 : Keep (0 < n) := ⟨by omega⟩
  have GA : Keep (D[a]? = some x) := ⟨by rw [← hD, show P ++ [x] ++ B ++ Q = P ++ x :: (B ++ Q) by simp, ← ha]; simp⟩
  have HDB : Keep (∀ (t : Nat) (y : Sh), B[t]? = some y → D[m + t]? = some y) := ⟨fun t y hy => by
    have ht := (List.getElem?_eq_some_iff.1 hy).1
    rw [← hD, List.append_assoc, List.getElem?_append_right (by simp only [List.length_append, List.length_singleton]; omega), show m + t - (P ++ [x]).length = t by simp only [List.length_append, List.length_singleton]; omega, List.getElem?_append_left ht]
    exact hy⟩
  have HRB := Keep.mk hB
  have Ha : Keep (a < n) := ⟨by omega⟩
  obtain ⟨du, hdu⟩ := under46
  have ec := ecmpS
  have hw0 : IntKind.i64.wrap ((m : Int) - (a : Int)) = 1 := by rw [IntKind.wrap_i64]; omega
  have haa : (0 : Int) ≤ (a : Int) := by omega
  have hab : (a : Int) < (n : Int) := by have := Ha.out; omega
  have hac : ((a : Nat) : Int).toNat = a := by omega
  clear h hD ha hm hb hB hn hkb hln
  go_enter Tryz.func88, Tryz.ntmps88
  go_wp2_with fail
  go_loopw [10, 11] (fun u10 u11 wr => ∃ i j : Nat, m ≤ i ∧ i ≤ j ∧ j ≤ b ∧ u10 = iv i ∧ u11 = iv j ∧ Keep ((∀ (t : Nat) (y : Sh), m + t < i → B[t]? = some y → y.id < x.id) ∧ (∀ (t : Nat) (y : Sh), j ≤ m + t → B[t]? = some y → x.id ≤ y.id)) ∧ Keep (Sep w0 wr (rowV 46 7 (sl g n c) n (fl shv (D)) :: l))) (fun u10 u11 _ => (intOf u11 - intOf u10).toNat)
  case atStart => exact ⟨m, b, Nat.le_refl _, HL.out.2.1, Nat.le_refl _, rfl, rfl, ⟨⟨fun t y h => by omega, fun t y h hy => by have := (List.getElem?_eq_some_iff.1 hy).1; have := HL.out; omega⟩⟩, HB0⟩
  case round =>
    clear HB0 hw0
    obtain ⟨i, j, hi, hij, hj, rfl, rfl, HI, HB⟩ := hrel
    by_cases hlt : i < j
    · have hlt1 : (i : Int) < (j : Int) := by omega
      have hbn := HL.out
      obtain ⟨ij, hij⟩ : ∃ ij, i + j = ij := ⟨_, rfl⟩
      obtain ⟨h, hh⟩ : ∃ h, ij / 2 = h := ⟨_, rfl⟩
      have hm1 : IntKind.i64.wrap ((i : Int) + (j : Int)) = ((ij : Nat) : Int) := by rw [IntKind.wrap_i64]; omega
      have hm2 : IntKind.u64.wrap ((ij : Nat) : Int) = ((ij : Nat) : Int) := by rw [IntKind.wrap_u64]; omega
      have hm3 : ((ij : Nat) : Int) / 2 = ((h : Nat) : Int) := by omega
      have hm3b : ((ij : Nat) : Int) >>> 1 = ((h : Nat) : Int) := by rw [← hm3]; exact Int.shiftRight_eq_div_pow _ 1
      have hm4 : IntKind.u64.wrap ((h : Nat) : Int) = ((h : Nat) : Int) := by rw [IntKind.wrap_u64]; omega
      have hm5 : IntKind.i64.wrap ((h : Nat) : Int) = ((h : Nat) : Int) := by rw [IntKind.wrap_i64]; omega
      have Hh : Keep (h < n) := ⟨by omega⟩
      obtain ⟨y, hy⟩ : ∃ y, B[h - m]? = some y := ⟨_, List.getElem?_eq_getElem (by omega)⟩
      have GH : Keep (D[h]? = some y) := ⟨by have := HDB.out (h - m) y hy; rwa [show m + (h - m) = h by omega] at this⟩
      obtain ⟨bb, hbb⟩ : ∃ bb, decide (Lib.compareInt y.id x.id < 0) = bb := ⟨_, rfl⟩
      have HBB := Keep.mk hbb
      have HHI : Keep (i ≤ h ∧ h < j ∧ m ≤ i ∧ j ≤ b) := ⟨by omega⟩
      have HY := Keep.mk hy
      have hh1 : IntKind.i64.wrap ((h : Int) + 1) = ((h + 1 : Nat) : Int) := by rw [IntKind.wrap_i64]; omega
      have hha : (0 : Int) ≤ (h : Int) := by omega
      have hhb : (h : Int) < (n : Int) := by have := Hh.out; omega
      have hhc : ((h : Nat) : Int).toNat = h := by omega
      clear hbb hy hij hh hbn hi hj hlt
      go_wp2_with fail
      refine region_Y (S := fun w' => Sep w0 w' (rowV 46 7 (sl g n c) n (fl shv (D)) :: l)) [] (by kernel_rfl) ?_
      obtain ⟨W0, hW0⟩ : ∃ W_, wr.drew = W_ := ⟨_, rfl⟩
      replace HB := Keep.mk (HB.out.grown (gr_drew _ none))
      rw [hW0] at HB ⊢
      clear hW0
      have hHeld : (fun w' => Sep w0 w' (rowV 46 7 (sl g n c) n (fl shv (D)) :: l)) W0 := HB.out
      refine yp (i := 0) (v := ?_) rfl (Or.inl ⟨by rfl, ?_⟩) ?_
      rotate_left
      · (intro w hSw; go_simp; first | done | (with_reducible rfl))
      simp only [Act.put, A1, A3, A4, A5, A6]
      refine yp (i := 1) (v := ?_) rfl (Or.inl ⟨by rfl, ?_⟩) ?_
      rotate_left
      · (intro w hSw; go_simp; first | done | (with_reducible rfl))
      simp only [Act.put, A1, A2, A3, A4, A5, A6]
      refine yp (i := 2) (v := ?_) rfl (Or.inl ⟨by rfl, ?_⟩) ?_
      rotate_left
      · (intro w hSw; go_simp; first | done | (with_reducible rfl))
      simp only [Act.put, A1, A2, A3, A4, A5, A6]
      refine yp (i := 3) (v := ?_) rfl (Or.inl ⟨by rfl, ?_⟩) ?_
      rotate_left
      · (intro w hSw; go_simp; first | done | (with_reducible rfl))
      simp only [Act.put, A1, A2, A3, A4, A5, A6]
      refine yt (i := 4) (v := .agg (shv y).toArray) rfl (yieldsIf_load_mid (by rfl) 46 _ rfl _ _ rfl _ _ (fun w hSw => fl_range shv_len (hSw.rowGet k0m) HN0.out h y GH.out) hdu.1 hdu.2 info46) (by assumption) ?_
      simp only [Act.put, A1, A2, A3, A4, A5, A6]
      refine yp (i := 5) (v := ?_) rfl (Or.inl ⟨by rfl, ?_⟩) ?_
      rotate_left
      · (intro w hSw; go_simp; first | done | (with_reducible rfl))
      simp only [Act.put, A1, A2, A3, A4, A5, A6]
      refine yp (i := 6) (v := ?_) rfl (Or.inl ⟨by rfl, ?_⟩) ?_
      rotate_left
      · (intro w hSw; go_simp; first | done | (with_reducible rfl))
      simp only [Act.put, A1, A2, A3, A4, A5, A6]
      refine yp (i := 7) (v := ?_) rfl (Or.inl ⟨by rfl, ?_⟩) ?_
      rotate_left
      · (intro w hSw; go_simp; first | done | (with_reducible rfl))
      simp only [Act.put, A1, A2, A3, A4, A5, A6]
      refine yt (i := 8) (v := .agg (shv x).toArray) rfl (yieldsIf_load_mid (by rfl) 46 _ rfl _ _ rfl _ _ (fun w hSw => fl_range shv_len (hSw.rowGet k0m) HN0.out a x GA.out) hdu.1 hdu.2 info46) (by assumption) ?_
      simp only [Act.put, A1, A2, A3, A4, A5, A6]
      refine wpAnyY_one (i := 9) (by kernel_rfl) rfl (fun K hK => ?_)
      go_simp
      refine (cmpS kb y x _ (HB.out.boxGet (List.mem_cons_of_mem _ HKB.out))).mono ?_
      rintro e wg ⟨rfl, hg⟩
      have HB2 := Keep.mk (HB.out.grown hg)
      refine hK.out _ _ (fun _ => HB2.out) ?_
      clear hK K hg HB hHeld
      have HB := HB2
      clear HB2
      have hHeld := HB.out
      refine yt (i := 10) (v := .bool bb) rfl (Or.inl ⟨by rfl, ?_⟩) (by assumption) ?_
      · (intro w hSw; have q := HBB.out; go_simp; first | done | rfl | (simp; done) | trace_state)
      simp only [Act.put, A1, A2, A3, A4, A5, A6]
      refine wpAnyY_done (by kernel_rfl) ?_ _
      clear hHeld
      cases bb
      · have hge : x.id ≤ y.id := by have := of_decide_eq_false HBB.out; rw [cmpI] at this; omega
        have HI2 : Keep ((∀ (t : Nat) (z : Sh), m + t < i → B[t]? = some z → z.id < x.id) ∧ (∀ (t : Nat) (z : Sh), h ≤ m + t → B[t]? = some z → x.id ≤ z.id)) := ⟨⟨HI.out.1, fun t z ht hz => by
          have q := Ris.le_of (key := (fun c : Sh => c.id)) HRB.out (i := h - m) (j := t) (by have := HHI.out; omega) HY.out hz
          omega⟩⟩
        go_wp2_with fail
        go_roundw
        case rel => exact ⟨i, h, HHI.out.2.2.1, HHI.out.1, by have := HHI.out; omega, rfl, rfl, HI2, HB⟩
        case measure => simp [intOf]; have := HHI.out; omega
      · have hge : y.id < x.id := by have := of_decide_eq_true HBB.out; rwa [cmpI] at this
        have HI2 : Keep ((∀ (t : Nat) (z : Sh), m + t < h + 1 → B[t]? = some z → z.id < x.id) ∧ (∀ (t : Nat) (z : Sh), j ≤ m + t → B[t]? = some z → x.id ≤ z.id)) := ⟨⟨fun t z ht hz => by
          have q := Ris.le_of (key := (fun c : Sh => c.id)) HRB.out (i := t) (j := h - m) (by have := HHI.out; omega) hz HY.out
          omega, HI.out.2⟩⟩
        go_wp2_with fail
        go_roundw
        case rel => exact ⟨h + 1, j, by have := HHI.out; omega, by have := HHI.out; omega, by have := HHI.out; omega, rfl, rfl, HI2, HB⟩
        case measure => simp [intOf]; have := HHI.out; omega
    · have hlt1 : ¬ (i : Int) < (j : Int) := by omega
      obtain rfl : i = j := by omega
      obtain ⟨B1, B2, hB12, hB1⟩ : ∃ B1 B2, B = B1 ++ B2 ∧ m + B1.length = i := ⟨B.take (i - m), B.drop (i - m), (List.take_append_drop _ _).symm, by rw [List.length_take]; have := HL.out; omega⟩
      have HRES : Keep (Ris (fun c : Sh => c.id) (B1 ++ x :: B2) ∧ Stb (fun c : Sh => c.id) ([x] ++ B) (B1 ++ x :: B2)) := ⟨by
        obtain ⟨q1, q2⟩ := HI.out
        have hR := HRB.out
        subst hB12
        have s1 : ∀ s ∈ B1, s.id < x.id := fun s hs => by
          obtain ⟨t, ht, e⟩ := List.mem_iff_getElem.1 hs
          exact q1 t s (by omega) (by rw [List.getElem?_append_left ht, List.getElem?_eq_getElem ht, e])
        have s2 : ∀ s ∈ B2, x.id ≤ s.id := fun s hs => by
          obtain ⟨t, ht, e⟩ := List.mem_iff_getElem.1 hs
          exact q2 (B1.length + t) s (by omega) (by rw [List.getElem?_append_right (by omega), Nat.add_sub_cancel_left, List.getElem?_eq_getElem ht, e])
        obtain ⟨r1, r2, r3⟩ := Ris.app.1 hR
        refine ⟨Ris.app.2 ⟨r1, List.pairwise_cons.2 ⟨s2, r2⟩, fun s hs t ht => ?_⟩, ?_⟩
        · rcases List.mem_cons.1 ht with rfl | ht
          · exact Int.le_of_lt (s1 s hs)
          · exact r3 s hs t ht
        · rw [show [x] ++ (B1 ++ B2) = ([x] ++ B1) ++ B2 by simp, show B1 ++ x :: B2 = (B1 ++ [x]) ++ B2 by simp]
          exact Stb.app (Stb.flip (fun u hu s hs => by rw [List.mem_singleton] at hu; subst hu; have := s1 s hs; omega)) (Stb.refl _)⟩
      obtain ⟨i1, hi1⟩ : ∃ i1, i = i1 + 1 := ⟨i - 1, by have := HL.out; omega⟩
      have hw1 : IntKind.i64.wrap ((i : Int) - 1) = ((i1 : Nat) : Int) := by have := HL.out; rw [IntKind.wrap_i64]; omega
      have HI1 : Keep (a + B1.length = i1 ∧ i1 < n) := ⟨by have := HL.out; omega⟩
      have HB1 : Keep (∃ (D Ba Bb : List Sh), B1 = Ba ++ Bb ∧ a + Ba.length = a ∧ D = P ++ Ba ++ x :: (Bb ++ B2 ++ Q) ∧ Sep w0 wr (rowV 46 7 (sl g n c) n (fl shv (D)) :: l)) := ⟨⟨D, [], B1, rfl, rfl, by rw [← HD.out, hB12]; simp, HB.out⟩⟩
      have HQ : Keep ((P ++ B1 ++ x :: (B2 ++ Q)).length = n) := ⟨by rw [← HLN.out, ← HD.out, hB12]; simp only [List.length_append, List.length_cons, List.length_nil]; omega⟩
      clear HI HB hij hi hj hlt hB1 hi1 GA HLN
      go_wp2_with fail
      go_loopw [13] (fun u13 wr => ∃ k : Nat, a ≤ k ∧ k ≤ i1 ∧ u13 = iv k ∧ Keep (∃ (D Ba Bb : List Sh), B1 = Ba ++ Bb ∧ a + Ba.length = k ∧ D = P ++ Ba ++ x :: (Bb ++ B2 ++ Q) ∧ Sep w0 wr (rowV 46 7 (sl g n c) n (fl shv (D)) :: l))) (fun u13 _ => (i1 - intOf u13).toNat)
      case atStart => exact ⟨a, Nat.le_refl _, by have := HI1.out; omega, rfl, HB1⟩
      case round =>
        clear HB1
        obtain ⟨k, hka, hk, rfl, HI⟩ := hrel
        by_cases hlt : k < i1
        · have hlt1 : (k : Int) < (i1 : Int) := by omega
          obtain ⟨D, Ba, Bb, e1, e2, hD, S1⟩ := HI.out
          have HB := Keep.mk S1
          cases Bb with
          | nil => have := HI1.out; rw [e1, List.append_nil] at this; omega
          | cons y Bb =>
          obtain ⟨k1, hk1⟩ : ∃ k1, k + 1 = k1 := ⟨_, rfl⟩
          have hkk : IntKind.i64.wrap ((k : Int) + 1) = ((k1 : Nat) : Int) := by have := HL.out; have := HI1.out; rw [IntKind.wrap_i64]; omega
          have Hk : Keep (k < n) := ⟨by have := HI1.out; omega⟩
          have Hk1 : Keep (k1 < n) := ⟨by have := HI1.out; have := HL.out; omega⟩
          have HLN : Keep (D.length = n) := ⟨by rw [← HQ.out, hD, e1]; simp only [List.length_append, List.length_cons]; omega⟩
          have lp : (P ++ Ba).length = k := by rw [List.length_append, HL.out.2.2.2.2.1]; exact e2
          have GK : Keep (D[k]? = some x) := ⟨by rw [hD, ← lp]; simp⟩
          have GK1 : Keep (D[k1]? = some y) := ⟨by
            rw [hD, show P ++ Ba ++ x :: (y :: Bb ++ B2 ++ Q) = (P ++ Ba ++ [x]) ++ y :: (Bb ++ B2 ++ Q) by simp, show k1 = (P ++ Ba ++ [x]).length by rw [List.length_append, lp]; exact hk1.symm]
            simp⟩
          have HF : Keep ((D.set k y).set k1 x = P ++ (Ba ++ [y]) ++ x :: (Bb ++ B2 ++ Q)) := ⟨by
            rw [hD, ← hk1, ← lp, List.set_append_right _ _ (Nat.le_refl _), Nat.sub_self, List.set_cons_zero, List.set_append_right _ _ (by omega), show (P ++ Ba).length + 1 - (P ++ Ba).length = 1 by omega]
            simp⟩
          have HE : Keep (B1 = (Ba ++ [y]) ++ Bb ∧ a + (Ba ++ [y]).length = k1) := ⟨⟨by rw [e1]; simp, by rw [List.length_append, List.length_singleton]; omega⟩⟩
          have HK : Keep (k < i1 ∧ a ≤ k ∧ k + 1 = k1) := ⟨⟨hlt, hka, hk1⟩⟩
          have hka : (0 : Int) ≤ (k : Int) := by omega
          have hkb : (k : Int) < (n : Int) := by have := Hk.out; omega
          have hkc : ((k : Nat) : Int).toNat = k := by omega
          have hk1a : (0 : Int) ≤ (k1 : Int) := by omega
          have hk1b : (k1 : Int) < (n : Int) := by have := Hk1.out; omega
          have hk1c : ((k1 : Nat) : Int).toNat = k1 := by omega
          clear HI S1 e1 e2 hD lp hk1 hlt hka hk
          go_wp2_with fail
          refine region_Y (S := fun w' => Sep w0 w' (rowV 46 7 (sl g n c) n (fl shv (D)) :: l)) [15, 17] (by kernel_rfl) ?_
          obtain ⟨W0, hW0⟩ : ∃ W_, wr.drew = W_ := ⟨_, rfl⟩
          replace HB := Keep.mk (HB.out.grown (gr_drew _ none))
          rw [hW0] at HB ⊢
          clear hW0
          have hHeld : (fun w' => Sep w0 w' (rowV 46 7 (sl g n c) n (fl shv (D)) :: l)) W0 := HB.out
          refine yp (i := 0) (v := ?_) rfl (Or.inl ⟨by rfl, ?_⟩) ?_
          rotate_left
          · (intro w hSw; go_simp; first | done | (with_reducible rfl))
          simp only [Act.put, A1, A3, A4, A5, A6]
          refine yp (i := 1) (v := ?_) rfl (Or.inl ⟨by rfl, ?_⟩) ?_
          rotate_left
          · (intro w hSw; go_simp; first | done | (with_reducible rfl))
          simp only [Act.put, A1, A2, A3, A4, A5, A6]
          refine yp (i := 2) (v := ?_) rfl (Or.inl ⟨by rfl, ?_⟩) ?_
          rotate_left
          · (intro w hSw; go_simp; first | done | (with_reducible rfl))
          simp only [Act.put, A1, A2, A3, A4, A5, A6]
          refine yp (i := 3) (v := ?_) rfl (Or.inl ⟨by rfl, ?_⟩) ?_
          rotate_left
          · (intro w hSw; go_simp; first | done | (with_reducible rfl))
          simp only [Act.put, A1, A2, A3, A4, A5, A6]
          refine yp (i := 4) (v := ?_) rfl (Or.inl ⟨by rfl, ?_⟩) ?_
          rotate_left
          · (intro w hSw; go_simp; first | done | (with_reducible rfl))
          simp only [Act.put, A1, A2, A3, A4, A5, A6]
          refine yp (i := 5) (v := ?_) rfl (Or.inl ⟨by rfl, ?_⟩) ?_
          rotate_left
          · (intro w hSw; go_simp; first | done | (with_reducible rfl))
          simp only [Act.put, A1, A2, A3, A4, A5, A6]
          refine yp (i := 6) (v := ?_) rfl (Or.inl ⟨by rfl, ?_⟩) ?_
          rotate_left
          · (intro w hSw; go_simp; first | done | (with_reducible rfl))
          simp only [Act.put, A1, A2, A3, A4, A5, A6]
          refine yp (i := 7) (v := ?_) rfl (Or.inl ⟨by rfl, ?_⟩) ?_
          rotate_left
          · (intro w hSw; go_simp; first | done | (with_reducible rfl))
          simp only [Act.put, A1, A2, A3, A4, A5, A6]
          refine yp (i := 8) (v := ?_) rfl (Or.inl ⟨by rfl, ?_⟩) ?_
          rotate_left
          · (intro w hSw; go_simp; first | done | (with_reducible rfl))
          simp only [Act.put, A1, A2, A3, A4, A5, A6]
          refine yt (i := 9) (v := .agg (shv y).toArray) rfl (yieldsIf_load_mid (by rfl) 46 _ rfl _ _ rfl _ _ (fun w hSw => fl_range shv_len (hSw.rowGet k0m) HN0.out k1 y GK1.out) hdu.1 hdu.2 info46) (by assumption) ?_
          simp only [Act.put, A1, A2, A3, A4, A5, A6]
          refine yp (i := 10) (v := ?_) rfl (Or.inl ⟨by rfl, ?_⟩) ?_
          rotate_left
          · (intro w hSw; go_simp; first | done | (with_reducible rfl))
          simp only [Act.put, A1, A2, A3, A4, A5, A6]
          refine yp (i := 11) (v := ?_) rfl (Or.inl ⟨by rfl, ?_⟩) ?_
          rotate_left
          · (intro w hSw; go_simp; first | done | (with_reducible rfl))
          simp only [Act.put, A1, A2, A3, A4, A5, A6]
          refine yp (i := 12) (v := ?_) rfl (Or.inl ⟨by rfl, ?_⟩) ?_
          rotate_left
          · (intro w hSw; go_simp; first | done | (with_reducible rfl))
          simp only [Act.put, A1, A2, A3, A4, A5, A6]
          refine yt (i := 13) (v := .agg (shv x).toArray) rfl (yieldsIf_load_mid (by rfl) 46 _ rfl _ _ rfl _ _ (fun w hSw => fl_range shv_len (hSw.rowGet k0m) HN0.out k x GK.out) hdu.1 hdu.2 info46) (by assumption) ?_
          simp only [Act.put, A1, A2, A3, A4, A5, A6]
          refine yp (i := 14) (v := ?_) rfl (Or.inl ⟨by rfl, ?_⟩) ?_
          rotate_left
          · (intro w hSw; go_simp; first | done | (with_reducible rfl))
          simp only [Act.put, A1, A2, A3, A4, A5, A6]
          refine wpAnyY_late (i := 15) (by kernel_rfl) rfl (by kernel_rfl) (fun K hK => ?_)
          rw [if_pos (show Region.wanted _ _ = true from rfl)]
          refine wp_store_mid 46 _ _ rfl g (k * 7) (shv y).toArray rfl rfl (row_there (HB.out.rowGet k0m) HN0.out 7 (by have := Hk.out; omega)) info46 (all_oneCell_toArray (shv_one y)) ?_
          have S_ := Sep.rowSetsAt (shv y) _ _ (k * 7) HB.out
          rw [fl_over shv_len _ k (by rw [HLN.out]; exact Hk.out) y] at S_
          refine hK.out _ _ ?_
          clear hK K
          replace HB := Keep.mk S_
          clear S_
          change Keep (Sep w0 (World.setCells W0 g (k * 7) (shv y)) _) at HB
          show wpAnyY _ _ _ _ _ _ _ _ _ (World.setCells W0 g (k * 7) (shv y))
          generalize World.setCells W0 g (k * 7) (shv y) = ws0 at HB ⊢
          simp only [Act.put, A1, A2, A3]
          refine yp (i := 16) (v := ?_) rfl (Or.inl ⟨by rfl, ?_⟩) ?_
          rotate_left
          · (intro w hSw; go_simp; first | done | (with_reducible rfl))
          simp only [Act.put, A1, A2, A3, A4, A5, A6]
          refine wpAnyY_late (i := 17) (by kernel_rfl) rfl (by kernel_rfl) (fun K hK => ?_)
          rw [if_pos (show Region.wanted _ _ = true from rfl)]
          refine wp_store_mid 46 _ _ rfl g (k1 * 7) (shv x).toArray rfl rfl (row_there (HB.out.rowGet k0m) HN0.out 7 (by have := Hk1.out; omega)) info46 (all_oneCell_toArray (shv_one x)) ?_
          have S_ := Sep.rowSetsAt (shv x) _ _ (k1 * 7) HB.out
          rw [fl_over shv_len _ k1 (by rw [List.length_set, HLN.out]; exact Hk1.out) x] at S_
          refine hK.out _ _ ?_
          clear hK K
          replace HB := Keep.mk S_
          clear S_
          change Keep (Sep w0 (World.setCells ws0 g (k1 * 7) (shv x)) _) at HB
          show wpAnyY _ _ _ _ _ _ _ _ _ (World.setCells ws0 g (k1 * 7) (shv x))
          generalize World.setCells ws0 g (k1 * 7) (shv x) = ws1 at HB ⊢
          simp only [Act.put, A1, A2, A3]
          refine wpAnyY_done (by kernel_rfl) ?_ _
          rw [HF.out] at HB
          have HR : Keep (∃ (D Ba Bb : List Sh), B1 = Ba ++ Bb ∧ a + Ba.length = k1 ∧ D = P ++ Ba ++ x :: (Bb ++ B2 ++ Q) ∧ Sep w0 ws1 (rowV 46 7 (sl g n c) n (fl shv (D)) :: l)) := ⟨⟨_, Ba ++ [y], Bb, HE.out.1, HE.out.2, rfl, HB.out⟩⟩
          clear HB
          go_wp2_with fail
          go_roundw
          case rel => exact ⟨k1, by have := HK.out; omega, by have := HK.out; omega, rfl, HR⟩
          case measure => simp [intOf]; have := HK.out; omega
        · have hlt1 : ¬ (k : Int) < (i1 : Int) := by omega
          have HE : Keep (Sep w0 wr (rowV 46 7 (sl g n c) n (fl shv (P ++ (B1 ++ x :: B2) ++ Q)) :: l)) := ⟨by
            obtain ⟨D, Ba, Bb, e1, e2, hD, S1⟩ := HI.out
            have e0 : Bb = [] := by
              cases Bb with
              | nil => rfl
              | cons _ _ => have := HI1.out; rw [e1] at this; simp only [List.length_append, List.length_cons] at this; omega
            subst e0
            rw [List.append_nil] at e1
            subst e1
            rw [hD] at S1
            simpa only [List.append_assoc, List.nil_append, List.cons_append] using S1⟩
          clear HI hlt hka hk
          go_wp2_with fail
          try simp only [Exit.inBlock, Exit.then]
          refine bodyPost_ret (results_none rfl _ _ _) rfl ?_
          exact ⟨rfl, B1 ++ x :: B2, HRES.out.1, by have q := HRES.out.2; rw [hB12] at q; exact q, by simpa only [List.append_assoc, List.cons_append] using HE.out⟩
end Go.Proofs.YtgedlabmndlooaaGreat
