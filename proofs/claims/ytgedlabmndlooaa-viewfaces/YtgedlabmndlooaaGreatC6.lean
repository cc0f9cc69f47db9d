/- slices: symMerge, one on the right -/
import Derived.Test.YtgedlabmndlooaaGreatC4
namespace Go.Proofs.YtgedlabmndlooaaGreat
open Go Go.RowKit Go.Maps

set_option maxRecDepth 100000 in
set_option maxHeartbeats 16000000 in
theorem sym2C (w0 W : World) (l : List As) (g n c kb a m b : Nat) (P A Q : List Cr) (y : Cr) (ha : P.length = a) (hm : a + A.length = m) (hb : m + 1 = b) (h2 : 2 ≤ A.length) (hA : Ris (fun c : Cr => c.pl) A) (hn : (P ++ A ++ [y] ++ Q).length = n) (hn1 : n ≤ 281474976710656) (hkb : boxA kb [nvC] 86 ∈ l)
    (h : Sep w0 W (rowV 26 14 (sl g n c) n (fl crv (P ++ A ++ [y] ++ Q)) :: l)) :
    Calls Tryz.prog 84 #[sl g n c, iv a, iv m, iv b, cvC kb] W fun e W' => e = .returned (.tuple #[]) ∧ ∃ R : List Cr, Ris (fun c : Cr => c.pl) R ∧ Stb (fun c : Cr => c.pl) (A ++ [y]) R ∧ Sep w0 W' (rowV 26 14 (sl g n c) n (fl crv (P ++ R ++ Q)) :: l) := by
  have HKB := Keep.mk hkb
  have hln : b ≤ n := by simp only [List.length_append, List.length_singleton] at hn; omega
  have HL : Keep (a ≤ m ∧ m + 1 = b ∧ b ≤ n ∧ n ≤ 281474976710656 ∧ P.length = a ∧ a + A.length = m) := ⟨⟨by omega, hb, hln, hn1, ha, hm⟩⟩
  obtain ⟨D, hD⟩ : ∃ D, P ++ A ++ [y] ++ Q = D := ⟨_, rfl⟩
  have HB0 : Keep (Sep w0 W (rowV 26 14 (sl g n c) n (fl crv (D)) :: l)) := ⟨by rw [← hD]; exact h⟩
  have HLN : Keep (D.length = n) := ⟨by rw [← hD]; exact hn⟩
  have HD := Keep.mk hD
  have HN0 : Keep (0 < n) := ⟨by omega⟩
  have GA : Keep (D[m]? = some y) := ⟨by rw [← hD, show P ++ A ++ [y] ++ Q = (P ++ A) ++ y :: Q by simp, show m = (P ++ A).length by rw [List.length_append, ha]; exact hm.symm]; simp⟩
  have HDB : Keep (∀ (t : Nat) (z : Cr), A[t]? = some z → D[a + t]? = some z) := ⟨fun t z hz => by
    have ht := (List.getElem?_eq_some_iff.1 hz).1
    rw [← hD, List.append_assoc, List.append_assoc, List.getElem?_append_right (by omega), show a + t - P.length = t by omega, List.getElem?_append_left ht]
    exact hz⟩
  have HRB := Keep.mk hA
  have Hm : Keep (m < n) := ⟨by omega⟩
  obtain ⟨du, hdu⟩ := under26
  have ec := ecmpC
  obtain ⟨la, hla⟩ : ∃ la, A.length = la := ⟨_, rfl⟩
  have hw0 : IntKind.i64.wrap ((m : Int) - (a : Int)) = ((la : Nat) : Int) := by rw [IntKind.wrap_i64]; omega
  have hw0' : ((la : Int) == 1) = false := by simp; omega
  have hw0'' : ¬ (la : Int) = 1 := by omega
  have hw1 : IntKind.i64.wrap ((b : Int) - (m : Int)) = 1 := by rw [IntKind.wrap_i64]; omega
  have hma : (0 : Int) ≤ (m : Int) := by omega
  have hmb : (m : Int) < (n : Int) := by have := Hm.out; omega
  have hmc : ((m : Nat) : Int).toNat = m := by omega
  clear h hD ha hm hb hA hn hkb hln hla h2
  go_enter Tryz.func84, Tryz.ntmps84
  go_wp2_with fail
  go_loopw [14, 15] (fun u14 u15 wr => ∃ i j : Nat, a ≤ i ∧ i ≤ j ∧ j ≤ m ∧ u14 = iv i ∧ u15 = iv j ∧ Keep ((∀ (t : Nat) (z : Cr), a + t < i → A[t]? = some z → z.pl ≤ y.pl) ∧ (∀ (t : Nat) (z : Cr), j ≤ a + t → A[t]? = some z → y.pl < z.pl)) ∧ Keep (Sep w0 wr (rowV 26 14 (sl g n c) n (fl crv (D)) :: l))) (fun u14 u15 _ => (intOf u15 - intOf u14).toNat)
  case atStart => exact ⟨a, m, Nat.le_refl _, HL.out.1, Nat.le_refl _, rfl, rfl, ⟨⟨fun t z h => by omega, fun t z h hz => by have := (List.getElem?_eq_some_iff.1 hz).1; have := HL.out; omega⟩⟩, HB0⟩
  case round =>
    clear HB0 hw0 hw0' hw0'' hw1
    obtain ⟨i, j, hi, hij, hj, rfl, rfl, HI, HB⟩ := hrel
    by_cases hlt : i < j
    · have hlt1 : (i : Int) < (j : Int) := by omega
      have hbn := HL.out
      obtain ⟨ij, hij⟩ : ∃ ij, i + j = ij := ⟨_, rfl⟩
      obtain ⟨h, hh⟩ : ∃ h, ij / 2 = h := ⟨_, rfl⟩
      have hm1 : IntKind.i64.wrap ((i : Int) + (j : Int)) = ((ij : Nat) : Int) := by rw [IntKind.wrap_i64]; omega
      have hm2 : IntKind.u64.wrap ((ij : Nat) : Int) = ((ij : Nat) : Int) := by rw [IntKind.wrap_u64]; omega
      have hm3 : ((ij : Nat) : Int) / 2 = ((h : Nat) : Int) := by omega
      have hm3b : ((ij : Nat) : Int) >>> 1 = ((h : Nat) : Int) := by rw [← hm3]; exact Int.shiftRight_eq_div_pow _ 1
      have hm4 : IntKind.u64.wrap ((h : Nat) : Int) = ((h : Nat) : Int) := by rw [IntKind.wrap_u64]; omega
      have hm5 : IntKind.i64.wrap ((h : Nat) : Int) = ((h : Nat) : Int) := by rw [IntKind.wrap_i64]; omega
      have Hh : Keep (h < n) := ⟨by omega⟩
      obtain ⟨x, hx⟩ : ∃ x, A[h - a]? = some x := ⟨_, List.getElem?_eq_getElem (by omega)⟩
      have GH : Keep (D[h]? = some x) := ⟨by have := HDB.out (h - a) x hx; rwa [show a + (h - a) = h by omega] at this⟩
      obtain ⟨bb, hbb⟩ : ∃ bb, decide (Lib.compareInt y.pl x.pl < 0) = bb := ⟨_, rfl⟩
      have HBB := Keep.mk hbb
      have HHI : Keep (i ≤ h ∧ h < j ∧ a ≤ i ∧ j ≤ m) := ⟨by omega⟩
      have HX := Keep.mk hx
      have hh1 : IntKind.i64.wrap ((h : Int) + 1) = ((h + 1 : Nat) : Int) := by rw [IntKind.wrap_i64]; omega
      have hha : (0 : Int) ≤ (h : Int) := by omega
      have hhb : (h : Int) < (n : Int) := by have := Hh.out; omega
      have hhc : ((h : Nat) : Int).toNat = h := by omega
      clear hbb hx hij hh hbn hi hj hlt
      go_wp2_with fail
      refine region_Y (S := fun w' => Sep w0 w' (rowV 26 14 (sl g n c) n (fl crv (D)) :: l)) [] (by kernel_rfl) ?_
      obtain ⟨W0, hW0⟩ : ∃ W_, wr.drew = W_ := ⟨_, rfl⟩
      replace HB := Keep.mk (HB.out.grown (gr_drew _ none))
      rw [hW0] at HB ⊢
      clear hW0
      have hHeld : (fun w' => Sep w0 w' (rowV 26 14 (sl g n c) n (fl crv (D)) :: l)) W0 := HB.out
      refine wpAnyY_pure (i := 0) (oi := _) (v := ?_) rfl (by kernel_rfl) (by kernel_rfl) (by kernel_rfl) (by kernel_rfl) (fun _ _ _ h => h) (Or.inl ⟨by rfl, ?_⟩) ?_
      rotate_left
      · (intro w hSw; go_simp; first | done | (with_reducible rfl))
      simp only [Act.put, List.getElem_toArray, List.getElem_cons_zero, List.setIfInBounds_toArray, List.set_cons_zero, List.set_cons_succ]
      refine wpAnyY_pure (i := 1) (oi := _) (v := ?_) rfl (by kernel_rfl) (by kernel_rfl) (by kernel_rfl) (by kernel_rfl) (fun _ _ _ h => h) (Or.inl ⟨by rfl, ?_⟩) ?_
      rotate_left
      · (intro w hSw; go_simp; first | done | (with_reducible rfl))
      simp only [Act.put, List.getElem_toArray, List.getElem_cons_succ, List.getElem_cons_zero, List.setIfInBounds_toArray, List.set_cons_zero, List.set_cons_succ]
      refine wpAnyY_pure (i := 2) (oi := _) (v := ?_) rfl (by kernel_rfl) (by kernel_rfl) (by kernel_rfl) (by kernel_rfl) (fun _ _ _ h => h) (Or.inl ⟨by rfl, ?_⟩) ?_
      rotate_left
      · (intro w hSw; go_simp; first | done | (with_reducible rfl))
      simp only [Act.put, List.getElem_toArray, List.getElem_cons_succ, List.getElem_cons_zero, List.setIfInBounds_toArray, List.set_cons_zero, List.set_cons_succ]
      refine wpAnyY_pure (i := 3) (oi := _) (v := ?_) rfl (by kernel_rfl) (by kernel_rfl) (by kernel_rfl) (by kernel_rfl) (fun _ _ _ h => h) (Or.inl ⟨by rfl, ?_⟩) ?_
      rotate_left
      · (intro w hSw; go_simp; first | done | (with_reducible rfl))
      simp only [Act.put, List.getElem_toArray, List.getElem_cons_succ, List.getElem_cons_zero, List.setIfInBounds_toArray, List.set_cons_zero, List.set_cons_succ]
      refine wpAnyY_take (i := 4) (oi := _) (v := .agg (crv y).toArray) rfl (by kernel_rfl) (by kernel_rfl) (by kernel_rfl) (by kernel_rfl) (by kernel_rfl) (fun _ _ _ h => h) (yieldsIf_load_mid (by rfl) 26 _ rfl _ _ rfl _ _ (fun w hSw => fl_range crv_len (hSw.rowGet k0m) HN0.out m y GA.out) hdu.1 hdu.2 info26) (by assumption) ?_
      simp only [Act.put, List.getElem_toArray, List.getElem_cons_succ, List.getElem_cons_zero, List.setIfInBounds_toArray, List.set_cons_zero, List.set_cons_succ]
      refine wpAnyY_pure (i := 5) (oi := _) (v := ?_) rfl (by kernel_rfl) (by kernel_rfl) (by kernel_rfl) (by kernel_rfl) (fun _ _ _ h => h) (Or.inl ⟨by rfl, ?_⟩) ?_
      rotate_left
      · (intro w hSw; go_simp; first | done | (with_reducible rfl))
      simp only [Act.put, List.getElem_toArray, List.getElem_cons_succ, List.getElem_cons_zero, List.setIfInBounds_toArray, List.set_cons_zero, List.set_cons_succ]
      refine wpAnyY_pure (i := 6) (oi := _) (v := ?_) rfl (by kernel_rfl) (by kernel_rfl) (by kernel_rfl) (by kernel_rfl) (fun _ _ _ h => h) (Or.inl ⟨by rfl, ?_⟩) ?_
      rotate_left
      · (intro w hSw; go_simp; first | done | (with_reducible rfl))
      simp only [Act.put, List.getElem_toArray, List.getElem_cons_succ, List.getElem_cons_zero, List.setIfInBounds_toArray, List.set_cons_zero, List.set_cons_succ]
      refine wpAnyY_pure (i := 7) (oi := _) (v := ?_) rfl (by kernel_rfl) (by kernel_rfl) (by kernel_rfl) (by kernel_rfl) (fun _ _ _ h => h) (Or.inl ⟨by rfl, ?_⟩) ?_
      rotate_left
      · (intro w hSw; go_simp; first | done | (with_reducible rfl))
      simp only [Act.put, List.getElem_toArray, List.getElem_cons_succ, List.getElem_cons_zero, List.setIfInBounds_toArray, List.set_cons_zero, List.set_cons_succ]
      refine wpAnyY_take (i := 8) (oi := _) (v := .agg (crv x).toArray) rfl (by kernel_rfl) (by kernel_rfl) (by kernel_rfl) (by kernel_rfl) (by kernel_rfl) (fun _ _ _ h => h) (yieldsIf_load_mid (by rfl) 26 _ rfl _ _ rfl _ _ (fun w hSw => fl_range crv_len (hSw.rowGet k0m) HN0.out h x GH.out) hdu.1 hdu.2 info26) (by assumption) ?_
      simp only [Act.put, List.getElem_toArray, List.getElem_cons_succ, List.getElem_cons_zero, List.setIfInBounds_toArray, List.set_cons_zero, List.set_cons_succ]
      refine wpAnyY_one (i := 9) (by kernel_rfl) rfl (fun K hK => ?_)
      go_simp
      refine (cmpC kb y x _ (HB.out.boxGet (List.mem_cons_of_mem _ HKB.out))).mono ?_
      rintro e wg ⟨rfl, hg⟩
      have HB2 := Keep.mk (HB.out.grown hg)
      refine hK.out _ _ (fun _ => HB2.out) ?_
      clear hK K hg HB hHeld
      have HB := HB2
      clear HB2
      have hHeld := HB.out
      refine wpAnyY_take (i := 10) (oi := _) (v := .bool bb) rfl (by kernel_rfl) (by kernel_rfl) (by kernel_rfl) (by kernel_rfl) (by kernel_rfl) (fun _ _ _ h => h) (Or.inl ⟨by rfl, ?_⟩) (by assumption) ?_
      · (intro w hSw; have q := HBB.out; go_simp; first | done | rfl | (simp; done) | trace_state)
      simp only [Act.put, List.getElem_toArray, List.getElem_cons_succ, List.getElem_cons_zero, List.setIfInBounds_toArray, List.set_cons_zero, List.set_cons_succ]
      refine wpAnyY_pure (i := 11) (oi := _) (v := .bool (!bb)) rfl (by kernel_rfl) (by kernel_rfl) (by kernel_rfl) (by kernel_rfl) (fun _ _ _ h => h) (Or.inl ⟨by rfl, ?_⟩) ?_
      · (intro w hSw; go_simp; first | done | rfl | (simp; done) | trace_state)
      simp only [Act.put, List.getElem_toArray, List.getElem_cons_succ, List.getElem_cons_zero, List.setIfInBounds_toArray, List.set_cons_zero, List.set_cons_succ]
      refine wpAnyY_done (by kernel_rfl) ?_ _
      clear hHeld
      cases bb
      · have hge : x.pl ≤ y.pl := by have := of_decide_eq_false HBB.out; rw [cmpI] at this; omega
        have HI2 : Keep ((∀ (t : Nat) (z : Cr), a + t < h + 1 → A[t]? = some z → z.pl ≤ y.pl) ∧ (∀ (t : Nat) (z : Cr), j ≤ a + t → A[t]? = some z → y.pl < z.pl)) := ⟨⟨fun t z ht hz => by
          have q := Ris.le_of (key := (fun c : Cr => c.pl)) HRB.out (i := t) (j := h - a) (by have := HHI.out; omega) hz HX.out
          omega, HI.out.2⟩⟩
        go_wp2_with fail
        go_roundw
        case rel => exact ⟨h + 1, j, by have := HHI.out; omega, by have := HHI.out; omega, by have := HHI.out; omega, rfl, rfl, HI2, HB⟩
        case measure => simp [intOf]; have := HHI.out; omega
      · have hge : y.pl < x.pl := by have := of_decide_eq_true HBB.out; rwa [cmpI] at this
        have HI2 : Keep ((∀ (t : Nat) (z : Cr), a + t < i → A[t]? = some z → z.pl ≤ y.pl) ∧ (∀ (t : Nat) (z : Cr), h ≤ a + t → A[t]? = some z → y.pl < z.pl)) := ⟨⟨HI.out.1, fun t z ht hz => by
          have q := Ris.le_of (key := (fun c : Cr => c.pl)) HRB.out (i := h - a) (j := t) (by have := HHI.out; omega) HX.out hz
          omega⟩⟩
        go_wp2_with fail
        go_roundw
        case rel => exact ⟨i, h, HHI.out.2.2.1, HHI.out.1, by have := HHI.out; omega, rfl, rfl, HI2, HB⟩
        case measure => simp [intOf]; have := HHI.out; omega
    · have hlt1 : ¬ (i : Int) < (j : Int) := by omega
      obtain rfl : i = j := by omega
      obtain ⟨A1, A2, hA12, hA1⟩ : ∃ A1 A2, A = A1 ++ A2 ∧ a + A1.length = i := ⟨A.take (i - a), A.drop (i - a), (List.take_append_drop _ _).symm, by rw [List.length_take]; have := HL.out; omega⟩
      have HRES : Keep (Ris (fun c : Cr => c.pl) (A1 ++ y :: A2) ∧ Stb (fun c : Cr => c.pl) (A ++ [y]) (A1 ++ y :: A2)) := ⟨by
        obtain ⟨q1, q2⟩ := HI.out
        have hR := HRB.out
        subst hA12
        have s1 : ∀ s ∈ A1, s.pl ≤ y.pl := fun s hs => by
          obtain ⟨t, ht, e⟩ := List.mem_iff_getElem.1 hs
          exact q1 t s (by omega) (by rw [List.getElem?_append_left ht, List.getElem?_eq_getElem ht, e])
        have s2 : ∀ s ∈ A2, y.pl < s.pl := fun s hs => by
          obtain ⟨t, ht, e⟩ := List.mem_iff_getElem.1 hs
          exact q2 (A1.length + t) s (by omega) (by rw [List.getElem?_append_right (by omega), Nat.add_sub_cancel_left, List.getElem?_eq_getElem ht, e])
        exact ins_end (key := (fun c : Cr => c.pl)) hR s2 s1⟩
      have HI1 : Keep (a + A1.length = i ∧ i ≤ m ∧ a + (A1 ++ A2).length = m) := ⟨⟨hA1, hj, by rw [← hA12]; exact HL.out.2.2.2.2.2⟩⟩
      have HB1 : Keep (∃ (D Ba Bb : List Cr), A2 = Ba ++ Bb ∧ i + Ba.length = m ∧ D = P ++ A1 ++ Ba ++ y :: (Bb ++ Q) ∧ Sep w0 wr (rowV 26 14 (sl g n c) n (fl crv (D)) :: l)) := ⟨⟨D, A2, [], by simp, by rw [← HI1.out.2.2, List.length_append]; omega, by rw [← HD.out, hA12]; simp, HB.out⟩⟩
      have HQ : Keep ((P ++ A1 ++ A2 ++ y :: Q).length = n) := ⟨by rw [← HLN.out, ← HD.out, hA12]; simp only [List.length_append, List.length_cons, List.length_nil]; omega⟩
      clear HI HB hij hi hj hlt hA1 GA HLN
      go_wp2_with fail
      go_loopw [17] (fun u17 wr => ∃ k : Nat, i ≤ k ∧ k ≤ m ∧ u17 = iv k ∧ Keep (∃ (D Ba Bb : List Cr), A2 = Ba ++ Bb ∧ i + Ba.length = k ∧ D = P ++ A1 ++ Ba ++ y :: (Bb ++ Q) ∧ Sep w0 wr (rowV 26 14 (sl g n c) n (fl crv (D)) :: l))) (fun u17 _ => (intOf u17).toNat)
      case atStart => exact ⟨m, HI1.out.2.1, Nat.le_refl _, rfl, HB1⟩
      case round =>
        clear HB1
        obtain ⟨k, hki, hk, rfl, HI⟩ := hrel
        by_cases hlt : i < k
        · have hlt1 : (i : Int) < (k : Int) := by omega
          obtain ⟨D, Ba0, Bb, e1, e2, hD, S1⟩ := HI.out
          have HB := Keep.mk S1
          obtain ⟨Ba, x, rfl⟩ : ∃ S' x, Ba0 = S' ++ [x] := ⟨Ba0.dropLast, Ba0.getLast (by rintro rfl; simp at e2; omega), (List.dropLast_concat_getLast _).symm⟩
          obtain ⟨k1, hk1⟩ : ∃ k1, k = k1 + 1 := ⟨k - 1, by omega⟩
          have hkk : IntKind.i64.wrap ((k : Int) - 1) = ((k1 : Nat) : Int) := by have := HL.out; rw [IntKind.wrap_i64]; omega
          have Hk : Keep (k < n) := ⟨by have := HL.out; omega⟩
          have Hk1 : Keep (k1 < n) := ⟨by have := HL.out; omega⟩
          have HLN : Keep (D.length = n) := ⟨by rw [← HQ.out, hD, e1]; simp only [List.length_append, List.length_cons]; omega⟩
          have lp : (P ++ A1 ++ Ba).length = k1 := by
            have := HI1.out.1; have := HL.out.2.2.2.2.1
            simp only [List.length_append, List.length_singleton] at e2 ⊢
            omega
          have GK1 : Keep (D[k1]? = some x) := ⟨by
            rw [hD, show P ++ A1 ++ (Ba ++ [x]) ++ y :: (Bb ++ Q) = (P ++ A1 ++ Ba) ++ x :: (y :: (Bb ++ Q)) by simp, ← lp]
            simp⟩
          have GK : Keep (D[k]? = some y) := ⟨by
            rw [hD, show P ++ A1 ++ (Ba ++ [x]) ++ y :: (Bb ++ Q) = (P ++ A1 ++ Ba ++ [x]) ++ y :: (Bb ++ Q) by simp, show k = (P ++ A1 ++ Ba ++ [x]).length by rw [List.length_append, lp, hk1]; rfl]
            simp⟩
          have HF : Keep ((D.set k x).set k1 y = P ++ A1 ++ Ba ++ y :: (x :: Bb ++ Q)) := ⟨by
            rw [hD, hk1, ← lp, show P ++ A1 ++ (Ba ++ [x]) ++ y :: (Bb ++ Q) = (P ++ A1 ++ Ba) ++ x :: (y :: (Bb ++ Q)) by simp, List.set_append_right _ _ (by omega), show (P ++ A1 ++ Ba).length + 1 - (P ++ A1 ++ Ba).length = 1 by omega, List.set_cons_succ, List.set_cons_zero, List.set_append_right _ _ (Nat.le_refl _), Nat.sub_self, List.set_cons_zero]
            simp⟩
          have HE : Keep (A2 = Ba ++ (x :: Bb) ∧ i + Ba.length = k1) := ⟨⟨by rw [e1]; simp, by simp only [List.length_append, List.length_singleton] at e2; omega⟩⟩
          have HK : Keep (i ≤ k1 ∧ k1 ≤ m ∧ k1 + 1 = k) := ⟨by omega⟩
          have hka : (0 : Int) ≤ (k : Int) := by omega
          have hkb : (k : Int) < (n : Int) := by have := Hk.out; omega
          have hkc : ((k : Nat) : Int).toNat = k := by omega
          have hk1a : (0 : Int) ≤ (k1 : Int) := by omega
          have hk1b : (k1 : Int) < (n : Int) := by have := Hk1.out; omega
          have hk1c : ((k1 : Nat) : Int).toNat = k1 := by omega
          clear HI S1 e1 e2 hD lp hk1 hlt hki hk
          go_wp2_with fail
          refine region_Y (S := fun w' => Sep w0 w' (rowV 26 14 (sl g n c) n (fl crv (D)) :: l)) [15, 17] (by kernel_rfl) ?_
          obtain ⟨W0, hW0⟩ : ∃ W_, wr.drew = W_ := ⟨_, rfl⟩
          replace HB := Keep.mk (HB.out.grown (gr_drew _ none))
          rw [hW0] at HB ⊢
          clear hW0
          have hHeld : (fun w' => Sep w0 w' (rowV 26 14 (sl g n c) n (fl crv (D)) :: l)) W0 := HB.out
          refine wpAnyY_pure (i := 0) (oi := _) (v := ?_) rfl (by kernel_rfl) (by kernel_rfl) (by kernel_rfl) (by kernel_rfl) (fun _ _ _ h => h) (Or.inl ⟨by rfl, ?_⟩) ?_
          rotate_left
          · (intro w hSw; go_simp; first | done | (with_reducible rfl))
          simp only [Act.put, List.getElem_toArray, List.getElem_cons_zero, List.setIfInBounds_toArray, List.set_cons_zero, List.set_cons_succ]
          refine wpAnyY_pure (i := 1) (oi := _) (v := ?_) rfl (by kernel_rfl) (by kernel_rfl) (by kernel_rfl) (by kernel_rfl) (fun _ _ _ h => h) (Or.inl ⟨by rfl, ?_⟩) ?_
          rotate_left
          · (intro w hSw; go_simp; first | done | (with_reducible rfl))
          simp only [Act.put, List.getElem_toArray, List.getElem_cons_succ, List.getElem_cons_zero, List.setIfInBounds_toArray, List.set_cons_zero, List.set_cons_succ]
          refine wpAnyY_pure (i := 2) (oi := _) (v := ?_) rfl (by kernel_rfl) (by kernel_rfl) (by kernel_rfl) (by kernel_rfl) (fun _ _ _ h => h) (Or.inl ⟨by rfl, ?_⟩) ?_
          rotate_left
          · (intro w hSw; go_simp; first | done | (with_reducible rfl))
          simp only [Act.put, List.getElem_toArray, List.getElem_cons_succ, List.getElem_cons_zero, List.setIfInBounds_toArray, List.set_cons_zero, List.set_cons_succ]
          refine wpAnyY_pure (i := 3) (oi := _) (v := ?_) rfl (by kernel_rfl) (by kernel_rfl) (by kernel_rfl) (by kernel_rfl) (fun _ _ _ h => h) (Or.inl ⟨by rfl, ?_⟩) ?_
          rotate_left
          · (intro w hSw; go_simp; first | done | (with_reducible rfl))
          simp only [Act.put, List.getElem_toArray, List.getElem_cons_succ, List.getElem_cons_zero, List.setIfInBounds_toArray, List.set_cons_zero, List.set_cons_succ]
          refine wpAnyY_pure (i := 4) (oi := _) (v := ?_) rfl (by kernel_rfl) (by kernel_rfl) (by kernel_rfl) (by kernel_rfl) (fun _ _ _ h => h) (Or.inl ⟨by rfl, ?_⟩) ?_
          rotate_left
          · (intro w hSw; go_simp; first | done | (with_reducible rfl))
          simp only [Act.put, List.getElem_toArray, List.getElem_cons_succ, List.getElem_cons_zero, List.setIfInBounds_toArray, List.set_cons_zero, List.set_cons_succ]
          refine wpAnyY_pure (i := 5) (oi := _) (v := ?_) rfl (by kernel_rfl) (by kernel_rfl) (by kernel_rfl) (by kernel_rfl) (fun _ _ _ h => h) (Or.inl ⟨by rfl, ?_⟩) ?_
          rotate_left
          · (intro w hSw; go_simp; first | done | (with_reducible rfl))
          simp only [Act.put, List.getElem_toArray, List.getElem_cons_succ, List.getElem_cons_zero, List.setIfInBounds_toArray, List.set_cons_zero, List.set_cons_succ]
          refine wpAnyY_pure (i := 6) (oi := _) (v := ?_) rfl (by kernel_rfl) (by kernel_rfl) (by kernel_rfl) (by kernel_rfl) (fun _ _ _ h => h) (Or.inl ⟨by rfl, ?_⟩) ?_
          rotate_left
          · (intro w hSw; go_simp; first | done | (with_reducible rfl))
          simp only [Act.put, List.getElem_toArray, List.getElem_cons_succ, List.getElem_cons_zero, List.setIfInBounds_toArray, List.set_cons_zero, List.set_cons_succ]
          refine wpAnyY_pure (i := 7) (oi := _) (v := ?_) rfl (by kernel_rfl) (by kernel_rfl) (by kernel_rfl) (by kernel_rfl) (fun _ _ _ h => h) (Or.inl ⟨by rfl, ?_⟩) ?_
          rotate_left
          · (intro w hSw; go_simp; first | done | (with_reducible rfl))
          simp only [Act.put, List.getElem_toArray, List.getElem_cons_succ, List.getElem_cons_zero, List.setIfInBounds_toArray, List.set_cons_zero, List.set_cons_succ]
          refine wpAnyY_pure (i := 8) (oi := _) (v := ?_) rfl (by kernel_rfl) (by kernel_rfl) (by kernel_rfl) (by kernel_rfl) (fun _ _ _ h => h) (Or.inl ⟨by rfl, ?_⟩) ?_
          rotate_left
          · (intro w hSw; go_simp; first | done | (with_reducible rfl))
          simp only [Act.put, List.getElem_toArray, List.getElem_cons_succ, List.getElem_cons_zero, List.setIfInBounds_toArray, List.set_cons_zero, List.set_cons_succ]
          refine wpAnyY_take (i := 9) (oi := _) (v := .agg (crv x).toArray) rfl (by kernel_rfl) (by kernel_rfl) (by kernel_rfl) (by kernel_rfl) (by kernel_rfl) (fun _ _ _ h => h) (yieldsIf_load_mid (by rfl) 26 _ rfl _ _ rfl _ _ (fun w hSw => fl_range crv_len (hSw.rowGet k0m) HN0.out k1 x GK1.out) hdu.1 hdu.2 info26) (by assumption) ?_
          simp only [Act.put, List.getElem_toArray, List.getElem_cons_succ, List.getElem_cons_zero, List.setIfInBounds_toArray, List.set_cons_zero, List.set_cons_succ]
          refine wpAnyY_pure (i := 10) (oi := _) (v := ?_) rfl (by kernel_rfl) (by kernel_rfl) (by kernel_rfl) (by kernel_rfl) (fun _ _ _ h => h) (Or.inl ⟨by rfl, ?_⟩) ?_
          rotate_left
          · (intro w hSw; go_simp; first | done | (with_reducible rfl))
          simp only [Act.put, List.getElem_toArray, List.getElem_cons_succ, List.getElem_cons_zero, List.setIfInBounds_toArray, List.set_cons_zero, List.set_cons_succ]
          refine wpAnyY_pure (i := 11) (oi := _) (v := ?_) rfl (by kernel_rfl) (by kernel_rfl) (by kernel_rfl) (by kernel_rfl) (fun _ _ _ h => h) (Or.inl ⟨by rfl, ?_⟩) ?_
          rotate_left
          · (intro w hSw; go_simp; first | done | (with_reducible rfl))
          simp only [Act.put, List.getElem_toArray, List.getElem_cons_succ, List.getElem_cons_zero, List.setIfInBounds_toArray, List.set_cons_zero, List.set_cons_succ]
          refine wpAnyY_pure (i := 12) (oi := _) (v := ?_) rfl (by kernel_rfl) (by kernel_rfl) (by kernel_rfl) (by kernel_rfl) (fun _ _ _ h => h) (Or.inl ⟨by rfl, ?_⟩) ?_
          rotate_left
          · (intro w hSw; go_simp; first | done | (with_reducible rfl))
          simp only [Act.put, List.getElem_toArray, List.getElem_cons_succ, List.getElem_cons_zero, List.setIfInBounds_toArray, List.set_cons_zero, List.set_cons_succ]
          refine wpAnyY_take (i := 13) (oi := _) (v := .agg (crv y).toArray) rfl (by kernel_rfl) (by kernel_rfl) (by kernel_rfl) (by kernel_rfl) (by kernel_rfl) (fun _ _ _ h => h) (yieldsIf_load_mid (by rfl) 26 _ rfl _ _ rfl _ _ (fun w hSw => fl_range crv_len (hSw.rowGet k0m) HN0.out k y GK.out) hdu.1 hdu.2 info26) (by assumption) ?_
          simp only [Act.put, List.getElem_toArray, List.getElem_cons_succ, List.getElem_cons_zero, List.setIfInBounds_toArray, List.set_cons_zero, List.set_cons_succ]
          refine wpAnyY_pure (i := 14) (oi := _) (v := ?_) rfl (by kernel_rfl) (by kernel_rfl) (by kernel_rfl) (by kernel_rfl) (fun _ _ _ h => h) (Or.inl ⟨by rfl, ?_⟩) ?_
          rotate_left
          · (intro w hSw; go_simp; first | done | (with_reducible rfl))
          simp only [Act.put, List.getElem_toArray, List.getElem_cons_succ, List.getElem_cons_zero, List.setIfInBounds_toArray, List.set_cons_zero, List.set_cons_succ]
          refine wpAnyY_late (i := 15) (by kernel_rfl) rfl (by kernel_rfl) (fun K hK => ?_)
          rw [if_pos (show Region.wanted _ _ = true from rfl)]
          refine wp_store_mid 26 _ _ rfl g (k * 14) (crv x).toArray rfl rfl (row_there (HB.out.rowGet k0m) HN0.out 14 (by have := Hk.out; omega)) info26 (all_oneCell_toArray (crv_one x)) ?_
          have S_ := Sep.rowSetsAt (crv x) _ _ (k * 14) HB.out
          rw [fl_over crv_len _ k (by rw [HLN.out]; exact Hk.out) x] at S_
          refine hK.out _ _ ?_
          clear hK K
          replace HB := Keep.mk S_
          clear S_
          change Keep (Sep w0 (World.setCells W0 g (k * 14) (crv x)) _) at HB
          show wpAnyY _ _ _ _ _ _ _ _ _ (World.setCells W0 g (k * 14) (crv x))
          generalize World.setCells W0 g (k * 14) (crv x) = ws0 at HB ⊢
          simp only [Act.put, List.getElem_toArray, List.getElem_cons_succ, List.getElem_cons_zero]
          refine wpAnyY_pure (i := 16) (oi := _) (v := ?_) rfl (by kernel_rfl) (by kernel_rfl) (by kernel_rfl) (by kernel_rfl) (fun _ _ _ h => h) (Or.inl ⟨by rfl, ?_⟩) ?_
          rotate_left
          · (intro w hSw; go_simp; first | done | (with_reducible rfl))
          simp only [Act.put, List.getElem_toArray, List.getElem_cons_succ, List.getElem_cons_zero, List.setIfInBounds_toArray, List.set_cons_zero, List.set_cons_succ]
          refine wpAnyY_late (i := 17) (by kernel_rfl) rfl (by kernel_rfl) (fun K hK => ?_)
          rw [if_pos (show Region.wanted _ _ = true from rfl)]
          refine wp_store_mid 26 _ _ rfl g (k1 * 14) (crv y).toArray rfl rfl (row_there (HB.out.rowGet k0m) HN0.out 14 (by have := Hk1.out; omega)) info26 (all_oneCell_toArray (crv_one y)) ?_
          have S_ := Sep.rowSetsAt (crv y) _ _ (k1 * 14) HB.out
          rw [fl_over crv_len _ k1 (by rw [List.length_set, HLN.out]; exact Hk1.out) y] at S_
          refine hK.out _ _ ?_
          clear hK K
          replace HB := Keep.mk S_
          clear S_
          change Keep (Sep w0 (World.setCells ws0 g (k1 * 14) (crv y)) _) at HB
          show wpAnyY _ _ _ _ _ _ _ _ _ (World.setCells ws0 g (k1 * 14) (crv y))
          generalize World.setCells ws0 g (k1 * 14) (crv y) = ws1 at HB ⊢
          simp only [Act.put, List.getElem_toArray, List.getElem_cons_succ, List.getElem_cons_zero]
          refine wpAnyY_done (by kernel_rfl) ?_ _
          rw [HF.out] at HB
          have HR : Keep (∃ (D Ba Bb : List Cr), A2 = Ba ++ Bb ∧ i + Ba.length = k1 ∧ D = P ++ A1 ++ Ba ++ y :: (Bb ++ Q) ∧ Sep w0 ws1 (rowV 26 14 (sl g n c) n (fl crv (D)) :: l)) := ⟨⟨_, Ba, x :: Bb, HE.out.1, HE.out.2, rfl, HB.out⟩⟩
          clear HB
          go_wp2_with fail
          go_roundw
          case rel => exact ⟨k1, HK.out.1, HK.out.2.1, rfl, HR⟩
          case measure => simp [intOf]; have := HK.out; omega
        · have hlt1 : ¬ (i : Int) < (k : Int) := by omega
          have HE : Keep (Sep w0 wr (rowV 26 14 (sl g n c) n (fl crv (P ++ (A1 ++ y :: A2) ++ Q)) :: l)) := ⟨by
            obtain ⟨D, Ba, Bb, e1, e2, hD, S1⟩ := HI.out
            have e0 : Ba = [] := by
              cases Ba with
              | nil => rfl
              | cons _ _ => simp only [List.length_cons] at e2; omega
            subst e0
            rw [List.nil_append] at e1
            subst e1
            rw [hD] at S1
            simpa only [List.append_assoc, List.nil_append, List.cons_append, List.append_nil] using S1⟩
          clear HI hlt hki hk
          go_wp2_with fail
          try simp only [Exit.inBlock, Exit.then]
          refine bodyPost_ret (results_none rfl _ _ _) rfl ?_
          exact ⟨rfl, A1 ++ y :: A2, HRES.out.1, by have q := HRES.out.2; rw [hA12] at q; simpa only [List.append_assoc] using q, by simpa only [List.append_assoc, List.cons_append] using HE.out⟩
set_option maxRecDepth 100000 in
set_option maxHeartbeats 16000000 in
theorem sym2S (w0 W : World) (l : List As) (g n c kb a m b : Nat) (P A Q : List Sh) (y : Sh) (ha : P.length = a) (hm : a + A.length = m) (hb : m + 1 = b) (h2 : 2 ≤ A.length) (hA : Ris (fun c : Sh => c.id) A) (hn : (P ++ A ++ [y] ++ Q).length = n) (hn1 : n ≤ 281474976710656) (hkb : boxA kb [nvS] 91 ∈ l)
    (h : Sep w0 W (rowV 46 7 (sl g n c) n (fl shv (P ++ A ++ [y] ++ Q)) :: l)) :
    Calls Tryz.prog 88 #[sl g n c, iv a, iv m, iv b, cvS kb] W fun e W' => e = .returned (.tuple #[]) ∧ ∃ R : List Sh, Ris (fun c : Sh => c.id) R ∧ Stb (fun c : Sh => c.id) (A ++ [y]) R ∧ Sep w0 W' (rowV 46 7 (sl g n c) n (fl shv (P ++ R ++ Q)) :: l) := by
  have HKB := Keep.mk hkb
  have hln : b ≤ n := by simp only [List.length_append, List.length_singleton] at hn; omega
  have HL : Keep (a ≤ m ∧ m + 1 = b ∧ b ≤ n ∧ n ≤ 281474976710656 ∧ P.length = a ∧ a + A.length = m) := ⟨⟨by omega, hb, hln, hn1, ha, hm⟩⟩
  obtain ⟨D, hD⟩ : ∃ D, P ++ A ++ [y] ++ Q = D := ⟨_, rfl⟩
  have HB0 : Keep (Sep w0 W (rowV 46 7 (sl g n c) n (fl shv (D)) :: l)) := ⟨by rw [← hD]; exact h⟩
  have HLN : Keep (D.length = n) := ⟨by rw [← hD]; exact hn⟩
  have HD := Keep.mk hD
  have HN0 : Keep (0 < n) := ⟨by omega⟩
  have GA : Keep (D[m]? = some y) := ⟨by rw [← hD, show P ++ A ++ [y] ++ Q = (P ++ A) ++ y :: Q by simp, show m = (P ++ A).length by rw [List.length_append, ha]; exact hm.symm]; simp⟩
  have HDB : Keep (∀ (t : Nat) (z : Sh), A[t]? = some z → D[a + t]? = some z) := ⟨fun t z hz => by
    have ht := (List.getElem?_eq_some_iff.1 hz).1
    rw [← hD, List.append_assoc, List.append_assoc, List.getElem?_append_right (by omega), show a + t - P.length = t by omega, List.getElem?_append_left ht]
    exact hz⟩
  have HRB := Keep.mk hA
  have Hm : Keep (m < n) := ⟨by omega⟩
  obtain ⟨du, hdu⟩ := under46
  have ec := ecmpS
  obtain ⟨la, hla⟩ : ∃ la, A.length = la := ⟨_, rfl⟩
  have hw0 : IntKind.i64.wrap ((m : Int) - (a : Int)) = ((la : Nat) : Int) := by rw [IntKind.wrap_i64]; omega
  have hw0' : ((la : Int) == 1) = false := by simp; omega
  have hw0'' : ¬ (la : Int) = 1 := by omega
  have hw1 : IntKind.i64.wrap ((b : Int) - (m : Int)) = 1 := by rw [IntKind.wrap_i64]; omega
  have hma : (0 : Int) ≤ (m : Int) := by omega
  have hmb : (m : Int) < (n : Int) := by have := Hm.out; omega
  have hmc : ((m : Nat) : Int).toNat = m := by omega
  clear h hD ha hm hb hA hn hkb hln hla h2
  go_enter Tryz.func88, Tryz.ntmps88
  go_wp2_with fail
  go_loopw [14, 15] (fun u14 u15 wr => ∃ i j : Nat, a ≤ i ∧ i ≤ j ∧ j ≤ m ∧ u14 = iv i ∧ u15 = iv j ∧ Keep ((∀ (t : Nat) (z : Sh), a + t < i → A[t]? = some z → z.id ≤ y.id) ∧ (∀ (t : Nat) (z : Sh), j ≤ a + t → A[t]? = some z → y.id < z.id)) ∧ Keep (Sep w0 wr (rowV 46 7 (sl g n c) n (fl shv (D)) :: l))) (fun u14 u15 _ => (intOf u15 - intOf u14).toNat)
  case atStart => exact ⟨a, m, Nat.le_refl _, HL.out.1, Nat.le_refl _, rfl, rfl, ⟨⟨fun t z h => by omega, fun t z h hz => by have := (List.getElem?_eq_some_iff.1 hz).1; have := HL.out; omega⟩⟩, HB0⟩
  case round =>
    clear HB0 hw0 hw0' hw0'' hw1
    obtain ⟨i, j, hi, hij, hj, rfl, rfl, HI, HB⟩ := hrel
    by_cases hlt : i < j
    · have hlt1 : (i : Int) < (j : Int) := by omega
      have hbn := HL.out
      obtain ⟨ij, hij⟩ : ∃ ij, i + j = ij := ⟨_, rfl⟩
      obtain ⟨h, hh⟩ : ∃ h, ij / 2 = h := ⟨_, rfl⟩
      have hm1 : IntKind.i64.wrap ((i : Int) + (j : Int)) = ((ij : Nat) : Int) := by rw [IntKind.wrap_i64]; omega
      have hm2 : IntKind.u64.wrap ((ij : Nat) : Int) = ((ij : Nat) : Int) := by rw [IntKind.wrap_u64]; omega
      have hm3 : ((ij : Nat) : Int) / 2 = ((h : Nat) : Int) := by omega
      have hm3b : ((ij : Nat) : Int) >>> 1 = ((h : Nat) : Int) := by rw [← hm3]; exact Int.shiftRight_eq_div_pow _ 1
      have hm4 : IntKind.u64.wrap ((h : Nat) : Int) = ((h : Nat) : Int) := by rw [IntKind.wrap_u64]; omega
      have hm5 : IntKind.i64.wrap ((h : Nat) : Int) = ((h : Nat) : Int) := by rw [IntKind.wrap_i64]; omega
      have Hh : Keep (h < n) := ⟨by omega⟩
      obtain ⟨x, hx⟩ : ∃ x, A[h - a]? = some x := ⟨_, List.getElem?_eq_getElem (by omega)⟩
      have GH : Keep (D[h]? = some x) := ⟨by have := HDB.out (h - a) x hx; rwa [show a + (h - a) = h by omega] at this⟩
      obtain ⟨bb, hbb⟩ : ∃ bb, decide (Lib.compareInt y.id x.id < 0) = bb := ⟨_, rfl⟩
      have HBB := Keep.mk hbb
      have HHI : Keep (i ≤ h ∧ h < j ∧ a ≤ i ∧ j ≤ m) := ⟨by omega⟩
      have HX := Keep.mk hx
      have hh1 : IntKind.i64.wrap ((h : Int) + 1) = ((h + 1 : Nat) : Int) := by rw [IntKind.wrap_i64]; omega
      have hha : (0 : Int) ≤ (h : Int) := by omega
      have hhb : (h : Int) < (n : Int) := by have := Hh.out; omega
      have hhc : ((h : Nat) : Int).toNat = h := by omega
      clear hbb hx hij hh hbn hi hj hlt
      go_wp2_with fail
      refine region_Y (S := fun w' => Sep w0 w' (rowV 46 7 (sl g n c) n (fl shv (D)) :: l)) [] (by kernel_rfl) ?_
      obtain ⟨W0, hW0⟩ : ∃ W_, wr.drew = W_ := ⟨_, rfl⟩
      replace HB := Keep.mk (HB.out.grown (gr_drew _ none))
      rw [hW0] at HB ⊢
      clear hW0
      have hHeld : (fun w' => Sep w0 w' (rowV 46 7 (sl g n c) n (fl shv (D)) :: l)) W0 := HB.out
      refine wpAnyY_pure (i := 0) (oi := _) (v := ?_) rfl (by kernel_rfl) (by kernel_rfl) (by kernel_rfl) (by kernel_rfl) (fun _ _ _ h => h) (Or.inl ⟨by rfl, ?_⟩) ?_
      rotate_left
      · (intro w hSw; go_simp; first | done | (with_reducible rfl))
      simp only [Act.put, List.getElem_toArray, List.getElem_cons_zero, List.setIfInBounds_toArray, List.set_cons_zero, List.set_cons_succ]
      refine wpAnyY_pure (i := 1) (oi := _) (v := ?_) rfl (by kernel_rfl) (by kernel_rfl) (by kernel_rfl) (by kernel_rfl) (fun _ _ _ h => h) (Or.inl ⟨by rfl, ?_⟩) ?_
      rotate_left
      · (intro w hSw; go_simp; first | done | (with_reducible rfl))
      simp only [Act.put, List.getElem_toArray, List.getElem_cons_succ, List.getElem_cons_zero, List.setIfInBounds_toArray, List.set_cons_zero, List.set_cons_succ]
      refine wpAnyY_pure (i := 2) (oi := _) (v := ?_) rfl (by kernel_rfl) (by kernel_rfl) (by kernel_rfl) (by kernel_rfl) (fun _ _ _ h => h) (Or.inl ⟨by rfl, ?_⟩) ?_
      rotate_left
      · (intro w hSw; go_simp; first | done | (with_reducible rfl))
      simp only [Act.put, List.getElem_toArray, List.getElem_cons_succ, List.getElem_cons_zero, List.setIfInBounds_toArray, List.set_cons_zero, List.set_cons_succ]
      refine wpAnyY_pure (i := 3) (oi := _) (v := ?_) rfl (by kernel_rfl) (by kernel_rfl) (by kernel_rfl) (by kernel_rfl) (fun _ _ _ h => h) (Or.inl ⟨by rfl, ?_⟩) ?_
      rotate_left
      · (intro w hSw; go_simp; first | done | (with_reducible rfl))
      simp only [Act.put, List.getElem_toArray, List.getElem_cons_succ, List.getElem_cons_zero, List.setIfInBounds_toArray, List.set_cons_zero, List.set_cons_succ]
      refine wpAnyY_take (i := 4) (oi := _) (v := .agg (shv y).toArray) rfl (by kernel_rfl) (by kernel_rfl) (by kernel_rfl) (by kernel_rfl) (by kernel_rfl) (fun _ _ _ h => h) (yieldsIf_load_mid (by rfl) 46 _ rfl _ _ rfl _ _ (fun w hSw => fl_range shv_len (hSw.rowGet k0m) HN0.out m y GA.out) hdu.1 hdu.2 info46) (by assumption) ?_
      simp only [Act.put, List.getElem_toArray, List.getElem_cons_succ, List.getElem_cons_zero, List.setIfInBounds_toArray, List.set_cons_zero, List.set_cons_succ]
      refine wpAnyY_pure (i := 5) (oi := _) (v := ?_) rfl (by kernel_rfl) (by kernel_rfl) (by kernel_rfl) (by kernel_rfl) (fun _ _ _ h => h) (Or.inl ⟨by rfl, ?_⟩) ?_
      rotate_left
      · (intro w hSw; go_simp; first | done | (with_reducible rfl))
      simp only [Act.put, List.getElem_toArray, List.getElem_cons_succ, List.getElem_cons_zero, List.setIfInBounds_toArray, List.set_cons_zero, List.set_cons_succ]
      refine wpAnyY_pure (i := 6) (oi := _) (v := ?_) rfl (by kernel_rfl) (by kernel_rfl) (by kernel_rfl) (by kernel_rfl) (fun _ _ _ h => h) (Or.inl ⟨by rfl, ?_⟩) ?_
      rotate_left
      · (intro w hSw; go_simp; first | done | (with_reducible rfl))
      simp only [Act.put, List.getElem_toArray, List.getElem_cons_succ, List.getElem_cons_zero, List.setIfInBounds_toArray, List.set_cons_zero, List.set_cons_succ]
      refine wpAnyY_pure (i := 7) (oi := _) (v := ?_) rfl (by kernel_rfl) (by kernel_rfl) (by kernel_rfl) (by kernel_rfl) (fun _ _ _ h => h) (Or.inl ⟨by rfl, ?_⟩) ?_
      rotate_left
      · (intro w hSw; go_simp; first | done | (with_reducible rfl))
      simp only [Act.put, List.getElem_toArray, List.getElem_cons_succ, List.getElem_cons_zero, List.setIfInBounds_toArray, List.set_cons_zero, List.set_cons_succ]
      refine wpAnyY_take (i := 8) (oi := _) (v := .agg (shv x).toArray) rfl (by kernel_rfl) (by kernel_rfl) (by kernel_rfl) (by kernel_rfl) (by kernel_rfl) (fun _ _ _ h => h) (yieldsIf_load_mid (by rfl) 46 _ rfl _ _ rfl _ _ (fun w hSw => fl_range shv_len (hSw.rowGet k0m) HN0.out h x GH.out) hdu.1 hdu.2 info46) (by assumption) ?_
      simp only [Act.put, List.getElem_toArray, List.getElem_cons_succ, List.getElem_cons_zero, List.setIfInBounds_toArray, List.set_cons_zero, List.set_cons_succ]
      refine wpAnyY_one (i := 9) (by kernel_rfl) rfl (fun K hK => ?_)
      go_simp
      refine (cmpS kb y x _ (HB.out.boxGet (List.mem_cons_of_mem _ HKB.out))).mono ?_
      rintro e wg ⟨rfl, hg⟩
      have HB2 := Keep.mk (HB.out.grown hg)
      refine hK.out _ _ (fun _ => HB2.out) ?_
      clear hK K hg HB hHeld
      have HB := HB2
      clear HB2
      have hHeld := HB.out
      refine wpAnyY_take (i := 10) (oi := _) (v := .bool bb) rfl (by kernel_rfl) (by kernel_rfl) (by kernel_rfl) (by kernel_rfl) (by kernel_rfl) (fun _ _ _ h => h) (Or.inl ⟨by rfl, ?_⟩) (by assumption) ?_
      · (intro w hSw; have q := HBB.out; go_simp; first | done | rfl | (simp; done) | trace_state)
      simp only [Act.put, List.getElem_toArray, List.getElem_cons_succ, List.getElem_cons_zero, List.setIfInBounds_toArray, List.set_cons_zero, List.set_cons_succ]
      refine wpAnyY_pure (i := 11) (oi := _) (v := .bool (!bb)) rfl (by kernel_rfl) (by kernel_rfl) (by kernel_rfl) (by kernel_rfl) (fun _ _ _ h => h) (Or.inl ⟨by rfl, ?_⟩) ?_
      · (intro w hSw; go_simp; first | done | rfl | (simp; done) | trace_state)
      simp only [Act.put, List.getElem_toArray, List.getElem_cons_succ, List.getElem_cons_zero, List.setIfInBounds_toArray, List.set_cons_zero, List.set_cons_succ]
      refine wpAnyY_done (by kernel_rfl) ?_ _
      clear hHeld
      cases bb
      · have hge : x.id ≤ y.id := by have := of_decide_eq_false HBB.out; rw [cmpI] at this; omega
        have HI2 : Keep ((∀ (t : Nat) (z : Sh), a + t < h + 1 → A[t]? = some z → z.id ≤ y.id) ∧ (∀ (t : Nat) (z : Sh), j ≤ a + t → A[t]? = some z → y.id < z.id)) := ⟨⟨fun t z ht hz => by
          have q := Ris.le_of (key := (fun c : Sh => c.id)) HRB.out (i := t) (j := h - a) (by have := HHI.out; omega) hz HX.out
          omega, HI.out.2⟩⟩
        go_wp2_with fail
        go_roundw
        case rel => exact ⟨h + 1, j, by have := HHI.out; omega, by have := HHI.out; omega, by have := HHI.out; omega, rfl, rfl, HI2, HB⟩
        case measure => simp [intOf]; have := HHI.out; omega
      · have hge : y.id < x.id := by have := of_decide_eq_true HBB.out; rwa [cmpI] at this
        have HI2 : Keep ((∀ (t : Nat) (z : Sh), a + t < i → A[t]? = some z → z.id ≤ y.id) ∧ (∀ (t : Nat) (z : Sh), h ≤ a + t → A[t]? = some z → y.id < z.id)) := ⟨⟨HI.out.1, fun t z ht hz => by
          have q := Ris.le_of (key := (fun c : Sh => c.id)) HRB.out (i := h - a) (j := t) (by have := HHI.out; omega) HX.out hz
          omega⟩⟩
        go_wp2_with fail
        go_roundw
        case rel => exact ⟨i, h, HHI.out.2.2.1, HHI.out.1, by have := HHI.out; omega, rfl, rfl, HI2, HB⟩
        case measure => simp [intOf]; have := HHI.out; omega
    · have hlt1 : ¬ (i : Int) < (j : Int) := by omega
      obtain rfl : i = j := by omega
      obtain ⟨A1, A2, hA12, hA1⟩ : ∃ A1 A2, A = A1 ++ A2 ∧ a + A1.length = i := ⟨A.take (i - a), A.drop (i - a), (List.take_append_drop _ _).symm, by rw [List.length_take]; have := HL.out; omega⟩
      have HRES : Keep (Ris (fun c : Sh => c.id) (A1 ++ y :: A2) ∧ Stb (fun c : Sh => c.id) (A ++ [y]) (A1 ++ y :: A2)) := ⟨by
        obtain ⟨q1, q2⟩ := HI.out
        have hR := HRB.out
        subst hA12
        have s1 : ∀ s ∈ A1, s.id ≤ y.id := fun s hs => by
          obtain ⟨t, ht, e⟩ := List.mem_iff_getElem.1 hs
          exact q1 t s (by omega) (by rw [List.getElem?_append_left ht, List.getElem?_eq_getElem ht, e])
        have s2 : ∀ s ∈ A2, y.id < s.id := fun s hs => by
          obtain ⟨t, ht, e⟩ := List.mem_iff_getElem.1 hs
          exact q2 (A1.length + t) s (by omega) (by rw [List.getElem?_append_right (by omega), Nat.add_sub_cancel_left, List.getElem?_eq_getElem ht, e])
        exact ins_end (key := (fun c : Sh => c.id)) hR s2 s1⟩
      have HI1 : Keep (a + A1.length = i ∧ i ≤ m ∧ a + (A1 ++ A2).length = m) := ⟨⟨hA1, hj, by rw [← hA12]; exact HL.out.2.2.2.2.2⟩⟩
      have HB1 : Keep (∃ (D Ba Bb : List Sh), A2 = Ba ++ Bb ∧ i + Ba.length = m ∧ D = P ++ A1 ++ Ba ++ y :: (Bb ++ Q) ∧ Sep w0 wr (rowV 46 7 (sl g n c) n (fl shv (D)) :: l)) := ⟨⟨D, A2, [], by simp, by rw [← HI1.out.2.2, List.length_append]; omega, by rw [← HD.out, hA12]; simp, HB.out⟩⟩
      have HQ : Keep ((P ++ A1 ++ A2 ++ y :: Q).length = n) := ⟨by rw [← HLN.out, ← HD.out, hA12]; simp only [List.length_append, List.length_cons, List.length_nil]; omega⟩
      clear HI HB hij hi hj hlt hA1 GA HLN
      go_wp2_with fail
      go_loopw [17] (fun u17 wr => ∃ k : Nat, i ≤ k ∧ k ≤ m ∧ u17 = iv k ∧ Keep (∃ (D Ba Bb : List Sh), A2 = Ba ++ Bb ∧ i + Ba.length = k ∧ D = P ++ A1 ++ Ba ++ y :: (Bb ++ Q) ∧ Sep w0 wr (rowV 46 7 (sl g n c) n (fl shv (D)) :: l))) (fun u17 _ => (intOf u17).toNat)
      case atStart => exact ⟨m, HI1.out.2.1, Nat.le_refl _, rfl, HB1⟩
      case round =>
        clear HB1
        obtain ⟨k, hki, hk, rfl, HI⟩ := hrel
        by_cases hlt : i < k
        · have hlt1 : (i : Int) < (k : Int) := by omega
          obtain ⟨D, Ba0, Bb, e1, e2, hD, S1⟩ := HI.out
          have HB := Keep.mk S1
          obtain ⟨Ba, x, rfl⟩ : ∃ S' x, Ba0 = S' ++ [x] := ⟨Ba0.dropLast, Ba0.getLast (by rintro rfl; simp at e2; omega), (List.dropLast_concat_getLast _).symm⟩
          obtain ⟨k1, hk1⟩ : ∃ k1, k = k1 + 1 := ⟨k - 1, by omega⟩
          have hkk : IntKind.i64.wrap ((k : Int) - 1) = ((k1 : Nat) : Int) := by have := HL.out; rw [IntKind.wrap_i64]; omega
          have Hk : Keep (k < n) := ⟨by have := HL.out; omega⟩
          have Hk1 : Keep (k1 < n) := ⟨by have := HL.out; omega⟩
          have HLN : Keep (D.length = n) := ⟨by rw [← HQ.out, hD, e1]; simp only [List.length_append, List.length_cons]; omega⟩
          have lp : (P ++ A1 ++ Ba).length = k1 := by
            have := HI1.out.1; have := HL.out.2.2.2.2.1
            simp only [List.length_append, List.length_singleton] at e2 ⊢
            omega
          have GK1 : Keep (D[k1]? = some x) := ⟨by
            rw [hD, show P ++ A1 ++ (Ba ++ [x]) ++ y :: (Bb ++ Q) = (P ++ A1 ++ Ba) ++ x :: (y :: (Bb ++ Q)) by simp, ← lp]
            simp⟩
          have GK : Keep (D[k]? = some y) := ⟨by
            rw [hD, show P ++ A1 ++ (Ba ++ [x]) ++ y :: (Bb ++ Q) = (P ++ A1 ++ Ba ++ [x]) ++ y :: (Bb ++ Q) by simp, show k = (P ++ A1 ++ Ba ++ [x]).length by rw [List.length_append, lp, hk1]; rfl]
            simp⟩
          have HF : Keep ((D.set k x).set k1 y = P ++ A1 ++ Ba ++ y :: (x :: Bb ++ Q)) := ⟨by
            rw [hD, hk1, ← lp, show P ++ A1 ++ (Ba ++ [x]) ++ y :: (Bb ++ Q) = (P ++ A1 ++ Ba) ++ x :: (y :: (Bb ++ Q)) by simp, List.set_append_right _ _ (by omega), show (P ++ A1 ++ Ba).length + 1 - (P ++ A1 ++ Ba).length = 1 by omega, List.set_cons_succ, List.set_cons_zero, List.set_append_right _ _ (Nat.le_refl _), Nat.sub_self, List.set_cons_zero]
            simp⟩
          have HE : Keep (A2 = Ba ++ (x :: Bb) ∧ i + Ba.length = k1) := ⟨⟨by rw [e1]; simp, by simp only [List.length_append, List.length_singleton] at e2; omega⟩⟩
          have HK : Keep (i ≤ k1 ∧ k1 ≤ m ∧ k1 + 1 = k) := ⟨by omega⟩
          have hka : (0 : Int) ≤ (k : Int) := by omega
          have hkb : (k : Int) < (n : Int) := by have := Hk.out; omega
          have hkc : ((k : Nat) : Int).toNat = k := by omega
          have hk1a : (0 : Int) ≤ (k1 : Int) := by omega
          have hk1b : (k1 : Int) < (n : Int) := by have := Hk1.out; omega
          have hk1c : ((k1 : Nat) : Int).toNat = k1 := by omega
          clear HI S1 e1 e2 hD lp hk1 hlt hki hk
          go_wp2_with fail
          refine region_Y (S := fun w' => Sep w0 w' (rowV 46 7 (sl g n c) n (fl shv (D)) :: l)) [15, 17] (by kernel_rfl) ?_
          obtain ⟨W0, hW0⟩ : ∃ W_, wr.drew = W_ := ⟨_, rfl⟩
          replace HB := Keep.mk (HB.out.grown (gr_drew _ none))
          rw [hW0] at HB ⊢
          clear hW0
          have hHeld : (fun w' => Sep w0 w' (rowV 46 7 (sl g n c) n (fl shv (D)) :: l)) W0 := HB.out
          refine wpAnyY_pure (i := 0) (oi := _) (v := ?_) rfl (by kernel_rfl) (by kernel_rfl) (by kernel_rfl) (by kernel_rfl) (fun _ _ _ h => h) (Or.inl ⟨by rfl, ?_⟩) ?_
          rotate_left
          · (intro w hSw; go_simp; first | done | (with_reducible rfl))
          simp only [Act.put, List.getElem_toArray, List.getElem_cons_zero, List.setIfInBounds_toArray, List.set_cons_zero, List.set_cons_succ]
          refine wpAnyY_pure (i := 1) (oi := _) (v := ?_) rfl (by kernel_rfl) (by kernel_rfl) (by kernel_rfl) (by kernel_rfl) (fun _ _ _ h => h) (Or.inl ⟨by rfl, ?_⟩) ?_
          rotate_left
          · (intro w hSw; go_simp; first | done | (with_reducible rfl))
          simp only [Act.put, List.getElem_toArray, List.getElem_cons_succ, List.getElem_cons_zero, List.setIfInBounds_toArray, List.set_cons_zero, List.set_cons_succ]
          refine wpAnyY_pure (i := 2) (oi := _) (v := ?_) rfl (by kernel_rfl) (by kernel_rfl) (by kernel_rfl) (by kernel_rfl) (fun _ _ _ h => h) (Or.inl ⟨by rfl, ?_⟩) ?_
          rotate_left
          · (intro w hSw; go_simp; first | done | (with_reducible rfl))
          simp only [Act.put, List.getElem_toArray, List.getElem_cons_succ, List.getElem_cons_zero, List.setIfInBounds_toArray, List.set_cons_zero, List.set_cons_succ]
          refine wpAnyY_pure (i := 3) (oi := _) (v := ?_) rfl (by kernel_rfl) (by kernel_rfl) (by kernel_rfl) (by kernel_rfl) (fun _ _ _ h => h) (Or.inl ⟨by rfl, ?_⟩) ?_
          rotate_left
          · (intro w hSw; go_simp; first | done | (with_reducible rfl))
          simp only [Act.put, List.getElem_toArray, List.getElem_cons_succ, List.getElem_cons_zero, List.setIfInBounds_toArray, List.set_cons_zero, List.set_cons_succ]
          refine wpAnyY_pure (i := 4) (oi := _) (v := ?_) rfl (by kernel_rfl) (by kernel_rfl) (by kernel_rfl) (by kernel_rfl) (fun _ _ _ h => h) (Or.inl ⟨by rfl, ?_⟩) ?_
          rotate_left
          · (intro w hSw; go_simp; first | done | (with_reducible rfl))
          simp only [Act.put, List.getElem_toArray, List.getElem_cons_succ, List.getElem_cons_zero, List.setIfInBounds_toArray, List.set_cons_zero, List.set_cons_succ]
          refine wpAnyY_pure (i := 5) (oi := _) (v := ?_) rfl (by kernel_rfl) (by kernel_rfl) (by kernel_rfl) (by kernel_rfl) (fun _ _ _ h => h) (Or.inl ⟨by rfl, ?_⟩) ?_
          rotate_left
          · (intro w hSw; go_simp; first | done | (with_reducible rfl))
          simp only [Act.put, List.getElem_toArray, List.getElem_cons_succ, List.getElem_cons_zero, List.setIfInBounds_toArray, List.set_cons_zero, List.set_cons_succ]
          refine wpAnyY_pure (i := 6) (oi := _) (v := ?_) rfl (by kernel_rfl) (by kernel_rfl) (by kernel_rfl) (by kernel_rfl) (fun _ _ _ h => h) (Or.inl ⟨by rfl, ?_⟩) ?_
          rotate_left
          · (intro w hSw; go_simp; first | done | (with_reducible rfl))
          simp only [Act.put, List.getElem_toArray, List.getElem_cons_succ, List.getElem_cons_zero, List.setIfInBounds_toArray, List.set_cons_zero, List.set_cons_succ]
          refine wpAnyY_pure (i := 7) (oi := _) (v := ?_) rfl (by kernel_rfl) (by kernel_rfl) (by kernel_rfl) (by kernel_rfl) (fun _ _ _ h => h) (Or.inl ⟨by rfl, ?_⟩) ?_
          rotate_left
          · (intro w hSw; go_simp; first | done | (with_reducible rfl))
          simp only [Act.put, List.getElem_toArray, List.getElem_cons_succ, List.getElem_cons_zero, List.setIfInBounds_toArray, List.set_cons_zero, List.set_cons_succ]
          refine wpAnyY_pure (i := 8) (oi := _) (v := ?_) rfl (by kernel_rfl) (by kernel_rfl) (by kernel_rfl) (by kernel_rfl) (fun _ _ _ h => h) (Or.inl ⟨by rfl, ?_⟩) ?_
          rotate_left
          · (intro w hSw; go_simp; first | done | (with_reducible rfl))
          simp only [Act.put, List.getElem_toArray, List.getElem_cons_succ, List.getElem_cons_zero, List.setIfInBounds_toArray, List.set_cons_zero, List.set_cons_succ]
          refine wpAnyY_take (i := 9) (oi := _) (v := .agg (shv x).toArray) rfl (by kernel_rfl) (by kernel_rfl) (by kernel_rfl) (by kernel_rfl) (by kernel_rfl) (fun _ _ _ h => h) (yieldsIf_load_mid (by rfl) 46 _ rfl _ _ rfl _ _ (fun w hSw => fl_range shv_len (hSw.rowGet k0m) HN0.out k1 x GK1.out) hdu.1 hdu.2 info46) (by assumption) ?_
          simp only [Act.put, List.getElem_toArray, List.getElem_cons_succ, List.getElem_cons_zero, List.setIfInBounds_toArray, List.set_cons_zero, List.set_cons_succ]
          refine wpAnyY_pure (i := 10) (oi := _) (v := ?_) rfl (by kernel_rfl) (by kernel_rfl) (by kernel_rfl) (by kernel_rfl) (fun _ _ _ h => h) (Or.inl ⟨by rfl, ?_⟩) ?_
          rotate_left
          · (intro w hSw; go_simp; first | done | (with_reducible rfl))
          simp only [Act.put, List.getElem_toArray, List.getElem_cons_succ, List.getElem_cons_zero, List.setIfInBounds_toArray, List.set_cons_zero, List.set_cons_succ]
          refine wpAnyY_pure (i := 11) (oi := _) (v := ?_) rfl (by kernel_rfl) (by kernel_rfl) (by kernel_rfl) (by kernel_rfl) (fun _ _ _ h => h) (Or.inl ⟨by rfl, ?_⟩) ?_
          rotate_left
          · (intro w hSw; go_simp; first | done | (with_reducible rfl))
          simp only [Act.put, List.getElem_toArray, List.getElem_cons_succ, List.getElem_cons_zero, List.setIfInBounds_toArray, List.set_cons_zero, List.set_cons_succ]
          refine wpAnyY_pure (i := 12) (oi := _) (v := ?_) rfl (by kernel_rfl) (by kernel_rfl) (by kernel_rfl) (by kernel_rfl) (fun _ _ _ h => h) (Or.inl ⟨by rfl, ?_⟩) ?_
          rotate_left
          · (intro w hSw; go_simp; first | done | (with_reducible rfl))
          simp only [Act.put, List.getElem_toArray, List.getElem_cons_succ, List.getElem_cons_zero, List.setIfInBounds_toArray, List.set_cons_zero, List.set_cons_succ]
          refine wpAnyY_take (i := 13) (oi := _) (v := .agg (shv y).toArray) rfl (by kernel_rfl) (by kernel_rfl) (by kernel_rfl) (by kernel_rfl) (by kernel_rfl) (fun _ _ _ h => h) (yieldsIf_load_mid (by rfl) 46 _ rfl _ _ rfl _ _ (fun w hSw => fl_range shv_len (hSw.rowGet k0m) HN0.out k y GK.out) hdu.1 hdu.2 info46) (by assumption) ?_
          simp only [Act.put, List.getElem_toArray, List.getElem_cons_succ, List.getElem_cons_zero, List.setIfInBounds_toArray, List.set_cons_zero, List.set_cons_succ]
          refine wpAnyY_pure (i := 14) (oi := _) (v := ?_) rfl (by kernel_rfl) (by kernel_rfl) (by kernel_rfl) (by kernel_rfl) (fun _ _ _ h => h) (Or.inl ⟨by rfl, ?_⟩) ?_
          rotate_left
          · (intro w hSw; go_simp; first | done | (with_reducible rfl))
          simp only [Act.put, List.getElem_toArray, List.getElem_cons_succ, List.getElem_cons_zero, List.setIfInBounds_toArray, List.set_cons_zero, List.set_cons_succ]
          refine wpAnyY_late (i := 15) (by kernel_rfl) rfl (by kernel_rfl) (fun K hK => ?_)
          rw [if_pos (show Region.wanted _ _ = true from rfl)]
          refine wp_store_mid 46 _ _ rfl g (k * 7) (shv x).toArray rfl rfl (row_there (HB.out.rowGet k0m) HN0.out 7 (by have := Hk.out; omega)) info46 (all_oneCell_toArray (shv_one x)) ?_
          have S_ := Sep.rowSetsAt (shv x) _ _ (k * 7) HB.out
          rw [fl_over shv_len _ k (by rw [HLN.out]; exact Hk.out) x] at S_
          refine hK.out _ _ ?_
          clear hK K
          replace HB := Keep.mk S_
          clear S_
          change Keep (Sep w0 (World.setCells W0 g (k * 7) (shv x)) _) at HB
          show wpAnyY _ _ _ _ _ _ _ _ _ (World.setCells W0 g (k * 7) (shv x))
          generalize World.setCells W0 g (k * 7) (shv x) = ws0 at HB ⊢
          simp only [Act.put, List.getElem_toArray, List.getElem_cons_succ, List.getElem_cons_zero]
          refine wpAnyY_pure (i := 16) (oi := _) (v := ?_) rfl (by kernel_rfl) (by kernel_rfl) (by kernel_rfl) (by kernel_rfl) (fun _ _ _ h => h) (Or.inl ⟨by rfl, ?_⟩) ?_
          rotate_left
          · (intro w hSw; go_simp; first | done | (with_reducible rfl))
          simp only [Act.put, List.getElem_toArray, List.getElem_cons_succ, List.getElem_cons_zero, List.setIfInBounds_toArray, List.set_cons_zero, List.set_cons_succ]
          refine wpAnyY_late (i := 17) (by kernel_rfl) rfl (by kernel_rfl) (fun K hK => ?_)
          rw [if_pos (show Region.wanted _ _ = true from rfl)]
          refine wp_store_mid 46 _ _ rfl g (k1 * 7) (shv y).toArray rfl rfl (row_there (HB.out.rowGet k0m) HN0.out 7 (by have := Hk1.out; omega)) info46 (all_oneCell_toArray (shv_one y)) ?_
          have S_ := Sep.rowSetsAt (shv y) _ _ (k1 * 7) HB.out
          rw [fl_over shv_len _ k1 (by rw [List.length_set, HLN.out]; exact Hk1.out) y] at S_
          refine hK.out _ _ ?_
          clear hK K
          replace HB := Keep.mk S_
          clear S_
          change Keep (Sep w0 (World.setCells ws0 g (k1 * 7) (shv y)) _) at HB
          show wpAnyY _ _ _ _ _ _ _ _ _ (World.setCells ws0 g (k1 * 7) (shv y))
          generalize World.setCells ws0 g (k1 * 7) (shv y) = ws1 at HB ⊢
          simp only [Act.put, List.getElem_toArray, List.getElem_cons_succ, List.getElem_cons_zero]
          refine wpAnyY_done (by kernel_rfl) ?_ _
          rw [HF.out] at HB
          have HR : Keep (∃ (D Ba Bb : List Sh), A2 = Ba ++ Bb ∧ i + Ba.length = k1 ∧ D = P ++ A1 ++ Ba ++ y :: (Bb ++ Q) ∧ Sep w0 ws1 (rowV 46 7 (sl g n c) n (fl shv (D)) :: l)) := ⟨⟨_, Ba, x :: Bb, HE.out.1, HE.out.2, rfl, HB.out⟩⟩
          clear HB
          go_wp2_with fail
          go_roundw
          case rel => exact ⟨k1, HK.out.1, HK.out.2.1, rfl, HR⟩
          case measure => simp [intOf]; have := HK.out; omega
        · have hlt1 : ¬ (i : Int) < (k : Int) := by omega
          have HE : Keep (Sep w0 wr (rowV 46 7 (sl g n c) n (fl shv (P ++ (A1 ++ y :: A2) ++ Q)) :: l)) := ⟨by
            obtain ⟨D, Ba, Bb, e1, e2, hD, S1⟩ := HI.out
            have e0 : Ba = [] := by
              cases Ba with
              | nil => rfl
              | cons _ _ => simp only [List.length_cons] at e2; omega
            subst e0
            rw [List.nil_append] at e1
            subst e1
            rw [hD] at S1
            simpa only [List.append_assoc, List.nil_append, List.cons_append, List.append_nil] using S1⟩
          clear HI hlt hki hk
          go_wp2_with fail
          try simp only [Exit.inBlock, Exit.then]
          refine bodyPost_ret (results_none rfl _ _ _) rfl ?_
          exact ⟨rfl, A1 ++ y :: A2, HRES.out.1, by have q := HRES.out.2; rw [hA12] at q; simpa only [List.append_assoc] using q, by simpa only [List.append_assoc, List.cons_append] using HE.out⟩
end Go.Proofs.YtgedlabmndlooaaGreat
