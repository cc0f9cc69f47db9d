/- slices: symMerge -/
import Derived.Test.YtgedlabmndlooaaGreatC5
import Derived.Test.YtgedlabmndlooaaGreatC6
import Derived.Deep.DeepCutAuto
namespace Go.Proofs.YtgedlabmndlooaaGreat
open Go Go.RowKit Go.Maps

def SymCC (N : Nat) : Prop := ∀ (w0 W : World) (l : List As) (g n c kb a m b : Nat) (P A B Q : List Cr), A.length + B.length ≤ N → P.length = a → a + A.length = m → m + B.length = b → 0 < A.length → 0 < B.length → Ris (fun c : Cr => c.pl) A → Ris (fun c : Cr => c.pl) B → (P ++ A ++ B ++ Q).length = n → n ≤ 281474976710656 → boxA kb [nvC] 86 ∈ l → Sep w0 W (rowV 26 14 (sl g n c) n (fl crv (P ++ A ++ B ++ Q)) :: l) →
    Calls Tryz.prog 84 #[sl g n c, iv a, iv m, iv b, cvC kb] W fun e W' => e = .returned (.tuple #[]) ∧ ∃ R : List Cr, Ris (fun c : Cr => c.pl) R ∧ Stb (fun c : Cr => c.pl) (A ++ B) R ∧ Sep w0 W' (rowV 26 14 (sl g n c) n (fl crv (P ++ R ++ Q)) :: l)
set_option maxRecDepth 100000 in
set_option maxHeartbeats 16000000 in
theorem sym3C (N : Nat) (IH : SymCC N) (w0 W : World) (l : List As) (g n c kb a m b : Nat) (P A B Q : List Cr) (hN : A.length + B.length ≤ N + 1) (ha : P.length = a) (hm : a + A.length = m) (hb : m + B.length = b) (hA2 : 2 ≤ A.length) (hB2 : 2 ≤ B.length) (hA : Ris (fun c : Cr => c.pl) A) (hB : Ris (fun c : Cr => c.pl) B) (hn : (P ++ A ++ B ++ Q).length = n) (hn1 : n ≤ 281474976710656) (hkb : boxA kb [nvC] 86 ∈ l) (h : Sep w0 W (rowV 26 14 (sl g n c) n (fl crv (P ++ A ++ B ++ Q)) :: l)) :
    Calls Tryz.prog 84 #[sl g n c, iv a, iv m, iv b, cvC kb] W fun e W' => e = .returned (.tuple #[]) ∧ ∃ R : List Cr, Ris (fun c : Cr => c.pl) R ∧ Stb (fun c : Cr => c.pl) (A ++ B) R ∧ Sep w0 W' (rowV 26 14 (sl g n c) n (fl crv (P ++ R ++ Q)) :: l) := by
  have HIH := Keep.mk IH
  have HKB := Keep.mk hkb
  have hln : b ≤ n := by simp only [List.length_append] at hn; omega
  obtain ⟨D, hD⟩ : ∃ D, P ++ A ++ B ++ Q = D := ⟨_, rfl⟩
  have HB0 : Keep (Sep w0 W (rowV 26 14 (sl g n c) n (fl crv (D)) :: l)) := ⟨by rw [← hD]; exact h⟩
  have HLN : Keep (D.length = n) := ⟨by rw [← hD]; exact hn⟩
  have HD := Keep.mk hD
  have HN0 : Keep (0 < n) := ⟨by omega⟩
  have HDA : Keep (∀ (t : Nat), t < A.length → D[a + t]? = A[t]?) := ⟨fun t ht => by
    rw [← hD, List.append_assoc, List.append_assoc, List.getElem?_append_right (by omega), show a + t - P.length = t by omega, List.getElem?_append_left ht]⟩
  have HDB : Keep (∀ (t : Nat), t < B.length → D[m + t]? = B[t]?) := ⟨fun t ht => by
    rw [← hD, List.append_assoc, List.getElem?_append_right (by rw [List.length_append]; omega), show m + t - (P ++ A).length = t by rw [List.length_append]; omega, List.getElem?_append_left ht]⟩
  have HMA : Keep (∀ (i j : Nat) (x y : Cr), a ≤ i → i ≤ j → j < m → D[i]? = some x → D[j]? = some y → x.pl ≤ y.pl) := ⟨fun i j x y h1 h2 h3 hx hy => by
    have e1 := HDA.out (i - a) (by omega)
    have e2 := HDA.out (j - a) (by omega)
    rw [show a + (i - a) = i by omega, hx] at e1
    rw [show a + (j - a) = j by omega, hy] at e2
    exact Ris.le_of (key := (fun c : Cr => c.pl)) hA (i := i - a) (j := j - a) (by omega) e1.symm e2.symm⟩
  have HMB : Keep (∀ (i j : Nat) (x y : Cr), m ≤ i → i ≤ j → j < b → D[i]? = some x → D[j]? = some y → x.pl ≤ y.pl) := ⟨fun i j x y h1 h2 h3 hx hy => by
    have e1 := HDB.out (i - m) (by omega)
    have e2 := HDB.out (j - m) (by omega)
    rw [show m + (i - m) = i by omega, hx] at e1
    rw [show m + (j - m) = j by omega, hy] at e2
    exact Ris.le_of (key := (fun c : Cr => c.pl)) hB (i := i - m) (j := j - m) (by omega) e1.symm e2.symm⟩
  have HRA := Keep.mk hA
  have HRB := Keep.mk hB
  obtain ⟨du, hdu⟩ := under26
  have ec := ecmpC
  obtain ⟨la, hla⟩ : ∃ la, A.length = la := ⟨_, rfl⟩
  obtain ⟨lb, hlb⟩ : ∃ lb, B.length = lb := ⟨_, rfl⟩
  have hw0 : IntKind.i64.wrap ((m : Int) - (a : Int)) = ((la : Nat) : Int) := by rw [IntKind.wrap_i64]; omega
  have hw0' : ((la : Int) == 1) = false := by simp; omega
  have hw0'' : ¬ (la : Int) = 1 := by omega
  have hw1 : IntKind.i64.wrap ((b : Int) - (m : Int)) = ((lb : Nat) : Int) := by rw [IntKind.wrap_i64]; omega
  have hw1' : ((lb : Int) == 1) = false := by simp; omega
  have hw1'' : ¬ (lb : Int) = 1 := by omega
  obtain ⟨ij, hij⟩ : ∃ ij, a + b = ij := ⟨_, rfl⟩
  obtain ⟨md, hmd⟩ : ∃ h, ij / 2 = h := ⟨_, rfl⟩
  have hm1 : IntKind.i64.wrap ((a : Int) + (b : Int)) = ((ij : Nat) : Int) := by rw [IntKind.wrap_i64]; omega
  have hm2 : IntKind.u64.wrap ((ij : Nat) : Int) = ((ij : Nat) : Int) := by rw [IntKind.wrap_u64]; omega
  have hm3 : ((ij : Nat) : Int) / 2 = ((md : Nat) : Int) := by omega
  have hm3b : ((ij : Nat) : Int) >>> 1 = ((md : Nat) : Int) := by rw [← hm3]; exact Int.shiftRight_eq_div_pow _ 1
  have hm4 : IntKind.u64.wrap ((md : Nat) : Int) = ((md : Nat) : Int) := by rw [IntKind.wrap_u64]; omega
  have hm5 : IntKind.i64.wrap ((md : Nat) : Int) = ((md : Nat) : Int) := by rw [IntKind.wrap_i64]; omega
  obtain ⟨nn, hnn⟩ : ∃ nn, md + m = nn := ⟨_, rfl⟩
  have hw2 : IntKind.i64.wrap ((md : Int) + (m : Int)) = ((nn : Nat) : Int) := by rw [IntKind.wrap_i64]; omega
  obtain ⟨p, hp⟩ : ∃ p, nn - 1 = p := ⟨_, rfl⟩
  have hw3 : IntKind.i64.wrap ((nn : Int) - 1) = ((p : Nat) : Int) := by rw [IntKind.wrap_i64]; omega
  obtain ⟨s0, hs0⟩ : ∃ s0, (if md < m then nn - b else a) = s0 := ⟨_, rfl⟩
  obtain ⟨r0, hr0⟩ : ∃ r0, (if md < m then md else m) = r0 := ⟨_, rfl⟩
  have HL : Keep (a + la = m ∧ m + lb = b ∧ b ≤ n ∧ n ≤ 281474976710656 ∧ P.length = a ∧ A.length = la ∧ B.length = lb ∧ 2 ≤ la ∧ 2 ≤ lb ∧ la + lb ≤ N + 1) := ⟨by omega⟩
  have HSR : Keep (a ≤ s0 ∧ s0 ≤ r0 ∧ r0 ≤ m ∧ r0 ≤ md ∧ md + m = nn ∧ p + 1 = nn ∧ a + 1 < md ∧ md + 1 < b ∧ nn ≤ b + s0 ∧ ((md < m ∧ s0 + b = nn ∧ r0 = md) ∨ (m ≤ md ∧ s0 = a ∧ r0 = m))) := ⟨by
    by_cases hx : md < m
    · rw [if_pos hx] at hs0 hr0
      omega
    · rw [if_neg hx] at hs0 hr0
      omega⟩
  clear h hD ha hm hb hA hB hn hkb hln hla hlb hA2 hB2 hij hmd hnn hp hs0 hr0 hN IH
  go_enter Tryz.func84, Tryz.ntmps84
  go_upto_if 140 with fail
  go_cut [20, 21] (fun u20 u21 wx => u20 = iv s0 ∧ u21 = iv r0 ∧ wx = W)
  case first =>
    as_aux_lemma =>
      rcases HSR.out.2.2.2.2.2.2.2.2.2 with ⟨q1, q2, q3⟩ | ⟨q1, q2, q3⟩
      · have t1 : (md : Int) < (m : Int) := by omega
        have t2 : IntKind.i64.wrap ((nn : Int) - (b : Int)) = ((s0 : Nat) : Int) := by have := HL.out; have hz := HSR.out; rw [IntKind.wrap_i64]; omega
        have HQ := Keep.mk q3
        clear q1 q2 q3
        go_wp2_with fail
        go_meet
        exact ⟨rfl, by rw [HQ.out], rfl⟩
      · have t1 : ¬ (md : Int) < (m : Int) := by omega
        have HQ := Keep.mk (And.intro q2 q3)
        clear q1 q2 q3
        go_wp2_with fail
        go_meet
        exact ⟨by rw [HQ.out.1], by rw [HQ.out.2], rfl⟩
  case rest =>
  rename World => wc
  obtain ⟨rfl, rfl, rfl⟩ := hcut
  clear hw0 hw0' hw0'' hw1 hw1' hw1'' hm1 hm2 hm3 hm3b hm4 hm5 hw2
  as_aux_lemma =>
    go_wp2_with fail
    go_loopw [20, 21] (fun u20 u21 wr => ∃ s r : Nat, s0 ≤ s ∧ s ≤ r ∧ r ≤ r0 ∧ u20 = iv s ∧ u21 = iv r ∧ Keep ((∀ (t : Nat) (x y : Cr), s0 ≤ t → t < s → D[t]? = some x → D[p - t]? = some y → x.pl ≤ y.pl) ∧ (∀ (t : Nat) (x y : Cr), r ≤ t → t < r0 → D[t]? = some x → D[p - t]? = some y → y.pl < x.pl)) ∧ Keep (Sep w0 wr (rowV 26 14 (sl g n c) n (fl crv (D)) :: l))) (fun u20 u21 _ => (intOf u21 - intOf u20).toNat)
    case atStart => exact ⟨s0, r0, Nat.le_refl _, HSR.out.2.1, Nat.le_refl _, rfl, rfl, ⟨⟨fun t x y h1 h2 => by omega, fun t x y h1 h2 => by omega⟩⟩, HB0⟩
    case round =>
      clear HB0 hw3
      obtain ⟨s, r, hs, hsr, hr, rfl, rfl, HI, HB⟩ := hrel
      by_cases hlt : s < r
      · have hlt1 : (s : Int) < (r : Int) := by omega
        have hbn := HL.out
        have hbs := HSR.out
        obtain ⟨ij, hij⟩ : ∃ ij, s + r = ij := ⟨_, rfl⟩
        obtain ⟨c1, hc1⟩ : ∃ h, ij / 2 = h := ⟨_, rfl⟩
        have hm1 : IntKind.i64.wrap ((s : Int) + (r : Int)) = ((ij : Nat) : Int) := by rw [IntKind.wrap_i64]; omega
        have hm2 : IntKind.u64.wrap ((ij : Nat) : Int) = ((ij : Nat) : Int) := by rw [IntKind.wrap_u64]; omega
        have hm3 : ((ij : Nat) : Int) / 2 = ((c1 : Nat) : Int) := by omega
        have hm3b : ((ij : Nat) : Int) >>> 1 = ((c1 : Nat) : Int) := by rw [← hm3]; exact Int.shiftRight_eq_div_pow _ 1
        have hm4 : IntKind.u64.wrap ((c1 : Nat) : Int) = ((c1 : Nat) : Int) := by rw [IntKind.wrap_u64]; omega
        have hm5 : IntKind.i64.wrap ((c1 : Nat) : Int) = ((c1 : Nat) : Int) := by rw [IntKind.wrap_i64]; omega
        obtain ⟨q, hq⟩ : ∃ q, p - c1 = q := ⟨_, rfl⟩
        have Hc1 : Keep (c1 < n) := ⟨by omega⟩
        have Hq : Keep (q < n) := ⟨by omega⟩
        have hqw : IntKind.i64.wrap ((p : Int) - (c1 : Int)) = ((q : Nat) : Int) := by rw [IntKind.wrap_i64]; omega
        obtain ⟨x, hx⟩ : ∃ x, D[c1]? = some x := ⟨_, List.getElem?_eq_getElem (by rw [HLN.out]; exact Hc1.out)⟩
        obtain ⟨y, hy⟩ : ∃ y, D[q]? = some y := ⟨_, List.getElem?_eq_getElem (by rw [HLN.out]; exact Hq.out)⟩
        have GC := Keep.mk hx
        have GQ := Keep.mk hy
        obtain ⟨bb, hbb⟩ : ∃ bb, decide (Lib.compareInt y.pl x.pl < 0) = bb := ⟨_, rfl⟩
        have HBB := Keep.mk hbb
        have HHI : Keep (s ≤ c1 ∧ c1 < r ∧ s0 ≤ s ∧ r ≤ r0 ∧ p - c1 = q) := ⟨by omega⟩
        have hh1 : IntKind.i64.wrap ((c1 : Int) + 1) = ((c1 + 1 : Nat) : Int) := by rw [IntKind.wrap_i64]; omega
        have hc1a : (0 : Int) ≤ (c1 : Int) := by omega
        have hc1b : (c1 : Int) < (n : Int) := by have := Hc1.out; omega
        have hc1c : ((c1 : Nat) : Int).toNat = c1 := by omega
        have hqa : (0 : Int) ≤ (q : Int) := by omega
        have hqb : (q : Int) < (n : Int) := by have := Hq.out; omega
        have hqc : ((q : Nat) : Int).toNat = q := by omega
        clear hbb hx hy hij hc1 hbn hbs hs hr hsr hlt hq
        as_aux_lemma =>
          go_wp2_with fail
          refine region_Y (S := fun w' => Sep w0 w' (rowV 26 14 (sl g n c) n (fl crv (D)) :: l)) [] (by kernel_rfl) ?_
          obtain ⟨W0, hW0⟩ : ∃ W_, wr.drew = W_ := ⟨_, rfl⟩
          replace HB := Keep.mk (HB.out.grown (gr_drew _ none))
          rw [hW0] at HB ⊢
          clear hW0
          have hHeld : (fun w' => Sep w0 w' (rowV 26 14 (sl g n c) n (fl crv (D)) :: l)) W0 := HB.out
          refine yp (i := 0) (v := ?_) rfl (Or.inl ⟨by rfl, ?_⟩) ?_
          rotate_left
          · (intro w hSw; go_simp; first | done | (with_reducible rfl))
          simp only [Act.put, A1, A3, A4, A5, A6]
          refine yp (i := 1) (v := ?_) rfl (Or.inl ⟨by rfl, ?_⟩) ?_
          rotate_left
          · (intro w hSw; go_simp; first | done | (with_reducible rfl))
          simp only [Act.put, A1, A2, A3, A4, A5, A6]
          refine yp (i := 2) (v := ?_) rfl (Or.inl ⟨by rfl, ?_⟩) ?_
          rotate_left
          · (intro w hSw; go_simp; first | done | (with_reducible rfl))
          simp only [Act.put, A1, A2, A3, A4, A5, A6]
          refine yp (i := 3) (v := ?_) rfl (Or.inl ⟨by rfl, ?_⟩) ?_
          rotate_left
          · (intro w hSw; go_simp; first | done | (with_reducible rfl))
          simp only [Act.put, A1, A2, A3, A4, A5, A6]
          refine yp (i := 4) (v := ?_) rfl (Or.inl ⟨by rfl, ?_⟩) ?_
          rotate_left
          · (intro w hSw; go_simp; first | done | (with_reducible rfl))
          simp only [Act.put, A1, A2, A3, A4, A5, A6]
          refine yp (i := 5) (v := ?_) rfl (Or.inl ⟨by rfl, ?_⟩) ?_
          rotate_left
          · (intro w hSw; go_simp; first | done | (with_reducible rfl))
          simp only [Act.put, A1, A2, A3, A4, A5, A6]
          refine yt (i := 6) (v := .agg (crv y).toArray) rfl (yieldsIf_load_mid (by rfl) 26 _ rfl _ _ rfl _ _ (fun w hSw => fl_range crv_len (hSw.rowGet k0m) HN0.out q y GQ.out) hdu.1 hdu.2 info26) (by assumption) ?_
          simp only [Act.put, A1, A2, A3, A4, A5, A6]
          refine yp (i := 7) (v := ?_) rfl (Or.inl ⟨by rfl, ?_⟩) ?_
          rotate_left
          · (intro w hSw; go_simp; first | done | (with_reducible rfl))
          simp only [Act.put, A1, A2, A3, A4, A5, A6]
          refine yp (i := 8) (v := ?_) rfl (Or.inl ⟨by rfl, ?_⟩) ?_
          rotate_left
          · (intro w hSw; go_simp; first | done | (with_reducible rfl))
          simp only [Act.put, A1, A2, A3, A4, A5, A6]
          refine yp (i := 9) (v := ?_) rfl (Or.inl ⟨by rfl, ?_⟩) ?_
          rotate_left
          · (intro w hSw; go_simp; first | done | (with_reducible rfl))
          simp only [Act.put, A1, A2, A3, A4, A5, A6]
          refine yt (i := 10) (v := .agg (crv x).toArray) rfl (yieldsIf_load_mid (by rfl) 26 _ rfl _ _ rfl _ _ (fun w hSw => fl_range crv_len (hSw.rowGet k0m) HN0.out c1 x GC.out) hdu.1 hdu.2 info26) (by assumption) ?_
          simp only [Act.put, A1, A2, A3, A4, A5, A6]
          refine wpAnyY_one (i := 11) (by kernel_rfl) rfl (fun K hK => ?_)
          go_simp
          refine (cmpC kb y x _ (HB.out.boxGet (List.mem_cons_of_mem _ HKB.out))).mono ?_
          rintro e wg ⟨rfl, hg⟩
          have HB2 := Keep.mk (HB.out.grown hg)
          refine hK.out _ _ (fun _ => HB2.out) ?_
          clear hK K hg HB hHeld
          have HB := HB2
          clear HB2
          have hHeld := HB.out
          refine yt (i := 12) (v := .bool bb) rfl (Or.inl ⟨by rfl, ?_⟩) (by assumption) ?_
          · (intro w hSw; have q := HBB.out; go_simp; first | done | rfl | (simp; done) | trace_state)
          simp only [Act.put, A1, A2, A3, A4, A5, A6]
          refine yp (i := 13) (v := .bool (!bb)) rfl (Or.inl ⟨by rfl, ?_⟩) ?_
          · (intro w hSw; go_simp; first | done | rfl | (simp; done) | trace_state)
          simp only [Act.put, A1, A2, A3, A4, A5, A6]
          refine wpAnyY_done (by kernel_rfl) ?_ _
          clear hHeld
          cases bb
          · have hge : x.pl ≤ y.pl := by have := of_decide_eq_false HBB.out; rw [cmpI] at this; omega
            have HI2 : Keep ((∀ (t : Nat) (x y : Cr), s0 ≤ t → t < (c1 + 1) → D[t]? = some x → D[p - t]? = some y → x.pl ≤ y.pl) ∧ (∀ (t : Nat) (x y : Cr), r ≤ t → t < r0 → D[t]? = some x → D[p - t]? = some y → y.pl < x.pl)) := ⟨⟨fun t u v h1 h2 hu hv => by
              have hh := HHI.out; have hl := HL.out; have hsr := HSR.out
              have q1 := HMA.out t c1 u x (by omega) (by omega) (by omega) hu GC.out
              have q2 := HMB.out q (p - t) y v (by omega) (by omega) (by omega) GQ.out hv
              omega, HI.out.2⟩⟩
            go_wp2_with fail
            go_roundw
            case rel => exact ⟨c1 + 1, r, by have := HHI.out; omega, by have := HHI.out; omega, by have := HHI.out; omega, rfl, rfl, HI2, HB⟩
            case measure => simp [intOf]; have := HHI.out; omega
          · have hge : y.pl < x.pl := by have := of_decide_eq_true HBB.out; rwa [cmpI] at this
            have HI2 : Keep ((∀ (t : Nat) (x y : Cr), s0 ≤ t → t < s → D[t]? = some x → D[p - t]? = some y → x.pl ≤ y.pl) ∧ (∀ (t : Nat) (x y : Cr), c1 ≤ t → t < r0 → D[t]? = some x → D[p - t]? = some y → y.pl < x.pl)) := ⟨⟨HI.out.1, fun t u v h1 h2 hu hv => by
              have hh := HHI.out; have hl := HL.out; have hsr := HSR.out
              have q1 := HMA.out c1 t x u (by omega) (by omega) (by omega) GC.out hu
              have q2 := HMB.out (p - t) q v y (by omega) (by omega) (by omega) hv GQ.out
              omega⟩⟩
            go_wp2_with fail
            go_roundw
            case rel => exact ⟨s, c1, HHI.out.2.2.1, HHI.out.1, by have := HHI.out; omega, rfl, rfl, HI2, HB⟩
            case measure => simp [intOf]; have := HHI.out; omega
      · have hlt1 : ¬ (s : Int) < (r : Int) := by omega
        obtain rfl : s = r := by omega
        obtain ⟨e, he⟩ : ∃ e, nn - s = e := ⟨_, rfl⟩
        have hew : IntKind.i64.wrap ((nn : Int) - (s : Int)) = ((e : Nat) : Int) := by have := HL.out; have := HSR.out; rw [IntKind.wrap_i64]; omega
        have HSE : Keep (a ≤ s ∧ s ≤ m ∧ m ≤ e ∧ e ≤ b ∧ s + e = nn ∧ s0 ≤ s ∧ s ≤ r0) := ⟨by have := HL.out; have := HSR.out; omega⟩
        obtain ⟨A1, A2, hA12, hA1⟩ : ∃ A1 A2, A = A1 ++ A2 ∧ a + A1.length = s := ⟨A.take (s - a), A.drop (s - a), (List.take_append_drop _ _).symm, by rw [List.length_take]; have := HL.out; have := HSE.out; omega⟩
        obtain ⟨B1, B2, hB12, hB1⟩ : ∃ B1 B2, B = B1 ++ B2 ∧ m + B1.length = e := ⟨B.take (e - m), B.drop (e - m), (List.take_append_drop _ _).symm, by rw [List.length_take]; have := HL.out; have := HSE.out; omega⟩
        have HLE : Keep (A1.length = s - a ∧ A2.length = m - s ∧ B1.length = e - m ∧ B2.length = b - e) := ⟨by
          have hl := HL.out
          rw [hA12, hB12, List.length_append, List.length_append] at hl
          have := HSE.out
          omega⟩
        have HGA : Keep ((∀ (t : Nat) x, A1[t]? = some x → D[a + t]? = some x) ∧ (∀ (t : Nat) x, A2[t]? = some x → D[s + t]? = some x) ∧ (∀ (t : Nat) x, B1[t]? = some x → D[m + t]? = some x) ∧ (∀ (t : Nat) x, B2[t]? = some x → D[e + t]? = some x)) := ⟨by
          have hl := HL.out; have hse := HSE.out; have hle := HLE.out
          refine ⟨fun t x hx => ?_, fun t x hx => ?_, fun t x hx => ?_, fun t x hx => ?_⟩
          · have ht := (List.getElem?_eq_some_iff.1 hx).1
            rw [HDA.out t (by omega), hA12, List.getElem?_append_left ht]; exact hx
          · have ht := (List.getElem?_eq_some_iff.1 hx).1
            have q := HDA.out (s - a + t) (by omega)
            rw [show a + (s - a + t) = s + t by omega, hA12, List.getElem?_append_right (by omega), show s - a + t - A1.length = t by omega] at q
            rw [q]; exact hx
          · have ht := (List.getElem?_eq_some_iff.1 hx).1
            rw [HDB.out t (by omega), hB12, List.getElem?_append_left ht]; exact hx
          · have ht := (List.getElem?_eq_some_iff.1 hx).1
            have q := HDB.out (e - m + t) (by omega)
            rw [show m + (e - m + t) = e + t by omega, hB12, List.getElem?_append_right (by omega), show e - m + t - B1.length = t by omega] at q
            rw [q]; exact hx⟩
        have H1 : Keep (∀ x ∈ A1, ∀ y ∈ B2, x.pl ≤ y.pl) := ⟨fun x hx y hy => by
          obtain ⟨i, hi, ei⟩ := List.mem_iff_getElem.1 hx
          obtain ⟨j, hj, ej⟩ := List.mem_iff_getElem.1 hy
          have dx := HGA.out.1 i x (by rw [List.getElem?_eq_getElem hi, ei])
          have dy := HGA.out.2.2.2 j y (by rw [List.getElem?_eq_getElem hj, ej])
          have hl := HL.out; have hse := HSE.out; have hle := HLE.out; have hsr := HSR.out
          obtain ⟨x', hx'⟩ : ∃ z, D[s - 1]? = some z := ⟨_, List.getElem?_eq_getElem (by rw [HLN.out]; omega)⟩
          obtain ⟨y', hy'⟩ : ∃ z, D[p - (s - 1)]? = some z := ⟨_, List.getElem?_eq_getElem (by rw [HLN.out]; omega)⟩
          have q1 := HMA.out (a + i) (s - 1) x x' (by omega) (by omega) (by omega) dx hx'
          have q2 := HI.out.1 (s - 1) x' y' (by omega) (by omega) hx' hy'
          have q3 := HMB.out (p - (s - 1)) (e + j) y' y (by omega) (by omega) (by omega) hy' dy
          omega⟩
        have H2 : Keep (∀ x ∈ A2, ∀ y ∈ B1, y.pl < x.pl) := ⟨fun x hx y hy => by
          obtain ⟨i, hi, ei⟩ := List.mem_iff_getElem.1 hx
          obtain ⟨j, hj, ej⟩ := List.mem_iff_getElem.1 hy
          have dx := HGA.out.2.1 i x (by rw [List.getElem?_eq_getElem hi, ei])
          have dy := HGA.out.2.2.1 j y (by rw [List.getElem?_eq_getElem hj, ej])
          have hl := HL.out; have hse := HSE.out; have hle := HLE.out; have hsr := HSR.out
          obtain ⟨x', hx'⟩ : ∃ z, D[s]? = some z := ⟨_, List.getElem?_eq_getElem (by rw [HLN.out]; omega)⟩
          obtain ⟨y', hy'⟩ : ∃ z, D[p - s]? = some z := ⟨_, List.getElem?_eq_getElem (by rw [HLN.out]; omega)⟩
          have q1 := HMA.out s (s + i) x' x (by omega) (by omega) (by omega) hx' dx
          have q2 := HI.out.2 s x' y' (by omega) (by omega) hx' hy'
          have q3 := HMB.out (m + j) (p - s) y y' (by omega) (by omega) (by omega) dy hy'
          omega⟩
        replace HB : Keep (Sep w0 wr (rowV 26 14 (sl g n c) n (fl crv (P ++ A1 ++ A2 ++ B1 ++ B2 ++ Q)) :: l)) := ⟨by
          have q := HB.out
          rw [← HD.out, hA12, hB12] at q
          simpa only [List.append_assoc] using q⟩
        have HLD : Keep ((P ++ A1 ++ A2 ++ B1 ++ B2 ++ Q).length = n) := ⟨by rw [← HLN.out, ← HD.out, hA12, hB12]; simp only [List.append_assoc]⟩
        have HRR : Keep (Ris (fun c : Cr => c.pl) (A1 ++ A2) ∧ Ris (fun c : Cr => c.pl) (B1 ++ B2)) := ⟨⟨by rw [← hA12]; exact HRA.out, by rw [← hB12]; exact HRB.out⟩⟩
        have HAB : Keep (A ++ B = A1 ++ A2 ++ (B1 ++ B2)) := ⟨by rw [hA12, hB12]⟩
        clear HI HGA hA12 hB12 hA1 hB1 hs hsr hr hlt he HDA HDB HMA HMB HRA HRB HLN HD
        as_aux_lemma =>
          obtain ⟨bc, hbc⟩ : ∃ b : Bool, decide (s < m ∧ m < e) = b := ⟨_, rfl⟩
          have HBC := Keep.mk hbc
          clear hbc
          go_upto_region 39 with fail
          go_cut [185] (fun sv wx => sv = .bool bc ∧ wx = wr)
          case first =>
            as_aux_lemma =>
              by_cases k1 : s < m
              · have d1 : (s : Int) < (m : Int) := by omega
                by_cases k2 : m < e
                · have d2 : (m : Int) < (e : Int) := by omega
                  have HE : Keep (bc = true) := ⟨by rw [← HBC.out]; exact decide_eq_true ⟨k1, k2⟩⟩
                  clear k1 k2
                  go_wp2_with fail
                  go_meet
                  exact ⟨by rw [HE.out], rfl⟩
                · have d2 : ¬ (m : Int) < (e : Int) := by omega
                  have HE : Keep (bc = false) := ⟨by rw [← HBC.out]; exact decide_eq_false (fun q => k2 q.2)⟩
                  clear k1 k2
                  go_wp2_with fail
                  go_meet
                  exact ⟨by rw [HE.out], rfl⟩
              · have d1 : ¬ (s : Int) < (m : Int) := by omega
                have HE : Keep (bc = false) := ⟨by rw [← HBC.out]; exact decide_eq_false (fun q => k1 q.1)⟩
                clear k1
                go_wp2_with fail
                go_meet
                exact ⟨by rw [HE.out], rfl⟩
          case rest =>
          rename World => wr
          obtain ⟨rfl, rfl⟩ := hcut
          go_upto_if 185 with fail
          go_cut [] (fun wx => Keep (Sep w0 wx (rowV 26 14 (sl g n c) n (fl crv (P ++ A1 ++ B1 ++ A2 ++ B2 ++ Q)) :: l)))
          case first =>
            as_aux_lemma =>
              have hle := HLE.out; have hse := HSE.out; have hl := HL.out
              cases bc
              · have HE : Keep (Sep w0 wr (rowV 26 14 (sl g n c) n (fl crv (P ++ A1 ++ B1 ++ A2 ++ B2 ++ Q)) :: l)) := ⟨by
                  have q := of_decide_eq_false HBC.out
                  by_cases k1 : s < m
                  · have eB : B1 = [] := List.length_eq_zero_iff.1 (by omega)
                    subst eB
                    exact (by simpa only [List.append_assoc, List.nil_append, List.append_nil, List.cons_append] using HB.out)
                  · have eA : A2 = [] := List.length_eq_zero_iff.1 (by omega)
                    subst eA
                    exact (by simpa only [List.append_assoc, List.nil_append, List.append_nil, List.cons_append] using HB.out)⟩
                clear hle hse hl HB
                go_wp2_with fail
                go_meet
                exact HE
              · obtain ⟨k1, k2⟩ := of_decide_eq_true HBC.out
                have HC := Keep.mk (rotC w0 wr l g n c s m e (cvC kb) (P ++ A1) A2 B1 (B2 ++ Q) (by rw [List.length_append]; omega) (by omega) (by omega) (by omega) (by omega) (by rw [← HLD.out]; simp only [List.append_assoc]) hl.2.2.2.1 (by simpa only [List.append_assoc, List.nil_append, List.append_nil, List.cons_append] using HB.out))
                clear hle hse hl k1 k2 HB
                go_wp2_with fail
                refine HC.out.mono ?_
                rintro e w1 ⟨rfl, S2⟩
                have HE : Keep (Sep w0 w1 (rowV 26 14 (sl g n c) n (fl crv (P ++ A1 ++ B1 ++ A2 ++ B2 ++ Q)) :: l)) := ⟨(by simpa only [List.append_assoc, List.nil_append, List.append_nil, List.cons_append] using S2)⟩
                clear S2 HC
                go_wp2_with fail
                go_meet
                exact HE
          case rest =>
          rename World => wd
          replace HB := hcut
          clear hcut
          as_aux_lemma =>
            clear HBC
            obtain ⟨bd, hbd⟩ : ∃ b : Bool, decide (a < s ∧ s < md) = b := ⟨_, rfl⟩
            have HBD := Keep.mk hbd
            clear hbd
            go_upto_region 41 with fail
            go_cut [199] (fun sv wx => sv = .bool bd ∧ wx = wd)
            case first =>
              as_aux_lemma =>
                by_cases k1 : a < s
                · have d1 : (a : Int) < (s : Int) := by omega
                  by_cases k2 : s < md
                  · have d2 : (s : Int) < (md : Int) := by omega
                    have HE : Keep (bd = true) := ⟨by rw [← HBD.out]; exact decide_eq_true ⟨k1, k2⟩⟩
                    clear k1 k2
                    go_wp2_with fail
                    go_meet
                    exact ⟨by rw [HE.out], rfl⟩
                  · have d2 : ¬ (s : Int) < (md : Int) := by omega
                    have HE : Keep (bd = false) := ⟨by rw [← HBD.out]; exact decide_eq_false (fun q => k2 q.2)⟩
                    clear k1 k2
                    go_wp2_with fail
                    go_meet
                    exact ⟨by rw [HE.out], rfl⟩
                · have d1 : ¬ (a : Int) < (s : Int) := by omega
                  have HE : Keep (bd = false) := ⟨by rw [← HBD.out]; exact decide_eq_false (fun q => k1 q.1)⟩
                  clear k1
                  go_wp2_with fail
                  go_meet
                  exact ⟨by rw [HE.out], rfl⟩
            case rest =>
            rename World => wd
            obtain ⟨rfl, rfl⟩ := hcut
            go_upto_if 199 with fail
            go_cut [] (fun wx => Keep (∃ M1, Ris (fun c : Cr => c.pl) M1 ∧ Stb (fun c : Cr => c.pl) (A1 ++ B1) M1 ∧ Sep w0 wx (rowV 26 14 (sl g n c) n (fl crv (P ++ M1 ++ A2 ++ B2 ++ Q)) :: l)))
            case first =>
              as_aux_lemma =>
                have hle := HLE.out; have hse := HSE.out; have hl := HL.out; have hsr := HSR.out
                cases bd
                · have HE : Keep (∃ M1, Ris (fun c : Cr => c.pl) M1 ∧ Stb (fun c : Cr => c.pl) (A1 ++ B1) M1 ∧ Sep w0 wd (rowV 26 14 (sl g n c) n (fl crv (P ++ M1 ++ A2 ++ B2 ++ Q)) :: l)) := ⟨by
                    have q := of_decide_eq_false HBD.out
                    by_cases k1 : a < s
                    · have eB : B1 = [] := List.length_eq_zero_iff.1 (by omega)
                      subst eB
                      exact ⟨A1, (Ris.app.1 HRR.out.1).1, by rw [List.append_nil]; exact Stb.refl _, (by simpa only [List.append_assoc, List.nil_append, List.append_nil, List.cons_append] using HB.out)⟩
                    · have eA : A1 = [] := List.length_eq_zero_iff.1 (by omega)
                      subst eA
                      exact ⟨B1, (Ris.app.1 HRR.out.2).1, Stb.refl _, (by simpa only [List.append_assoc, List.nil_append, List.append_nil, List.cons_append] using HB.out)⟩⟩
                  clear hle hse hl hsr HB
                  go_wp2_with fail
                  go_meet
                  exact HE
                · obtain ⟨k1, k2⟩ := of_decide_eq_true HBD.out
                  have HC := Keep.mk (HIH.out w0 wd l g n c kb a s md P A1 B1 (A2 ++ B2 ++ Q) (by omega) (by omega) (by omega) (by omega) (by omega) (by omega) (Ris.app.1 HRR.out.1).1 (Ris.app.1 HRR.out.2).1 (by rw [← HLD.out]; simp only [List.length_append]; omega) hl.2.2.2.1 HKB.out (by simpa only [List.append_assoc, List.nil_append, List.append_nil, List.cons_append] using HB.out))
                  clear hle hse hl hsr k1 k2 HB
                  go_wp2_with fail
                  refine HC.out.mono ?_
                  rintro e w1 ⟨rfl, M1, r1, r2, S2⟩
                  have HE : Keep (∃ M1, Ris (fun c : Cr => c.pl) M1 ∧ Stb (fun c : Cr => c.pl) (A1 ++ B1) M1 ∧ Sep w0 w1 (rowV 26 14 (sl g n c) n (fl crv (P ++ M1 ++ A2 ++ B2 ++ Q)) :: l)) := ⟨⟨M1, r1, r2, (by simpa only [List.append_assoc, List.nil_append, List.append_nil, List.cons_append] using S2)⟩⟩
                  clear S2 HC r1 r2
                  go_wp2_with fail
                  go_meet
                  exact HE
            case rest =>
            rename World => we
            obtain ⟨M1, m1, m2, S1⟩ := hcut.out
            have HM1 := Keep.mk (And.intro m1 m2)
            replace HB := Keep.mk S1
            clear hcut S1 m1 m2 HBD
            as_aux_lemma =>
              have HFIN : Keep (∀ w1 M2, Ris (fun c : Cr => c.pl) M2 → Stb (fun c : Cr => c.pl) (A2 ++ B2) M2 → Sep w0 w1 (rowV 26 14 (sl g n c) n (fl crv (P ++ M1 ++ M2 ++ Q)) :: l) → ∃ R : List Cr, Ris (fun c : Cr => c.pl) R ∧ Stb (fun c : Cr => c.pl) (A ++ B) R ∧ Sep w0 w1 (rowV 26 14 (sl g n c) n (fl crv (P ++ R ++ Q)) :: l)) := ⟨fun w1 M2 r1 r2 S => by
                obtain ⟨f1, f2⟩ := halves (key := (fun c : Cr => c.pl)) HRR.out.1 HRR.out.2 H1.out H2.out HM1.out.1 HM1.out.2 r1 r2
                exact ⟨M1 ++ M2, f1, by rw [HAB.out]; exact f2, (by simpa only [List.append_assoc, List.nil_append, List.append_nil, List.cons_append] using S)⟩⟩
              have hle := HLE.out; have hse := HSE.out; have hl := HL.out; have hsr := HSR.out
              have hml := HM1.out.2.len
              rw [List.length_append] at hml
              by_cases c1 : md < e
              · have d1 : (md : Int) < (e : Int) := by omega
                by_cases c2 : e < b
                · have d2 : (e : Int) < (b : Int) := by omega
                  have HC := Keep.mk (HIH.out w0 we l g n c kb md e b (P ++ M1) A2 B2 Q (by omega) (by rw [List.length_append]; omega) (by omega) (by omega) (by omega) (by omega) (Ris.app.1 HRR.out.1).2.1 (Ris.app.1 HRR.out.2).2.1 (by rw [← HLD.out]; simp only [List.length_append]; omega) hl.2.2.2.1 HKB.out (by simpa only [List.append_assoc, List.nil_append, List.append_nil, List.cons_append] using HB.out))
                  clear hle hse hl hsr c1 c2 HB hml
                  go_wp2_with fail
                  refine HC.out.mono ?_
                  rintro e w1 ⟨rfl, M2, r1, r2, S2⟩
                  have HE := Keep.mk (HFIN.out w1 M2 r1 r2 S2)
                  clear S2 HC r1 r2 HFIN
                  go_wp2_with fail
                  go_end0
                  exact ⟨rfl, by simpa only [List.append_assoc] using HE.out⟩
                · have d2 : ¬ (e : Int) < (b : Int) := by omega
                  have eB : B2 = [] := List.length_eq_zero_iff.1 (by omega)
                  have HE := Keep.mk (HFIN.out we A2 (Ris.app.1 HRR.out.1).2.1 (by rw [eB, List.append_nil]; exact Stb.refl _) (by have q := HB.out; rw [eB] at q; simpa only [List.append_assoc, List.nil_append] using q))
                  clear hle hse hl hsr c1 c2 HB hml HFIN
                  go_wp2_with fail
                  go_end0
                  exact ⟨rfl, by simpa only [List.append_assoc] using HE.out⟩
              · have d1 : ¬ (md : Int) < (e : Int) := by omega
                have eA : A2 = [] := List.length_eq_zero_iff.1 (by omega)
                have HE := Keep.mk (HFIN.out we B2 (Ris.app.1 HRR.out.2).2.1 (by rw [eA, List.nil_append]; exact Stb.refl _) (by have q := HB.out; rw [eA] at q; simpa only [List.append_assoc, List.nil_append] using q))
                clear hle hse hl hsr c1 HB hml HFIN
                go_wp2_with fail
                go_end0
                exact ⟨rfl, by simpa only [List.append_assoc] using HE.out⟩
theorem symC : ∀ N, SymCC N
  | 0 => fun w0 W l g n c kb a m b P A B Q hN _ _ _ hA _ => by omega
  | N + 1 => fun w0 W l g n c kb a m b P A B Q hN ha hm hb hA hB rA rB hn hn1 hkb h => by
    by_cases h1 : A.length = 1
    · obtain ⟨x, rfl⟩ := List.length_eq_one_iff.1 h1
      exact sym1C w0 W l g n c kb a m b P B Q x ha (by simpa using hm) hb rB hn hn1 hkb h
    · by_cases h2 : B.length = 1
      · obtain ⟨y, rfl⟩ := List.length_eq_one_iff.1 h2
        exact sym2C w0 W l g n c kb a m b P A Q y ha hm (by simpa using hb) (by omega) rA hn hn1 hkb h
      · exact sym3C N (symC N) w0 W l g n c kb a m b P A B Q hN ha hm hb (by omega) (by omega) rA rB hn hn1 hkb h
def SymCS (N : Nat) : Prop := ∀ (w0 W : World) (l : List As) (g n c kb a m b : Nat) (P A B Q : List Sh), A.length + B.length ≤ N → P.length = a → a + A.length = m → m + B.length = b → 0 < A.length → 0 < B.length → Ris (fun c : Sh => c.id) A → Ris (fun c : Sh => c.id) B → (P ++ A ++ B ++ Q).length = n → n ≤ 281474976710656 → boxA kb [nvS] 91 ∈ l → Sep w0 W (rowV 46 7 (sl g n c) n (fl shv (P ++ A ++ B ++ Q)) :: l) →
    Calls Tryz.prog 88 #[sl g n c, iv a, iv m, iv b, cvS kb] W fun e W' => e = .returned (.tuple #[]) ∧ ∃ R : List Sh, Ris (fun c : Sh => c.id) R ∧ Stb (fun c : Sh => c.id) (A ++ B) R ∧ Sep w0 W' (rowV 46 7 (sl g n c) n (fl shv (P ++ R ++ Q)) :: l)
set_option maxRecDepth 100000 in
set_option maxHeartbeats 16000000 in
theorem sym3S (N : Nat) (IH : SymCS N) (w0 W : World) (l : List As) (g n c kb a m b : Nat) (P A B Q : List Sh) (hN : A.length + B.length ≤ N + 1) (ha : P.length = a) (hm : a + A.length = m) (hb : m + B.length = b) (hA2 : 2 ≤ A.length) (hB2 : 2 ≤ B.length) (hA : Ris (fun c : Sh => c.id) A) (hB : Ris (fun c : Sh => c.id) B) (hn : (P ++ A ++ B ++ Q).length = n) (hn1 : n ≤ 281474976710656) (hkb : boxA kb [nvS] 91 ∈ l) (h : Sep w0 W (rowV 46 7 (sl g n c) n (fl shv (P ++ A ++ B ++ Q)) :: l)) :
    Calls Tryz.prog 88 #[sl g n c, iv a, iv m, iv b, cvS kb] W fun e W' => e = .returned (.tuple #[]) ∧ ∃ R : List Sh, Ris (fun c : Sh => c.id) R ∧ Stb (fun c : Sh => c.id) (A ++ B) R ∧ Sep w0 W' (rowV 46 7 (sl g n c) n (fl shv (P ++ R ++ Q)) :: l) := by
  have HIH := Keep.mk IH
  have HKB := Keep.mk hkb
  have hln : b ≤ n := by simp only [List.length_append] at hn; omega
  obtain ⟨D, hD⟩ : ∃ D, P ++ A ++ B ++ Q = D := ⟨_, rfl⟩
  have HB0 : Keep (Sep w0 W (rowV 46 7 (sl g n c) n (fl shv (D)) :: l)) := ⟨by rw [← hD]; exact h⟩
  have HLN : Keep (D.length = n) := ⟨by rw [← hD]; exact hn⟩
  have HD := Keep.mk hD
  have HN0 : Keep (0 < n) := ⟨by omega⟩
  have HDA : Keep (∀ (t : Nat), t < A.length → D[a + t]? = A[t]?) := ⟨fun t ht => by
    rw [← hD, List.append_assoc, List.append_assoc, List.getElem?_append_right (by omega), show a + t - P.length = t by omega, List.getElem?_append_left ht]⟩
  have HDB : Keep (∀ (t : Nat), t < B.length → D[m + t]? = B[t]?) := ⟨fun t ht => by
    rw [← hD, List.append_assoc, List.getElem?_append_right (by rw [List.length_append]; omega), show m + t - (P ++ A).length = t by rw [List.length_append]; omega, List.getElem?_append_left ht]⟩
  have HMA : Keep (∀ (i j : Nat) (x y : Sh), a ≤ i → i ≤ j → j < m → D[i]? = some x → D[j]? = some y → x.id ≤ y.id) := ⟨fun i j x y h1 h2 h3 hx hy => by
    have e1 := HDA.out (i - a) (by omega)
    have e2 := HDA.out (j - a) (by omega)
    rw [show a + (i - a) = i by omega, hx] at e1
    rw [show a + (j - a) = j by omega, hy] at e2
    exact Ris.le_of (key := (fun c : Sh => c.id)) hA (i := i - a) (j := j - a) (by omega) e1.symm e2.symm⟩
  have HMB : Keep (∀ (i j : Nat) (x y : Sh), m ≤ i → i ≤ j → j < b → D[i]? = some x → D[j]? = some y → x.id ≤ y.id) := ⟨fun i j x y h1 h2 h3 hx hy => by
    have e1 := HDB.out (i - m) (by omega)
    have e2 := HDB.out (j - m) (by omega)
    rw [show m + (i - m) = i by omega, hx] at e1
    rw [show m + (j - m) = j by omega, hy] at e2
    exact Ris.le_of (key := (fun c : Sh => c.id)) hB (i := i - m) (j := j - m) (by omega) e1.symm e2.symm⟩
  have HRA := Keep.mk hA
  have HRB := Keep.mk hB
  obtain ⟨du, hdu⟩ := under46
  have ec := ecmpS
  obtain ⟨la, hla⟩ : ∃ la, A.length = la := ⟨_, rfl⟩
  obtain ⟨lb, hlb⟩ : ∃ lb, B.length = lb := ⟨_, rfl⟩
  have hw0 : IntKind.i64.wrap ((m : Int) - (a : Int)) = ((la : Nat) : Int) := by rw [IntKind.wrap_i64]; omega
  have hw0' : ((la : Int) == 1) = false := by simp; omega
  have hw0'' : ¬ (la : Int) = 1 := by omega
  have hw1 : IntKind.i64.wrap ((b : Int) - (m : Int)) = ((lb : Nat) : Int) := by rw [IntKind.wrap_i64]; omega
  have hw1' : ((lb : Int) == 1) = false := by simp; omega
  have hw1'' : ¬ (lb : Int) = 1 := by omega
  obtain ⟨ij, hij⟩ : ∃ ij, a + b = ij := ⟨_, rfl⟩
  obtain ⟨md, hmd⟩ : ∃ h, ij / 2 = h := ⟨_, rfl⟩
  have hm1 : IntKind.i64.wrap ((a : Int) + (b : Int)) = ((ij : Nat) : Int) := by rw [IntKind.wrap_i64]; omega
  have hm2 : IntKind.u64.wrap ((ij : Nat) : Int) = ((ij : Nat) : Int) := by rw [IntKind.wrap_u64]; omega
  have hm3 : ((ij : Nat) : Int) / 2 = ((md : Nat) : Int) := by omega
  have hm3b : ((ij : Nat) : Int) >>> 1 = ((md : Nat) : Int) := by rw [← hm3]; exact Int.shiftRight_eq_div_pow _ 1
  have hm4 : IntKind.u64.wrap ((md : Nat) : Int) = ((md : Nat) : Int) := by rw [IntKind.wrap_u64]; omega
  have hm5 : IntKind.i64.wrap ((md : Nat) : Int) = ((md : Nat) : Int) := by rw [IntKind.wrap_i64]; omega
  obtain ⟨nn, hnn⟩ : ∃ nn, md + m = nn := ⟨_, rfl⟩
  have hw2 : IntKind.i64.wrap ((md : Int) + (m : Int)) = ((nn : Nat) : Int) := by rw [IntKind.wrap_i64]; omega
  obtain ⟨p, hp⟩ : ∃ p, nn - 1 = p := ⟨_, rfl⟩
  have hw3 : IntKind.i64.wrap ((nn : Int) - 1) = ((p : Nat) : Int) := by rw [IntKind.wrap_i64]; omega
  obtain ⟨s0, hs0⟩ : ∃ s0, (if md < m then nn - b else a) = s0 := ⟨_, rfl⟩
  obtain ⟨r0, hr0⟩ : ∃ r0, (if md < m then md else m) = r0 := ⟨_, rfl⟩
  have HL : Keep (a + la = m ∧ m + lb = b ∧ b ≤ n ∧ n ≤ 281474976710656 ∧ P.length = a ∧ A.length = la ∧ B.length = lb ∧ 2 ≤ la ∧ 2 ≤ lb ∧ la + lb ≤ N + 1) := ⟨by omega⟩
  have HSR : Keep (a ≤ s0 ∧ s0 ≤ r0 ∧ r0 ≤ m ∧ r0 ≤ md ∧ md + m = nn ∧ p + 1 = nn ∧ a + 1 < md ∧ md + 1 < b ∧ nn ≤ b + s0 ∧ ((md < m ∧ s0 + b = nn ∧ r0 = md) ∨ (m ≤ md ∧ s0 = a ∧ r0 = m))) := ⟨by
    by_cases hx : md < m
    · rw [if_pos hx] at hs0 hr0
      omega
    · rw [if_neg hx] at hs0 hr0
      omega⟩
  clear h hD ha hm hb hA hB hn hkb hln hla hlb hA2 hB2 hij hmd hnn hp hs0 hr0 hN IH
  go_enter Tryz.func88, Tryz.ntmps88
  go_upto_if 140 with fail
  go_cut [20, 21] (fun u20 u21 wx => u20 = iv s0 ∧ u21 = iv r0 ∧ wx = W)
  case first =>
    as_aux_lemma =>
      rcases HSR.out.2.2.2.2.2.2.2.2.2 with ⟨q1, q2, q3⟩ | ⟨q1, q2, q3⟩
      · have t1 : (md : Int) < (m : Int) := by omega
        have t2 : IntKind.i64.wrap ((nn : Int) - (b : Int)) = ((s0 : Nat) : Int) := by have := HL.out; have hz := HSR.out; rw [IntKind.wrap_i64]; omega
        have HQ := Keep.mk q3
        clear q1 q2 q3
        go_wp2_with fail
        go_meet
        exact ⟨rfl, by rw [HQ.out], rfl⟩
      · have t1 : ¬ (md : Int) < (m : Int) := by omega
        have HQ := Keep.mk (And.intro q2 q3)
        clear q1 q2 q3
        go_wp2_with fail
        go_meet
        exact ⟨by rw [HQ.out.1], by rw [HQ.out.2], rfl⟩
  case rest =>
  rename World => wc
  obtain ⟨rfl, rfl, rfl⟩ := hcut
  clear hw0 hw0' hw0'' hw1 hw1' hw1'' hm1 hm2 hm3 hm3b hm4 hm5 hw2
  as_aux_lemma =>
    go_wp2_with fail
    go_loopw [20, 21] (fun u20 u21 wr => ∃ s r : Nat, s0 ≤ s ∧ s ≤ r ∧ r ≤ r0 ∧ u20 = iv s ∧ u21 = iv r ∧ Keep ((∀ (t : Nat) (x y : Sh), s0 ≤ t → t < s → D[t]? = some x → D[p - t]? = some y → x.id ≤ y.id) ∧ (∀ (t : Nat) (x y : Sh), r ≤ t → t < r0 → D[t]? = some x → D[p - t]? = some y → y.id < x.id)) ∧ Keep (Sep w0 wr (rowV 46 7 (sl g n c) n (fl shv (D)) :: l))) (fun u20 u21 _ => (intOf u21 - intOf u20).toNat)
    case atStart => exact ⟨s0, r0, Nat.le_refl _, HSR.out.2.1, Nat.le_refl _, rfl, rfl, ⟨⟨fun t x y h1 h2 => by omega, fun t x y h1 h2 => by omega⟩⟩, HB0⟩
    case round =>
      clear HB0 hw3
      obtain ⟨s, r, hs, hsr, hr, rfl, rfl, HI, HB⟩ := hrel
      by_cases hlt : s < r
      · have hlt1 : (s : Int) < (r : Int) := by omega
        have hbn := HL.out
        have hbs := HSR.out
        obtain ⟨ij, hij⟩ : ∃ ij, s + r = ij := ⟨_, rfl⟩
        obtain ⟨c1, hc1⟩ : ∃ h, ij / 2 = h := ⟨_, rfl⟩
        have hm1 : IntKind.i64.wrap ((s : Int) + (r : Int)) = ((ij : Nat) : Int) := by rw [IntKind.wrap_i64]; omega
        have hm2 : IntKind.u64.wrap ((ij : Nat) : Int) = ((ij : Nat) : Int) := by rw [IntKind.wrap_u64]; omega
        have hm3 : ((ij : Nat) : Int) / 2 = ((c1 : Nat) : Int) := by omega
        have hm3b : ((ij : Nat) : Int) >>> 1 = ((c1 : Nat) : Int) := by rw [← hm3]; exact Int.shiftRight_eq_div_pow _ 1
        have hm4 : IntKind.u64.wrap ((c1 : Nat) : Int) = ((c1 : Nat) : Int) := by rw [IntKind.wrap_u64]; omega
        have hm5 : IntKind.i64.wrap ((c1 : Nat) : Int) = ((c1 : Nat) : Int) := by rw [IntKind.wrap_i64]; omega
        obtain ⟨q, hq⟩ : ∃ q, p - c1 = q := ⟨_, rfl⟩
        have Hc1 : Keep (c1 < n) := ⟨by omega⟩
        have Hq : Keep (q < n) := ⟨by omega⟩
        have hqw : IntKind.i64.wrap ((p : Int) - (c1 : Int)) = ((q : Nat) : Int) := by rw [IntKind.wrap_i64]; omega
        obtain ⟨x, hx⟩ : ∃ x, D[c1]? = some x := ⟨_, List.getElem?_eq_getElem (by rw [HLN.out]; exact Hc1.out)⟩
        obtain ⟨y, hy⟩ : ∃ y, D[q]? = some y := ⟨_, List.getElem?_eq_getElem (by rw [HLN.out]; exact Hq.out)⟩
        have GC := Keep.mk hx
        have GQ := Keep.mk hy
        obtain ⟨bb, hbb⟩ : ∃ bb, decide (Lib.compareInt y.id x.id < 0) = bb := ⟨_, rfl⟩
        have HBB := Keep.mk hbb
        have HHI : Keep (s ≤ c1 ∧ c1 < r ∧ s0 ≤ s ∧ r ≤ r0 ∧ p - c1 = q) := ⟨by omega⟩
        have hh1 : IntKind.i64.wrap ((c1 : Int) + 1) = ((c1 + 1 : Nat) : Int) := by rw [IntKind.wrap_i64]; omega
        have hc1a : (0 : Int) ≤ (c1 : Int) := by omega
        have hc1b : (c1 : Int) < (n : Int) := by have := Hc1.out; omega
        have hc1c : ((c1 : Nat) : Int).toNat = c1 := by omega
        have hqa : (0 : Int) ≤ (q : Int) := by omega
        have hqb : (q : Int) < (n : Int) := by have := Hq.out; omega
        have hqc : ((q : Nat) : Int).toNat = q := by omega
        clear hbb hx hy hij hc1 hbn hbs hs hr hsr hlt hq
        as_aux_lemma =>
          go_wp2_with fail
          refine region_Y (S := fun w' => Sep w0 w' (rowV 46 7 (sl g n c) n (fl shv (D)) :: l)) [] (by kernel_rfl) ?_
          obtain ⟨W0, hW0⟩ : ∃ W_, wr.drew = W_ := ⟨_, rfl⟩
          replace HB := Keep.mk (HB.out.grown (gr_drew _ none))
          rw [hW0] at HB ⊢
          clear hW0
          have hHeld : (fun w' => Sep w0 w' (rowV 46 7 (sl g n c) n (fl shv (D)) :: l)) W0 := HB.out
          refine yp (i := 0) (v := ?_) rfl (Or.inl ⟨by rfl, ?_⟩) ?_
          rotate_left
          · (intro w hSw; go_simp; first | done | (with_reducible rfl))
          simp only [Act.put, A1, A3, A4, A5, A6]
          refine yp (i := 1) (v := ?_) rfl (Or.inl ⟨by rfl, ?_⟩) ?_
          rotate_left
          · (intro w hSw; go_simp; first | done | (with_reducible rfl))
          simp only [Act.put, A1, A2, A3, A4, A5, A6]
          refine yp (i := 2) (v := ?_) rfl (Or.inl ⟨by rfl, ?_⟩) ?_
          rotate_left
          · (intro w hSw; go_simp; first | done | (with_reducible rfl))
          simp only [Act.put, A1, A2, A3, A4, A5, A6]
          refine yp (i := 3) (v := ?_) rfl (Or.inl ⟨by rfl, ?_⟩) ?_
          rotate_left
          · (intro w hSw; go_simp; first | done | (with_reducible rfl))
          simp only [Act.put, A1, A2, A3, A4, A5, A6]
          refine yp (i := 4) (v := ?_) rfl (Or.inl ⟨by rfl, ?_⟩) ?_
          rotate_left
          · (intro w hSw; go_simp; first | done | (with_reducible rfl))
          simp only [Act.put, A1, A2, A3, A4, A5, A6]
          refine yp (i := 5) (v := ?_) rfl (Or.inl ⟨by rfl, ?_⟩) ?_
          rotate_left
          · (intro w hSw; go_simp; first | done | (with_reducible rfl))
          simp only [Act.put, A1, A2, A3, A4, A5, A6]
          refine yt (i := 6) (v := .agg (shv y).toArray) rfl (yieldsIf_load_mid (by rfl) 46 _ rfl _ _ rfl _ _ (fun w hSw => fl_range shv_len (hSw.rowGet k0m) HN0.out q y GQ.out) hdu.1 hdu.2 info46) (by assumption) ?_
          simp only [Act.put, A1, A2, A3, A4, A5, A6]
          refine yp (i := 7) (v := ?_) rfl (Or.inl ⟨by rfl, ?_⟩) ?_
          rotate_left
          · (intro w hSw; go_simp; first | done | (with_reducible rfl))
          simp only [Act.put, A1, A2, A3, A4, A5, A6]
          refine yp (i := 8) (v := ?_) rfl (Or.inl ⟨by rfl, ?_⟩) ?_
          rotate_left
          · (intro w hSw; go_simp; first | done | (with_reducible rfl))
          simp only [Act.put, A1, A2, A3, A4, A5, A6]
          refine yp (i := 9) (v := ?_) rfl (Or.inl ⟨by rfl, ?_⟩) ?_
          rotate_left
          · (intro w hSw; go_simp; first | done | (with_reducible rfl))
          simp only [Act.put, A1, A2, A3, A4, A5, A6]
          refine yt (i := 10) (v := .agg (shv x).toArray) rfl (yieldsIf_load_mid (by rfl) 46 _ rfl _ _ rfl _ _ (fun w hSw => fl_range shv_len (hSw.rowGet k0m) HN0.out c1 x GC.out) hdu.1 hdu.2 info46) (by assumption) ?_
          simp only [Act.put, A1, A2, A3, A4, A5, A6]
          refine wpAnyY_one (i := 11) (by kernel_rfl) rfl (fun K hK => ?_)
          go_simp
          refine (cmpS kb y x _ (HB.out.boxGet (List.mem_cons_of_mem _ HKB.out))).mono ?_
          rintro e wg ⟨rfl, hg⟩
          have HB2 := Keep.mk (HB.out.grown hg)
          refine hK.out _ _ (fun _ => HB2.out) ?_
          clear hK K hg HB hHeld
          have HB := HB2
          clear HB2
          have hHeld := HB.out
          refine yt (i := 12) (v := .bool bb) rfl (Or.inl ⟨by rfl, ?_⟩) (by assumption) ?_
          · (intro w hSw; have q := HBB.out; go_simp; first | done | rfl | (simp; done) | trace_state)
          simp only [Act.put, A1, A2, A3, A4, A5, A6]
          refine yp (i := 13) (v := .bool (!bb)) rfl (Or.inl ⟨by rfl, ?_⟩) ?_
          · (intro w hSw; go_simp; first | done | rfl | (simp; done) | trace_state)
          simp only [Act.put, A1, A2, A3, A4, A5, A6]
          refine wpAnyY_done (by kernel_rfl) ?_ _
          clear hHeld
          cases bb
          · have hge : x.id ≤ y.id := by have := of_decide_eq_false HBB.out; rw [cmpI] at this; omega
            have HI2 : Keep ((∀ (t : Nat) (x y : Sh), s0 ≤ t → t < (c1 + 1) → D[t]? = some x → D[p - t]? = some y → x.id ≤ y.id) ∧ (∀ (t : Nat) (x y : Sh), r ≤ t → t < r0 → D[t]? = some x → D[p - t]? = some y → y.id < x.id)) := ⟨⟨fun t u v h1 h2 hu hv => by
              have hh := HHI.out; have hl := HL.out; have hsr := HSR.out
              have q1 := HMA.out t c1 u x (by omega) (by omega) (by omega) hu GC.out
              have q2 := HMB.out q (p - t) y v (by omega) (by omega) (by omega) GQ.out hv
              omega, HI.out.2⟩⟩
            go_wp2_with fail
            go_roundw
            case rel => exact ⟨c1 + 1, r, by have := HHI.out; omega, by have := HHI.out; omega, by have := HHI.out; omega, rfl, rfl, HI2, HB⟩
            case measure => simp [intOf]; have := HHI.out; omega
          · have hge : y.id < x.id := by have := of_decide_eq_true HBB.out; rwa [cmpI] at this
            have HI2 : Keep ((∀ (t : Nat) (x y : Sh), s0 ≤ t → t < s → D[t]? = some x → D[p - t]? = some y → x.id ≤ y.id) ∧ (∀ (t : Nat) (x y : Sh), c1 ≤ t → t < r0 → D[t]? = some x → D[p - t]? = some y → y.id < x.id)) := ⟨⟨HI.out.1, fun t u v h1 h2 hu hv => by
              have hh := HHI.out; have hl := HL.out; have hsr := HSR.out
              have q1 := HMA.out c1 t x u (by omega) (by omega) (by omega) GC.out hu
              have q2 := HMB.out (p - t) q v y (by omega) (by omega) (by omega) hv GQ.out
              omega⟩⟩
            go_wp2_with fail
            go_roundw
            case rel => exact ⟨s, c1, HHI.out.2.2.1, HHI.out.1, by have := HHI.out; omega, rfl, rfl, HI2, HB⟩
            case measure => simp [intOf]; have := HHI.out; omega
      · have hlt1 : ¬ (s : Int) < (r : Int) := by omega
        obtain rfl : s = r := by omega
        obtain ⟨e, he⟩ : ∃ e, nn - s = e := ⟨_, rfl⟩
        have hew : IntKind.i64.wrap ((nn : Int) - (s : Int)) = ((e : Nat) : Int) := by have := HL.out; have := HSR.out; rw [IntKind.wrap_i64]; omega
        have HSE : Keep (a ≤ s ∧ s ≤ m ∧ m ≤ e ∧ e ≤ b ∧ s + e = nn ∧ s0 ≤ s ∧ s ≤ r0) := ⟨by have := HL.out; have := HSR.out; omega⟩
        obtain ⟨A1, A2, hA12, hA1⟩ : ∃ A1 A2, A = A1 ++ A2 ∧ a + A1.length = s := ⟨A.take (s - a), A.drop (s - a), (List.take_append_drop _ _).symm, by rw [List.length_take]; have := HL.out; have := HSE.out; omega⟩
        obtain ⟨B1, B2, hB12, hB1⟩ : ∃ B1 B2, B = B1 ++ B2 ∧ m + B1.length = e := ⟨B.take (e - m), B.drop (e - m), (List.take_append_drop _ _).symm, by rw [List.length_take]; have := HL.out; have := HSE.out; omega⟩
        have HLE : Keep (A1.length = s - a ∧ A2.length = m - s ∧ B1.length = e - m ∧ B2.length = b - e) := ⟨by
          have hl := HL.out
          rw [hA12, hB12, List.length_append, List.length_append] at hl
          have := HSE.out
          omega⟩
        have HGA : Keep ((∀ (t : Nat) x, A1[t]? = some x → D[a + t]? = some x) ∧ (∀ (t : Nat) x, A2[t]? = some x → D[s + t]? = some x) ∧ (∀ (t : Nat) x, B1[t]? = some x → D[m + t]? = some x) ∧ (∀ (t : Nat) x, B2[t]? = some x → D[e + t]? = some x)) := ⟨by
          have hl := HL.out; have hse := HSE.out; have hle := HLE.out
          refine ⟨fun t x hx => ?_, fun t x hx => ?_, fun t x hx => ?_, fun t x hx => ?_⟩
          · have ht := (List.getElem?_eq_some_iff.1 hx).1
            rw [HDA.out t (by omega), hA12, List.getElem?_append_left ht]; exact hx
          · have ht := (List.getElem?_eq_some_iff.1 hx).1
            have q := HDA.out (s - a + t) (by omega)
            rw [show a + (s - a + t) = s + t by omega, hA12, List.getElem?_append_right (by omega), show s - a + t - A1.length = t by omega] at q
            rw [q]; exact hx
          · have ht := (List.getElem?_eq_some_iff.1 hx).1
            rw [HDB.out t (by omega), hB12, List.getElem?_append_left ht]; exact hx
          · have ht := (List.getElem?_eq_some_iff.1 hx).1
            have q := HDB.out (e - m + t) (by omega)
            rw [show m + (e - m + t) = e + t by omega, hB12, List.getElem?_append_right (by omega), show e - m + t - B1.length = t by omega] at q
            rw [q]; exact hx⟩
        have H1 : Keep (∀ x ∈ A1, ∀ y ∈ B2, x.id ≤ y.id) := ⟨fun x hx y hy => by
          obtain ⟨i, hi, ei⟩ := List.mem_iff_getElem.1 hx
          obtain ⟨j, hj, ej⟩ := List.mem_iff_getElem.1 hy
          have dx := HGA.out.1 i x (by rw [List.getElem?_eq_getElem hi, ei])
          have dy := HGA.out.2.2.2 j y (by rw [List.getElem?_eq_getElem hj, ej])
          have hl := HL.out; have hse := HSE.out; have hle := HLE.out; have hsr := HSR.out
          obtain ⟨x', hx'⟩ : ∃ z, D[s - 1]? = some z := ⟨_, List.getElem?_eq_getElem (by rw [HLN.out]; omega)⟩
          obtain ⟨y', hy'⟩ : ∃ z, D[p - (s - 1)]? = some z := ⟨_, List.getElem?_eq_getElem (by rw [HLN.out]; omega)⟩
          have q1 := HMA.out (a + i) (s - 1) x x' (by omega) (by omega) (by omega) dx hx'
          have q2 := HI.out.1 (s - 1) x' y' (by omega) (by omega) hx' hy'
          have q3 := HMB.out (p - (s - 1)) (e + j) y' y (by omega) (by omega) (by omega) hy' dy
          omega⟩
        have H2 : Keep (∀ x ∈ A2, ∀ y ∈ B1, y.id < x.id) := ⟨fun x hx y hy => by
          obtain ⟨i, hi, ei⟩ := List.mem_iff_getElem.1 hx
          obtain ⟨j, hj, ej⟩ := List.mem_iff_getElem.1 hy
          have dx := HGA.out.2.1 i x (by rw [List.getElem?_eq_getElem hi, ei])
          have dy := HGA.out.2.2.1 j y (by rw [List.getElem?_eq_getElem hj, ej])
          have hl := HL.out; have hse := HSE.out; have hle := HLE.out; have hsr := HSR.out
          obtain ⟨x', hx'⟩ : ∃ z, D[s]? = some z := ⟨_, List.getElem?_eq_getElem (by rw [HLN.out]; omega)⟩
          obtain ⟨y', hy'⟩ : ∃ z, D[p - s]? = some z := ⟨_, List.getElem?_eq_getElem (by rw [HLN.out]; omega)⟩
          have q1 := HMA.out s (s + i) x' x (by omega) (by omega) (by omega) hx' dx
          have q2 := HI.out.2 s x' y' (by omega) (by omega) hx' hy'
          have q3 := HMB.out (m + j) (p - s) y y' (by omega) (by omega) (by omega) dy hy'
          omega⟩
        replace HB : Keep (Sep w0 wr (rowV 46 7 (sl g n c) n (fl shv (P ++ A1 ++ A2 ++ B1 ++ B2 ++ Q)) :: l)) := ⟨by
          have q := HB.out
          rw [← HD.out, hA12, hB12] at q
          simpa only [List.append_assoc] using q⟩
        have HLD : Keep ((P ++ A1 ++ A2 ++ B1 ++ B2 ++ Q).length = n) := ⟨by rw [← HLN.out, ← HD.out, hA12, hB12]; simp only [List.append_assoc]⟩
        have HRR : Keep (Ris (fun c : Sh => c.id) (A1 ++ A2) ∧ Ris (fun c : Sh => c.id) (B1 ++ B2)) := ⟨⟨by rw [← hA12]; exact HRA.out, by rw [← hB12]; exact HRB.out⟩⟩
        have HAB : Keep (A ++ B = A1 ++ A2 ++ (B1 ++ B2)) := ⟨by rw [hA12, hB12]⟩
        clear HI HGA hA12 hB12 hA1 hB1 hs hsr hr hlt he HDA HDB HMA HMB HRA HRB HLN HD
        as_aux_lemma =>
          obtain ⟨bc, hbc⟩ : ∃ b : Bool, decide (s < m ∧ m < e) = b := ⟨_, rfl⟩
          have HBC := Keep.mk hbc
          clear hbc
          go_upto_region 39 with fail
          go_cut [185] (fun sv wx => sv = .bool bc ∧ wx = wr)
          case first =>
            as_aux_lemma =>
              by_cases k1 : s < m
              · have d1 : (s : Int) < (m : Int) := by omega
                by_cases k2 : m < e
                · have d2 : (m : Int) < (e : Int) := by omega
                  have HE : Keep (bc = true) := ⟨by rw [← HBC.out]; exact decide_eq_true ⟨k1, k2⟩⟩
                  clear k1 k2
                  go_wp2_with fail
                  go_meet
                  exact ⟨by rw [HE.out], rfl⟩
                · have d2 : ¬ (m : Int) < (e : Int) := by omega
                  have HE : Keep (bc = false) := ⟨by rw [← HBC.out]; exact decide_eq_false (fun q => k2 q.2)⟩
                  clear k1 k2
                  go_wp2_with fail
                  go_meet
                  exact ⟨by rw [HE.out], rfl⟩
              · have d1 : ¬ (s : Int) < (m : Int) := by omega
                have HE : Keep (bc = false) := ⟨by rw [← HBC.out]; exact decide_eq_false (fun q => k1 q.1)⟩
                clear k1
                go_wp2_with fail
                go_meet
                exact ⟨by rw [HE.out], rfl⟩
          case rest =>
          rename World => wr
          obtain ⟨rfl, rfl⟩ := hcut
          go_upto_if 185 with fail
          go_cut [] (fun wx => Keep (Sep w0 wx (rowV 46 7 (sl g n c) n (fl shv (P ++ A1 ++ B1 ++ A2 ++ B2 ++ Q)) :: l)))
          case first =>
            as_aux_lemma =>
              have hle := HLE.out; have hse := HSE.out; have hl := HL.out
              cases bc
              · have HE : Keep (Sep w0 wr (rowV 46 7 (sl g n c) n (fl shv (P ++ A1 ++ B1 ++ A2 ++ B2 ++ Q)) :: l)) := ⟨by
                  have q := of_decide_eq_false HBC.out
                  by_cases k1 : s < m
                  · have eB : B1 = [] := List.length_eq_zero_iff.1 (by omega)
                    subst eB
                    exact (by simpa only [List.append_assoc, List.nil_append, List.append_nil, List.cons_append] using HB.out)
                  · have eA : A2 = [] := List.length_eq_zero_iff.1 (by omega)
                    subst eA
                    exact (by simpa only [List.append_assoc, List.nil_append, List.append_nil, List.cons_append] using HB.out)⟩
                clear hle hse hl HB
                go_wp2_with fail
                go_meet
                exact HE
              · obtain ⟨k1, k2⟩ := of_decide_eq_true HBC.out
                have HC := Keep.mk (rotS w0 wr l g n c s m e (cvS kb) (P ++ A1) A2 B1 (B2 ++ Q) (by rw [List.length_append]; omega) (by omega) (by omega) (by omega) (by omega) (by rw [← HLD.out]; simp only [List.append_assoc]) hl.2.2.2.1 (by simpa only [List.append_assoc, List.nil_append, List.append_nil, List.cons_append] using HB.out))
                clear hle hse hl k1 k2 HB
                go_wp2_with fail
                refine HC.out.mono ?_
                rintro e w1 ⟨rfl, S2⟩
                have HE : Keep (Sep w0 w1 (rowV 46 7 (sl g n c) n (fl shv (P ++ A1 ++ B1 ++ A2 ++ B2 ++ Q)) :: l)) := ⟨(by simpa only [List.append_assoc, List.nil_append, List.append_nil, List.cons_append] using S2)⟩
                clear S2 HC
                go_wp2_with fail
                go_meet
                exact HE
          case rest =>
          rename World => wd
          replace HB := hcut
          clear hcut
          as_aux_lemma =>
            clear HBC
            obtain ⟨bd, hbd⟩ : ∃ b : Bool, decide (a < s ∧ s < md) = b := ⟨_, rfl⟩
            have HBD := Keep.mk hbd
            clear hbd
            go_upto_region 41 with fail
            go_cut [199] (fun sv wx => sv = .bool bd ∧ wx = wd)
            case first =>
              as_aux_lemma =>
                by_cases k1 : a < s
                · have d1 : (a : Int) < (s : Int) := by omega
                  by_cases k2 : s < md
                  · have d2 : (s : Int) < (md : Int) := by omega
                    have HE : Keep (bd = true) := ⟨by rw [← HBD.out]; exact decide_eq_true ⟨k1, k2⟩⟩
                    clear k1 k2
                    go_wp2_with fail
                    go_meet
                    exact ⟨by rw [HE.out], rfl⟩
                  · have d2 : ¬ (s : Int) < (md : Int) := by omega
                    have HE : Keep (bd = false) := ⟨by rw [← HBD.out]; exact decide_eq_false (fun q => k2 q.2)⟩
                    clear k1 k2
                    go_wp2_with fail
                    go_meet
                    exact ⟨by rw [HE.out], rfl⟩
                · have d1 : ¬ (a : Int) < (s : Int) := by omega
                  have HE : Keep (bd = false) := ⟨by rw [← HBD.out]; exact decide_eq_false (fun q => k1 q.1)⟩
                  clear k1
                  go_wp2_with fail
                  go_meet
                  exact ⟨by rw [HE.out], rfl⟩
            case rest =>
            rename World => wd
            obtain ⟨rfl, rfl⟩ := hcut
            go_upto_if 199 with fail
            go_cut [] (fun wx => Keep (∃ M1, Ris (fun c : Sh => c.id) M1 ∧ Stb (fun c : Sh => c.id) (A1 ++ B1) M1 ∧ Sep w0 wx (rowV 46 7 (sl g n c) n (fl shv (P ++ M1 ++ A2 ++ B2 ++ Q)) :: l)))
            case first =>
              as_aux_lemma =>
                have hle := HLE.out; have hse := HSE.out; have hl := HL.out; have hsr := HSR.out
                cases bd
                · have HE : Keep (∃ M1, Ris (fun c : Sh => c.id) M1 ∧ Stb (fun c : Sh => c.id) (A1 ++ B1) M1 ∧ Sep w0 wd (rowV 46 7 (sl g n c) n (fl shv (P ++ M1 ++ A2 ++ B2 ++ Q)) :: l)) := ⟨by
                    have q := of_decide_eq_false HBD.out
                    by_cases k1 : a < s
                    · have eB : B1 = [] := List.length_eq_zero_iff.1 (by omega)
                      subst eB
                      exact ⟨A1, (Ris.app.1 HRR.out.1).1, by rw [List.append_nil]; exact Stb.refl _, (by simpa only [List.append_assoc, List.nil_append, List.append_nil, List.cons_append] using HB.out)⟩
                    · have eA : A1 = [] := List.length_eq_zero_iff.1 (by omega)
                      subst eA
                      exact ⟨B1, (Ris.app.1 HRR.out.2).1, Stb.refl _, (by simpa only [List.append_assoc, List.nil_append, List.append_nil, List.cons_append] using HB.out)⟩⟩
                  clear hle hse hl hsr HB
                  go_wp2_with fail
                  go_meet
                  exact HE
                · obtain ⟨k1, k2⟩ := of_decide_eq_true HBD.out
                  have HC := Keep.mk (HIH.out w0 wd l g n c kb a s md P A1 B1 (A2 ++ B2 ++ Q) (by omega) (by omega) (by omega) (by omega) (by omega) (by omega) (Ris.app.1 HRR.out.1).1 (Ris.app.1 HRR.out.2).1 (by rw [← HLD.out]; simp only [List.length_append]; omega) hl.2.2.2.1 HKB.out (by simpa only [List.append_assoc, List.nil_append, List.append_nil, List.cons_append] using HB.out))
                  clear hle hse hl hsr k1 k2 HB
                  go_wp2_with fail
                  refine HC.out.mono ?_
                  rintro e w1 ⟨rfl, M1, r1, r2, S2⟩
                  have HE : Keep (∃ M1, Ris (fun c : Sh => c.id) M1 ∧ Stb (fun c : Sh => c.id) (A1 ++ B1) M1 ∧ Sep w0 w1 (rowV 46 7 (sl g n c) n (fl shv (P ++ M1 ++ A2 ++ B2 ++ Q)) :: l)) := ⟨⟨M1, r1, r2, (by simpa only [List.append_assoc, List.nil_append, List.append_nil, List.cons_append] using S2)⟩⟩
                  clear S2 HC r1 r2
                  go_wp2_with fail
                  go_meet
                  exact HE
            case rest =>
            rename World => we
            obtain ⟨M1, m1, m2, S1⟩ := hcut.out
            have HM1 := Keep.mk (And.intro m1 m2)
            replace HB := Keep.mk S1
            clear hcut S1 m1 m2 HBD
            as_aux_lemma =>
              have HFIN : Keep (∀ w1 M2, Ris (fun c : Sh => c.id) M2 → Stb (fun c : Sh => c.id) (A2 ++ B2) M2 → Sep w0 w1 (rowV 46 7 (sl g n c) n (fl shv (P ++ M1 ++ M2 ++ Q)) :: l) → ∃ R : List Sh, Ris (fun c : Sh => c.id) R ∧ Stb (fun c : Sh => c.id) (A ++ B) R ∧ Sep w0 w1 (rowV 46 7 (sl g n c) n (fl shv (P ++ R ++ Q)) :: l)) := ⟨fun w1 M2 r1 r2 S => by
                obtain ⟨f1, f2⟩ := halves (key := (fun c : Sh => c.id)) HRR.out.1 HRR.out.2 H1.out H2.out HM1.out.1 HM1.out.2 r1 r2
                exact ⟨M1 ++ M2, f1, by rw [HAB.out]; exact f2, (by simpa only [List.append_assoc, List.nil_append, List.append_nil, List.cons_append] using S)⟩⟩
              have hle := HLE.out; have hse := HSE.out; have hl := HL.out; have hsr := HSR.out
              have hml := HM1.out.2.len
              rw [List.length_append] at hml
              by_cases c1 : md < e
              · have d1 : (md : Int) < (e : Int) := by omega
                by_cases c2 : e < b
                · have d2 : (e : Int) < (b : Int) := by omega
                  have HC := Keep.mk (HIH.out w0 we l g n c kb md e b (P ++ M1) A2 B2 Q (by omega) (by rw [List.length_append]; omega) (by omega) (by omega) (by omega) (by omega) (Ris.app.1 HRR.out.1).2.1 (Ris.app.1 HRR.out.2).2.1 (by rw [← HLD.out]; simp only [List.length_append]; omega) hl.2.2.2.1 HKB.out (by simpa only [List.append_assoc, List.nil_append, List.append_nil, List.cons_append] using HB.out))
                  clear hle hse hl hsr c1 c2 HB hml
                  go_wp2_with fail
                  refine HC.out.mono ?_
                  rintro e w1 ⟨rfl, M2, r1, r2, S2⟩
                  have HE := Keep.mk (HFIN.out w1 M2 r1 r2 S2)
                  clear S2 HC r1 r2 HFIN
                  go_wp2_with fail
                  go_end0
                  exact ⟨rfl, by simpa only [List.append_assoc] using HE.out⟩
                · have d2 : ¬ (e : Int) < (b : Int) := by omega
                  have eB : B2 = [] := List.length_eq_zero_iff.1 (by omega)
                  have HE := Keep.mk (HFIN.out we A2 (Ris.app.1 HRR.out.1).2.1 (by rw [eB, List.append_nil]; exact Stb.refl _) (by have q := HB.out; rw [eB] at q; simpa only [List.append_assoc, List.nil_append] using q))
                  clear hle hse hl hsr c1 c2 HB hml HFIN
                  go_wp2_with fail
                  go_end0
                  exact ⟨rfl, by simpa only [List.append_assoc] using HE.out⟩
              · have d1 : ¬ (md : Int) < (e : Int) := by omega
                have eA : A2 = [] := List.length_eq_zero_iff.1 (by omega)
                have HE := Keep.mk (HFIN.out we B2 (Ris.app.1 HRR.out.2).2.1 (by rw [eA, List.nil_append]; exact Stb.refl _) (by have q := HB.out; rw [eA] at q; simpa only [List.append_assoc, List.nil_append] using q))
                clear hle hse hl hsr c1 HB hml HFIN
                go_wp2_with fail
                go_end0
                exact ⟨rfl, by simpa only [List.append_assoc] using HE.out⟩
theorem symS : ∀ N, SymCS N
  | 0 => fun w0 W l g n c kb a m b P A B Q hN _ _ _ hA _ => by omega
  | N + 1 => fun w0 W l g n c kb a m b P A B Q hN ha hm hb hA hB rA rB hn hn1 hkb h => by
    by_cases h1 : A.length = 1
    · obtain ⟨x, rfl⟩ := List.length_eq_one_iff.1 h1
      exact sym1S w0 W l g n c kb a m b P B Q x ha (by simpa using hm) hb rB hn hn1 hkb h
    · by_cases h2 : B.length = 1
      · obtain ⟨y, rfl⟩ := List.length_eq_one_iff.1 h2
        exact sym2S w0 W l g n c kb a m b P A Q y ha hm (by simpa using hb) (by omega) rA hn hn1 hkb h
      · exact sym3S N (symS N) w0 W l g n c kb a m b P A B Q hN ha hm hb (by omega) (by omega) rA rB hn hn1 hkb h
end Go.Proofs.YtgedlabmndlooaaGreat
