/- slices: insertion sort -/
import Derived.Test.YtgedlabmndlooaaGreatC3
namespace Go.Proofs.YtgedlabmndlooaaGreat
open Go Go.RowKit Go.Maps

set_option maxRecDepth 100000 in
set_option maxHeartbeats 16000000 in
theorem insC (w0 W : World) (l : List As) (g n c kb a m : Nat) (X M Y : List Cr) (hX : X.length = a) (hm : a + M.length = m) (hn : (X ++ M ++ Y).length = n) (hn1 : n ≤ 281474976710656) (hkb : boxA kb [nvC] 86 ∈ l)
    (h : Sep w0 W (rowV 26 14 (sl g n c) n (fl crv (X ++ M ++ Y)) :: l)) :
    Calls Tryz.prog 83 #[sl g n c, iv a, iv m, cvC kb] W fun e W' => e = .returned (.tuple #[]) ∧ ∃ M' : List Cr, Ris (fun c : Cr => c.pl) M' ∧ Stb (fun c : Cr => c.pl) M M' ∧ Sep w0 W' (rowV 26 14 (sl g n c) n (fl crv (X ++ M' ++ Y)) :: l) := by
  have HKB := Keep.mk hkb
  have hln : a ≤ m ∧ m ≤ n := by simp only [List.length_append] at hn; omega
  have HL : Keep (a ≤ m ∧ m ≤ n ∧ n ≤ 281474976710656 ∧ X.length = a ∧ a + M.length = m) := ⟨⟨hln.1, hln.2, hn1, hX, hm⟩⟩
  have HN := Keep.mk hn
  obtain ⟨du, hdu⟩ := under26
  have ec := ecmpC
  obtain ⟨a1, ha1⟩ : ∃ a1, a + 1 = a1 := ⟨_, rfl⟩
  have hw1 : IntKind.i64.wrap ((a : Int) + 1) = ((a1 : Nat) : Int) := by rw [IntKind.wrap_i64]; omega
  cases M with
  | nil =>
    have hlt : ¬ (a1 : Int) < (m : Int) := by simp at hm; omega
    have HF := Keep.mk h
    clear h HN hX hm hn hkb hln ha1
    go_enter Tryz.func83, Tryz.ntmps83
    go_wp2_with fail
    go_loopw [8] (fun u8 wr => u8 = iv a1 ∧ wr = W) (fun _ _ => 0)
    case atStart => exact ⟨rfl, rfl⟩
    case round =>
      obtain ⟨rfl, rfl⟩ := hrel
      go_wp2_with fail
      go_end0
      exact ⟨rfl, [], List.Pairwise.nil, Stb.refl _, HF.out⟩
  | cons s0 R0 =>
  have HB0 : Keep (∃ S R : List Cr, a + S.length = a1 ∧ Ris (fun c : Cr => c.pl) S ∧ Stb (fun c : Cr => c.pl) (s0 :: R0) (S ++ R) ∧ Sep w0 W (rowV 26 14 (sl g n c) n (fl crv (X ++ (S ++ R) ++ Y)) :: l)) := ⟨⟨[s0], R0, by simpa using ha1, List.pairwise_singleton _ _, Stb.refl _, h⟩⟩
  have h1m : a1 ≤ m := by simp at hm; omega
  clear h hX hm hn hkb hln ha1
  go_enter Tryz.func83, Tryz.ntmps83
  go_wp2_with fail
  go_loopw [8] (fun u8 wr => ∃ i : Nat, i ≤ m ∧ u8 = iv i ∧ Keep (∃ S R : List Cr, a + S.length = i ∧ Ris (fun c : Cr => c.pl) S ∧ Stb (fun c : Cr => c.pl) (s0 :: R0) (S ++ R) ∧ Sep w0 wr (rowV 26 14 (sl g n c) n (fl crv (X ++ (S ++ R) ++ Y)) :: l))) (fun u8 _ => (m - intOf u8).toNat)
  case atStart => exact ⟨a1, h1m, rfl, HB0⟩
  case round =>
    clear HB0 hw1 h1m
    obtain ⟨i, hi, rfl, HI⟩ := hrel
    by_cases hlt : i < m
    · obtain ⟨S, R, e1, e2, e3, S1⟩ := HI.out
      have elen : (S ++ R).length = (s0 :: R0).length := e3.len
      cases R with
      | nil =>
        have := HL.out
        rw [List.append_nil] at elen
        omega
      | cons x R =>
      have HB1 : Keep (∃ (D : List Cr) (S1 S2 : List Cr), D = X ++ (S1 ++ x :: S2) ++ (R ++ Y) ∧ a + S1.length = i ∧ S1 ++ S2 = S ∧ (∀ s ∈ S2, x.pl < s.pl) ∧ Sep w0 wr (rowV 26 14 (sl g n c) n (fl crv (D)) :: l)) := ⟨⟨_, S, [], rfl, e1, by simp, nofun, (by simpa only [List.append_assoc, List.nil_append, List.append_nil, List.cons_append] using S1)⟩⟩
      have HD : Keep (X.length + S.length + 1 + R.length + Y.length = n) := ⟨by rw [← HN.out]; simp only [List.length_append, List.length_cons] at elen ⊢; omega⟩
      have HE : Keep (Ris (fun c : Cr => c.pl) S ∧ Stb (fun c : Cr => c.pl) (s0 :: R0) (S ++ x :: R) ∧ a + S.length = i) := ⟨⟨e2, e3, e1⟩⟩
      have hi1 : (i : Int) < (m : Int) := by omega
      have hii : IntKind.i64.wrap ((i : Int) + 1) = ((i + 1 : Nat) : Int) := by have := HL.out; rw [IntKind.wrap_i64]; omega
      have HM : Keep (i < m) := ⟨hlt⟩
      clear HI S1 e1 e2 e3 elen hlt hi
      go_wp2_with fail
      go_loopw [9] (fun u9 wr => ∃ j : Nat, a ≤ j ∧ j ≤ i ∧ u9 = iv j ∧ Keep (∃ (D : List Cr) (S1 S2 : List Cr), D = X ++ (S1 ++ x :: S2) ++ (R ++ Y) ∧ a + S1.length = j ∧ S1 ++ S2 = S ∧ (∀ s ∈ S2, x.pl < s.pl) ∧ Sep w0 wr (rowV 26 14 (sl g n c) n (fl crv (D)) :: l))) (fun u9 _ => (intOf u9).toNat)
      case atStart => exact ⟨i, by have := HE.out; omega, Nat.le_refl _, rfl, HB1⟩
      case round =>
        clear HB1
        obtain ⟨j, hja, hji, rfl, HI⟩ := hrel
        obtain ⟨D, S1, S2, hD, e1, e2, e3, SS⟩ := HI.out
        have HB := Keep.mk SS
        have HLN : Keep (D.length = n) := ⟨by
          rw [hD, ← HD.out]
          have q := congrArg List.length e2
          simp only [List.length_append, List.length_cons] at q ⊢
          omega⟩
        have HN0 : Keep (0 < n) := ⟨by have := HD.out; omega⟩
        have HS := Keep.mk (And.intro hD (And.intro e1 (And.intro e2 e3)))
        have hji1 : j < n := by have := HM.out; have := HL.out; omega
        have Hj : Keep (j < n) := ⟨hji1⟩
        have HJI : Keep (j ≤ i) := ⟨hji⟩
        clear HI SS
        by_cases h1 : a < j
        · have h3 : (a : Int) < (j : Int) := by omega
          obtain ⟨S1, y, rfl⟩ : ∃ S' y, S1 = S' ++ [y] := by
            refine ⟨S1.dropLast, S1.getLast (by rintro rfl; simp at e1; omega), (List.dropLast_concat_getLast _).symm⟩
          obtain ⟨j1, hj1⟩ : ∃ j1, j = j1 + 1 := ⟨j - 1, by omega⟩
          have hw2 : IntKind.i64.wrap ((j : Int) - 1) = ((j1 : Nat) : Int) := by have := HL.out; rw [IntKind.wrap_i64]; omega
          have Hj1 : Keep (j1 < n) := ⟨by omega⟩
          have lj1 : (X ++ S1).length = j1 := by simp only [List.length_append, List.length_singleton] at e1 ⊢; have := HL.out; omega
          have GQ : Keep (D[j1]? = some y) := ⟨by
            rw [hD, show X ++ ((S1 ++ [y]) ++ x :: S2) ++ (R ++ Y) = (X ++ S1) ++ y :: (x :: S2 ++ (R ++ Y)) by simp, ← lj1]
            simp⟩
          have GP : Keep (D[j]? = some x) := ⟨by
            rw [hD, show X ++ ((S1 ++ [y]) ++ x :: S2) ++ (R ++ Y) = (X ++ S1 ++ [y]) ++ x :: (S2 ++ (R ++ Y)) by simp, show j = (X ++ S1 ++ [y]).length by rw [List.length_append, lj1, hj1]; rfl]
            simp⟩
          have HF : Keep ((D.set j y).set j1 x = X ++ (S1 ++ x :: (y :: S2)) ++ (R ++ Y)) := ⟨by
            rw [hD, show X ++ ((S1 ++ [y]) ++ x :: S2) ++ (R ++ Y) = (X ++ S1) ++ y :: x :: (S2 ++ (R ++ Y)) by simp, hj1, ← lj1, List.set_append_right _ _ (by omega), show (X ++ S1).length + 1 - (X ++ S1).length = 1 by omega, List.set_cons_succ, List.set_cons_zero, List.set_append_right _ _ (Nat.le_refl _), Nat.sub_self, List.set_cons_zero]
            simp⟩
          obtain ⟨bb, hbb⟩ : ∃ bb, decide (Lib.compareInt x.pl y.pl < 0) = bb := ⟨_, rfl⟩
          have HBB := Keep.mk hbb
          have hj2 : (0 : Int) ≤ (j : Int) := by omega
          have hj3 : (j : Int) < (n : Int) := by omega
          have hj4 : ((j : Nat) : Int).toNat = j := by omega
          have hq2 : (0 : Int) ≤ (j1 : Int) := by omega
          have hq3 : (j1 : Int) < (n : Int) := by omega
          have hq4 : ((j1 : Nat) : Int).toNat = j1 := by omega
          have HJ1 := Keep.mk hj1
          have HAJ : Keep (a ≤ j1) := ⟨by omega⟩
          clear hbb lj1 hD e1 e2 e3 hj1 hja hji hji1
          go_wp2_with fail
          refine region_Y (S := fun w' => Sep w0 w' (rowV 26 14 (sl g n c) n (fl crv (D)) :: l)) [] (by kernel_rfl) ?_
          obtain ⟨W0, hW0⟩ : ∃ W_, wr.drew = W_ := ⟨_, rfl⟩
          replace HB := Keep.mk (HB.out.grown (gr_drew _ none))
          rw [hW0] at HB ⊢
          clear hW0
          have hHeld : (fun w' => Sep w0 w' (rowV 26 14 (sl g n c) n (fl crv (D)) :: l)) W0 := HB.out
          refine yp (i := 0) (v := ?_) rfl (Or.inl ⟨by rfl, ?_⟩) ?_
          rotate_left
          · (intro w hSw; go_simp; first | done | (with_reducible rfl))
          simp only [Act.put, A1, A3, A4, A5, A6]
          refine yp (i := 1) (v := ?_) rfl (Or.inl ⟨by rfl, ?_⟩) ?_
          rotate_left
          · (intro w hSw; go_simp; first | done | (with_reducible rfl))
          simp only [Act.put, A1, A2, A3, A4, A5, A6]
          refine yt (i := 2) (v := .bool true) rfl (Or.inl ⟨by rfl, ?_⟩) (by assumption) ?_
          · (intro w hSw; have q := h3; go_simp; first | done | rfl | (simp; done) | trace_state)
          simp only [Act.put, A1, A2, A3, A4, A5, A6]
          refine yp (i := 3) (v := .bool true) rfl (Or.inl ⟨by rfl, ?_⟩) ?_
          · (intro w hSw; go_simp; first | done | rfl | (simp; done) | trace_state)
          simp only [Act.put, A1, A2, A3, A4, A5, A6]
          refine yp (i := 4) (v := ?_) rfl (Or.inl ⟨by rfl, ?_⟩) ?_
          rotate_left
          · (intro w hSw; go_simp; first | done | (with_reducible rfl))
          simp only [Act.put, A1, A2, A3, A4, A5, A6]
          refine yp (i := 5) (v := ?_) rfl (Or.inl ⟨by rfl, ?_⟩) ?_
          rotate_left
          · (intro w hSw; go_simp; first | done | (with_reducible rfl))
          simp only [Act.put, A1, A2, A3, A4, A5, A6]
          refine yp (i := 6) (v := ?_) rfl (Or.inl ⟨by rfl, ?_⟩) ?_
          rotate_left
          · (intro w hSw; go_simp; first | done | (with_reducible rfl))
          simp only [Act.put, A1, A2, A3, A4, A5, A6]
          refine yp (i := 7) (v := ?_) rfl (Or.inl ⟨by rfl, ?_⟩) ?_
          rotate_left
          · (intro w hSw; go_simp; first | done | (with_reducible rfl))
          simp only [Act.put, A1, A2, A3, A4, A5, A6]
          refine yt (i := 8) (v := .agg (crv x).toArray) rfl (yieldsIf_load_mid (by rfl) 26 _ rfl _ _ rfl _ _ (fun w hSw => fl_range crv_len (hSw.rowGet k0m) HN0.out j x GP.out) hdu.1 hdu.2 info26) (by assumption) ?_
          simp only [Act.put, A1, A2, A3, A4, A5, A6]
          refine yp (i := 9) (v := ?_) rfl (Or.inl ⟨by rfl, ?_⟩) ?_
          rotate_left
          · (intro w hSw; go_simp; first | done | (with_reducible rfl))
          simp only [Act.put, A1, A2, A3, A4, A5, A6]
          refine yp (i := 10) (v := ?_) rfl (Or.inl ⟨by rfl, ?_⟩) ?_
          rotate_left
          · (intro w hSw; go_simp; first | done | (with_reducible rfl))
          simp only [Act.put, A1, A2, A3, A4, A5, A6]
          refine yp (i := 11) (v := ?_) rfl (Or.inl ⟨by rfl, ?_⟩) ?_
          rotate_left
          · (intro w hSw; go_simp; first | done | (with_reducible rfl))
          simp only [Act.put, A1, A2, A3, A4, A5, A6]
          refine yp (i := 12) (v := ?_) rfl (Or.inl ⟨by rfl, ?_⟩) ?_
          rotate_left
          · (intro w hSw; go_simp; first | done | (with_reducible rfl))
          simp only [Act.put, A1, A2, A3, A4, A5, A6]
          refine yt (i := 13) (v := .agg (crv y).toArray) rfl (yieldsIf_load_mid (by rfl) 26 _ rfl _ _ rfl _ _ (fun w hSw => fl_range crv_len (hSw.rowGet k0m) HN0.out j1 y GQ.out) hdu.1 hdu.2 info26) (by assumption) ?_
          simp only [Act.put, A1, A2, A3, A4, A5, A6]
          refine wpAnyY_one (i := 14) (by kernel_rfl) rfl (fun K hK => ?_)
          go_simp
          refine (cmpC kb x y _ (HB.out.boxGet (List.mem_cons_of_mem _ HKB.out))).mono ?_
          rintro e wg ⟨rfl, hg⟩
          have HB2 := Keep.mk (HB.out.grown hg)
          refine hK.out _ _ (fun _ => HB2.out) ?_
          clear hK K hg HB hHeld
          have HB := HB2
          clear HB2
          have hHeld := HB.out
          refine yt (i := 15) (v := .bool bb) rfl (Or.inl ⟨by rfl, ?_⟩) (by assumption) ?_
          · (intro w hSw; have q := HBB.out; go_simp; first | done | rfl | (simp; done) | trace_state)
          simp only [Act.put, A1, A2, A3, A4, A5, A6]
          refine yp (i := 16) (v := .bool bb) rfl (Or.inl ⟨by rfl, ?_⟩) ?_
          · (intro w hSw; go_simp; first | done | rfl | (simp; done) | trace_state)
          simp only [Act.put, A1, A2, A3, A4, A5, A6]
          refine wpAnyY_done (by kernel_rfl) ?_ _
          cases bb
          · have hny : y.pl ≤ x.pl := by have := of_decide_eq_false HBB.out; rw [cmpI] at this; omega
            have HF2 : Keep (∃ S R : List Cr, a + S.length = i + 1 ∧ Ris (fun c : Cr => c.pl) S ∧ Stb (fun c : Cr => c.pl) (s0 :: R0) (S ++ R) ∧ Sep w0 wg (rowV 26 14 (sl g n c) n (fl crv (X ++ (S ++ R) ++ Y)) :: l)) := ⟨by
              obtain ⟨hD, e1, e2, e3⟩ := HS.out
              obtain ⟨q1, q2, q3⟩ := HE.out
              rw [← e2] at q1 q2 q3
              have hs1 : ∀ s ∈ S1 ++ [y], s.pl ≤ x.pl := by
                intro s hs
                rcases List.mem_append.1 hs with hs | hs
                · have := (Ris.app.1 (Ris.app.1 q1).1).2.2 s hs y (by simp)
                  omega
                · rw [List.mem_singleton] at hs; subst hs; exact hny
              obtain ⟨t1, t2⟩ := ins_end (key := (fun c : Cr => c.pl)) q1 e3 hs1
              refine ⟨(S1 ++ [y]) ++ x :: S2, R, ?_, t1, ?_, ?_⟩
              · simp only [List.length_append, List.length_cons, List.length_nil] at q3 ⊢; omega
              · refine q2.trans ?_
                rw [show (S1 ++ [y]) ++ S2 ++ x :: R = ((S1 ++ [y]) ++ S2 ++ [x]) ++ R by simp]
                exact Stb.app t2 (Stb.refl _)
              · have q := HB.out
                rw [hD] at q
                simpa only [List.append_assoc, List.cons_append] using q⟩
            clear HB hHeld
            go_wp2_with fail
            go_roundw
            case rel => exact ⟨i + 1, HM.out, rfl, HF2⟩
            case measure => simp [intOf]; have := HM.out; omega
          · have hny : x.pl < y.pl := by have := of_decide_eq_true HBB.out; rwa [cmpI] at this
            clear hHeld
            go_wp2_with fail
            refine region_Y (S := fun w' => Sep w0 w' (rowV 26 14 (sl g n c) n (fl crv (D)) :: l)) [15, 17] (by kernel_rfl) ?_
            obtain ⟨W0, hW0⟩ : ∃ W_, wg.drew = W_ := ⟨_, rfl⟩
            replace HB := Keep.mk (HB.out.grown (gr_drew _ none))
            rw [hW0] at HB ⊢
            clear hW0
            have hHeld : (fun w' => Sep w0 w' (rowV 26 14 (sl g n c) n (fl crv (D)) :: l)) W0 := HB.out
            refine yp (i := 0) (v := ?_) rfl (Or.inl ⟨by rfl, ?_⟩) ?_
            rotate_left
            · (intro w hSw; go_simp; first | done | (with_reducible rfl))
            simp only [Act.put, A1, A3, A4, A5, A6]
            refine yp (i := 1) (v := ?_) rfl (Or.inl ⟨by rfl, ?_⟩) ?_
            rotate_left
            · (intro w hSw; go_simp; first | done | (with_reducible rfl))
            simp only [Act.put, A1, A2, A3, A4, A5, A6]
            refine yp (i := 2) (v := ?_) rfl (Or.inl ⟨by rfl, ?_⟩) ?_
            rotate_left
            · (intro w hSw; go_simp; first | done | (with_reducible rfl))
            simp only [Act.put, A1, A2, A3, A4, A5, A6]
            refine yp (i := 3) (v := ?_) rfl (Or.inl ⟨by rfl, ?_⟩) ?_
            rotate_left
            · (intro w hSw; go_simp; first | done | (with_reducible rfl))
            simp only [Act.put, A1, A2, A3, A4, A5, A6]
            refine yp (i := 4) (v := ?_) rfl (Or.inl ⟨by rfl, ?_⟩) ?_
            rotate_left
            · (intro w hSw; go_simp; first | done | (with_reducible rfl))
            simp only [Act.put, A1, A2, A3, A4, A5, A6]
            refine yp (i := 5) (v := ?_) rfl (Or.inl ⟨by rfl, ?_⟩) ?_
            rotate_left
            · (intro w hSw; go_simp; first | done | (with_reducible rfl))
            simp only [Act.put, A1, A2, A3, A4, A5, A6]
            refine yp (i := 6) (v := ?_) rfl (Or.inl ⟨by rfl, ?_⟩) ?_
            rotate_left
            · (intro w hSw; go_simp; first | done | (with_reducible rfl))
            simp only [Act.put, A1, A2, A3, A4, A5, A6]
            refine yp (i := 7) (v := ?_) rfl (Or.inl ⟨by rfl, ?_⟩) ?_
            rotate_left
            · (intro w hSw; go_simp; first | done | (with_reducible rfl))
            simp only [Act.put, A1, A2, A3, A4, A5, A6]
            refine yp (i := 8) (v := ?_) rfl (Or.inl ⟨by rfl, ?_⟩) ?_
            rotate_left
            · (intro w hSw; go_simp; first | done | (with_reducible rfl))
            simp only [Act.put, A1, A2, A3, A4, A5, A6]
            refine yt (i := 9) (v := .agg (crv y).toArray) rfl (yieldsIf_load_mid (by rfl) 26 _ rfl _ _ rfl _ _ (fun w hSw => fl_range crv_len (hSw.rowGet k0m) HN0.out j1 y GQ.out) hdu.1 hdu.2 info26) (by assumption) ?_
            simp only [Act.put, A1, A2, A3, A4, A5, A6]
            refine yp (i := 10) (v := ?_) rfl (Or.inl ⟨by rfl, ?_⟩) ?_
            rotate_left
            · (intro w hSw; go_simp; first | done | (with_reducible rfl))
            simp only [Act.put, A1, A2, A3, A4, A5, A6]
            refine yp (i := 11) (v := ?_) rfl (Or.inl ⟨by rfl, ?_⟩) ?_
            rotate_left
            · (intro w hSw; go_simp; first | done | (with_reducible rfl))
            simp only [Act.put, A1, A2, A3, A4, A5, A6]
            refine yp (i := 12) (v := ?_) rfl (Or.inl ⟨by rfl, ?_⟩) ?_
            rotate_left
            · (intro w hSw; go_simp; first | done | (with_reducible rfl))
            simp only [Act.put, A1, A2, A3, A4, A5, A6]
            refine yt (i := 13) (v := .agg (crv x).toArray) rfl (yieldsIf_load_mid (by rfl) 26 _ rfl _ _ rfl _ _ (fun w hSw => fl_range crv_len (hSw.rowGet k0m) HN0.out j x GP.out) hdu.1 hdu.2 info26) (by assumption) ?_
            simp only [Act.put, A1, A2, A3, A4, A5, A6]
            refine yp (i := 14) (v := ?_) rfl (Or.inl ⟨by rfl, ?_⟩) ?_
            rotate_left
            · (intro w hSw; go_simp; first | done | (with_reducible rfl))
            simp only [Act.put, A1, A2, A3, A4, A5, A6]
            refine wpAnyY_late (i := 15) (by kernel_rfl) rfl (by kernel_rfl) (fun K hK => ?_)
            rw [if_pos (show Region.wanted _ _ = true from rfl)]
            refine wp_store_mid 26 _ _ rfl g (j * 14) (crv y).toArray rfl rfl (row_there (HB.out.rowGet k0m) HN0.out 14 (by have := Hj.out; omega)) info26 (all_oneCell_toArray (crv_one y)) ?_
            have S_ := Sep.rowSetsAt (crv y) _ _ (j * 14) HB.out
            rw [fl_over crv_len _ j (by rw [HLN.out]; exact Hj.out) y] at S_
            refine hK.out _ _ ?_
            clear hK K
            replace HB := Keep.mk S_
            clear S_
            change Keep (Sep w0 (World.setCells W0 g (j * 14) (crv y)) _) at HB
            show wpAnyY _ _ _ _ _ _ _ _ _ (World.setCells W0 g (j * 14) (crv y))
            generalize World.setCells W0 g (j * 14) (crv y) = ws0 at HB ⊢
            simp only [Act.put, A1, A2, A3]
            refine yp (i := 16) (v := ?_) rfl (Or.inl ⟨by rfl, ?_⟩) ?_
            rotate_left
            · (intro w hSw; go_simp; first | done | (with_reducible rfl))
            simp only [Act.put, A1, A2, A3, A4, A5, A6]
            refine wpAnyY_late (i := 17) (by kernel_rfl) rfl (by kernel_rfl) (fun K hK => ?_)
            rw [if_pos (show Region.wanted _ _ = true from rfl)]
            refine wp_store_mid 26 _ _ rfl g (j1 * 14) (crv x).toArray rfl rfl (row_there (HB.out.rowGet k0m) HN0.out 14 (by have := Hj1.out; omega)) info26 (all_oneCell_toArray (crv_one x)) ?_
            have S_ := Sep.rowSetsAt (crv x) _ _ (j1 * 14) HB.out
            rw [fl_over crv_len _ j1 (by rw [List.length_set, HLN.out]; exact Hj1.out) x] at S_
            refine hK.out _ _ ?_
            clear hK K
            replace HB := Keep.mk S_
            clear S_
            change Keep (Sep w0 (World.setCells ws0 g (j1 * 14) (crv x)) _) at HB
            show wpAnyY _ _ _ _ _ _ _ _ _ (World.setCells ws0 g (j1 * 14) (crv x))
            generalize World.setCells ws0 g (j1 * 14) (crv x) = ws1 at HB ⊢
            simp only [Act.put, A1, A2, A3]
            refine wpAnyY_done (by kernel_rfl) ?_ _
            rw [HF.out] at HB
            have HR : Keep (∃ (D : List Cr) (S1 S2 : List Cr), D = X ++ (S1 ++ x :: S2) ++ (R ++ Y) ∧ a + S1.length = j1 ∧ S1 ++ S2 = S ∧ (∀ s ∈ S2, x.pl < s.pl) ∧ Sep w0 ws1 (rowV 26 14 (sl g n c) n (fl crv (D)) :: l)) := ⟨⟨_, S1, y :: S2, rfl, by have q1 := HS.out.2.1; have q2 := HJ1.out; simp only [List.length_append, List.length_singleton] at q1; omega, by rw [← HS.out.2.2.1]; simp, fun s hs => by
              rcases List.mem_cons.1 hs with rfl | hs
              · exact hny
              · exact HS.out.2.2.2 s hs, HB.out⟩⟩
            clear HB
            go_wp2_with fail
            go_roundw
            case rel => exact ⟨j1, HAJ.out, by have := HJI.out; have := HJ1.out; omega, rfl, HR⟩
            case measure => simp [intOf]; have := HJ1.out; omega
        · have h3 : ¬ (a : Int) < (j : Int) := by omega
          have H3 : Keep (decide ((a : Int) < (j : Int)) = false ∧ j ≤ a) := ⟨⟨decide_eq_false h3, by omega⟩⟩
          have HF2 : Keep (∃ S R : List Cr, a + S.length = i + 1 ∧ Ris (fun c : Cr => c.pl) S ∧ Stb (fun c : Cr => c.pl) (s0 :: R0) (S ++ R) ∧ Sep w0 wr (rowV 26 14 (sl g n c) n (fl crv (X ++ (S ++ R) ++ Y)) :: l)) := ⟨by
            obtain ⟨hD, e1, e2, e3⟩ := HS.out
            obtain ⟨q1, q2, q3⟩ := HE.out
            have e0 : S1 = [] := by cases S1 with | nil => rfl | cons _ _ => simp at e1; omega
            subst e0
            rw [List.nil_append] at e2
            subst e2
            obtain ⟨t1, t2⟩ := ins_end (key := (fun c : Cr => c.pl)) (S1 := []) q1 e3 nofun
            refine ⟨x :: S2, R, by simp only [List.length_cons]; omega, t1, ?_, ?_⟩
            · refine q2.trans ?_
              rw [show S2 ++ x :: R = (S2 ++ [x]) ++ R by simp]
              exact Stb.app t2 (Stb.refl _)
            · have q := HB.out
              rw [hD] at q
              simpa only [List.append_assoc, List.cons_append, List.nil_append] using q⟩
          clear hD e1 e2 e3 hja hji hji1 h1
          go_wp2_with fail
          refine region_Y (S := fun w' => Sep w0 w' (rowV 26 14 (sl g n c) n (fl crv (D)) :: l)) [] (by kernel_rfl) ?_
          obtain ⟨W0, hW0⟩ : ∃ W_, wr.drew = W_ := ⟨_, rfl⟩
          replace HB := Keep.mk (HB.out.grown (gr_drew _ none))
          rw [hW0] at HB ⊢
          have hHeld : (fun w' => Sep w0 w' (rowV 26 14 (sl g n c) n (fl crv (D)) :: l)) W0 := HB.out
          refine yp (i := 0) (v := ?_) rfl (Or.inl ⟨by rfl, ?_⟩) ?_
          rotate_left
          · (intro w hSw; go_simp; first | done | (with_reducible rfl))
          simp only [Act.put, A1, A3, A4, A5, A6]
          refine yp (i := 1) (v := ?_) rfl (Or.inl ⟨by rfl, ?_⟩) ?_
          rotate_left
          · (intro w hSw; go_simp; first | done | (with_reducible rfl))
          simp only [Act.put, A1, A2, A3, A4, A5, A6]
          refine yt (i := 2) (v := .bool false) rfl (Or.inl ⟨by rfl, ?_⟩) (by assumption) ?_
          · (intro w hSw; have q := H3.out.1; have q2 := H3.out.2; go_simp; first | done | rfl | (simp; done) | trace_state)
          simp only [Act.put, A1, A2, A3, A4, A5, A6]
          refine yp (i := 3) (v := ?_) rfl (Or.inl ⟨by rfl, ?_⟩) ?_
          rotate_left
          · (intro w hSw; go_simp; first | done | (with_reducible rfl))
          simp only [Act.put, A1, A2, A3, A4, A5, A6]
          refine yp (i := 4) (v := undef) rfl (Or.inr ⟨by rfl, rfl⟩) ?_
          simp only [Act.put, A1, A2, A3, A4, A5, A6]
          refine yp (i := 5) (v := undef) rfl (Or.inr ⟨by rfl, rfl⟩) ?_
          simp only [Act.put, A1, A2, A3, A4, A5, A6]
          refine yp (i := 6) (v := undef) rfl (Or.inr ⟨by rfl, rfl⟩) ?_
          simp only [Act.put, A1, A2, A3, A4, A5, A6]
          refine yp (i := 7) (v := undef) rfl (Or.inr ⟨by rfl, rfl⟩) ?_
          simp only [Act.put, A1, A2, A3, A4, A5, A6]
          refine yp (i := 8) (v := undef) rfl (Or.inr ⟨by rfl, rfl⟩) ?_
          simp only [Act.put, A1, A2, A3, A4, A5, A6]
          refine yp (i := 9) (v := undef) rfl (Or.inr ⟨by rfl, rfl⟩) ?_
          simp only [Act.put, A1, A2, A3, A4, A5, A6]
          refine yp (i := 10) (v := undef) rfl (Or.inr ⟨by rfl, rfl⟩) ?_
          simp only [Act.put, A1, A2, A3, A4, A5, A6]
          refine yp (i := 11) (v := undef) rfl (Or.inr ⟨by rfl, rfl⟩) ?_
          simp only [Act.put, A1, A2, A3, A4, A5, A6]
          refine yp (i := 12) (v := undef) rfl (Or.inr ⟨by rfl, rfl⟩) ?_
          simp only [Act.put, A1, A2, A3, A4, A5, A6]
          refine yp (i := 13) (v := undef) rfl (Or.inr ⟨by rfl, rfl⟩) ?_
          simp only [Act.put, A1, A2, A3, A4, A5, A6]
          refine yp (i := 14) (v := undef) rfl (Or.inr ⟨by rfl, rfl⟩) ?_
          simp only [Act.put, A1, A2, A3, A4, A5, A6]
          refine yp (i := 15) (v := undef) rfl (Or.inr ⟨by rfl, rfl⟩) ?_
          simp only [Act.put, A1, A2, A3, A4, A5, A6]
          refine yp (i := 16) (v := .bool false) rfl (Or.inl ⟨by rfl, ?_⟩) ?_
          · (intro w hSw; go_simp; first | done | rfl | (simp; done) | trace_state)
          simp only [Act.put, A1, A2, A3, A4, A5, A6]
          refine wpAnyY_done (by kernel_rfl) ?_ _
          clear hHeld
          replace HF2 : Keep (∃ S R : List Cr, a + S.length = i + 1 ∧ Ris (fun c : Cr => c.pl) S ∧ Stb (fun c : Cr => c.pl) (s0 :: R0) (S ++ R) ∧ Sep w0 W0 (rowV 26 14 (sl g n c) n (fl crv (X ++ (S ++ R) ++ Y)) :: l)) := ⟨by
            obtain ⟨S, R, t1, t2, t3, t4⟩ := HF2.out
            exact ⟨S, R, t1, t2, t3, t4.grown (by rw [← hW0]; exact gr_drew _ _)⟩⟩
          clear HB
          go_wp2_with fail
          go_roundw
          case rel => exact ⟨i + 1, HM.out, rfl, HF2⟩
          case measure => simp [intOf]; have := HM.out; omega
    · have hi1 : ¬ (i : Int) < (m : Int) := by omega
      have HE : Keep (∃ M' : List Cr, Ris (fun c : Cr => c.pl) M' ∧ Stb (fun c : Cr => c.pl) (s0 :: R0) M' ∧ Sep w0 wr (rowV 26 14 (sl g n c) n (fl crv (X ++ M' ++ Y)) :: l)) := ⟨by
        obtain ⟨S, R, e1, e2, e3, S1⟩ := HI.out
        have elen : (S ++ R).length = (s0 :: R0).length := e3.len
        have eR : R = [] := by
          cases R with
          | nil => rfl
          | cons _ _ => have := HL.out; simp only [List.length_append, List.length_cons] at elen this; omega
        subst eR
        rw [List.append_nil] at e3 S1
        exact ⟨S, e2, e3, S1⟩⟩
      clear HI hi hlt
      go_wp2_with fail
      go_end0
      exact ⟨rfl, by simpa only [List.append_assoc] using HE.out⟩
set_option maxRecDepth 100000 in
set_option maxHeartbeats 16000000 in
theorem insS (w0 W : World) (l : List As) (g n c kb a m : Nat) (X M Y : List Sh) (hX : X.length = a) (hm : a + M.length = m) (hn : (X ++ M ++ Y).length = n) (hn1 : n ≤ 281474976710656) (hkb : boxA kb [nvS] 91 ∈ l)
    (h : Sep w0 W (rowV 46 7 (sl g n c) n (fl shv (X ++ M ++ Y)) :: l)) :
    Calls Tryz.prog 87 #[sl g n c, iv a, iv m, cvS kb] W fun e W' => e = .returned (.tuple #[]) ∧ ∃ M' : List Sh, Ris (fun c : Sh => c.id) M' ∧ Stb (fun c : Sh => c.id) M M' ∧ Sep w0 W' (rowV 46 7 (sl g n c) n (fl shv (X ++ M' ++ Y)) :: l) := by
  have HKB := Keep.mk hkb
  have hln : a ≤ m ∧ m ≤ n := by simp only [List.length_append] at hn; omega
  have HL : Keep (a ≤ m ∧ m ≤ n ∧ n ≤ 281474976710656 ∧ X.length = a ∧ a + M.length = m) := ⟨⟨hln.1, hln.2, hn1, hX, hm⟩⟩
  have HN := Keep.mk hn
  obtain ⟨du, hdu⟩ := under46
  have ec := ecmpS
  obtain ⟨a1, ha1⟩ : ∃ a1, a + 1 = a1 := ⟨_, rfl⟩
  have hw1 : IntKind.i64.wrap ((a : Int) + 1) = ((a1 : Nat) : Int) := by rw [IntKind.wrap_i64]; omega
  cases M with
  | nil =>
    have hlt : ¬ (a1 : Int) < (m : Int) := by simp at hm; omega
    have HF := Keep.mk h
    clear h HN hX hm hn hkb hln ha1
    go_enter Tryz.func87, Tryz.ntmps87
    go_wp2_with fail
    go_loopw [8] (fun u8 wr => u8 = iv a1 ∧ wr = W) (fun _ _ => 0)
    case atStart => exact ⟨rfl, rfl⟩
    case round =>
      obtain ⟨rfl, rfl⟩ := hrel
      go_wp2_with fail
      go_end0
      exact ⟨rfl, [], List.Pairwise.nil, Stb.refl _, HF.out⟩
  | cons s0 R0 =>
  have HB0 : Keep (∃ S R : List Sh, a + S.length = a1 ∧ Ris (fun c : Sh => c.id) S ∧ Stb (fun c : Sh => c.id) (s0 :: R0) (S ++ R) ∧ Sep w0 W (rowV 46 7 (sl g n c) n (fl shv (X ++ (S ++ R) ++ Y)) :: l)) := ⟨⟨[s0], R0, by simpa using ha1, List.pairwise_singleton _ _, Stb.refl _, h⟩⟩
  have h1m : a1 ≤ m := by simp at hm; omega
  clear h hX hm hn hkb hln ha1
  go_enter Tryz.func87, Tryz.ntmps87
  go_wp2_with fail
  go_loopw [8] (fun u8 wr => ∃ i : Nat, i ≤ m ∧ u8 = iv i ∧ Keep (∃ S R : List Sh, a + S.length = i ∧ Ris (fun c : Sh => c.id) S ∧ Stb (fun c : Sh => c.id) (s0 :: R0) (S ++ R) ∧ Sep w0 wr (rowV 46 7 (sl g n c) n (fl shv (X ++ (S ++ R) ++ Y)) :: l))) (fun u8 _ => (m - intOf u8).toNat)
  case atStart => exact ⟨a1, h1m, rfl, HB0⟩
  case round =>
    clear HB0 hw1 h1m
    obtain ⟨i, hi, rfl, HI⟩ := hrel
    by_cases hlt : i < m
    · obtain ⟨S, R, e1, e2, e3, S1⟩ := HI.out
      have elen : (S ++ R).length = (s0 :: R0).length := e3.len
      cases R with
      | nil =>
        have := HL.out
        rw [List.append_nil] at elen
        omega
      | cons x R =>
      have HB1 : Keep (∃ (D : List Sh) (S1 S2 : List Sh), D = X ++ (S1 ++ x :: S2) ++ (R ++ Y) ∧ a + S1.length = i ∧ S1 ++ S2 = S ∧ (∀ s ∈ S2, x.id < s.id) ∧ Sep w0 wr (rowV 46 7 (sl g n c) n (fl shv (D)) :: l)) := ⟨⟨_, S, [], rfl, e1, by simp, nofun, (by simpa only [List.append_assoc, List.nil_append, List.append_nil, List.cons_append] using S1)⟩⟩
      have HD : Keep (X.length + S.length + 1 + R.length + Y.length = n) := ⟨by rw [← HN.out]; simp only [List.length_append, List.length_cons] at elen ⊢; omega⟩
      have HE : Keep (Ris (fun c : Sh => c.id) S ∧ Stb (fun c : Sh => c.id) (s0 :: R0) (S ++ x :: R) ∧ a + S.length = i) := ⟨⟨e2, e3, e1⟩⟩
      have hi1 : (i : Int) < (m : Int) := by omega
      have hii : IntKind.i64.wrap ((i : Int) + 1) = ((i + 1 : Nat) : Int) := by have := HL.out; rw [IntKind.wrap_i64]; omega
      have HM : Keep (i < m) := ⟨hlt⟩
      clear HI S1 e1 e2 e3 elen hlt hi
      go_wp2_with fail
      go_loopw [9] (fun u9 wr => ∃ j : Nat, a ≤ j ∧ j ≤ i ∧ u9 = iv j ∧ Keep (∃ (D : List Sh) (S1 S2 : List Sh), D = X ++ (S1 ++ x :: S2) ++ (R ++ Y) ∧ a + S1.length = j ∧ S1 ++ S2 = S ∧ (∀ s ∈ S2, x.id < s.id) ∧ Sep w0 wr (rowV 46 7 (sl g n c) n (fl shv (D)) :: l))) (fun u9 _ => (intOf u9).toNat)
      case atStart => exact ⟨i, by have := HE.out; omega, Nat.le_refl _, rfl, HB1⟩
      case round =>
        clear HB1
        obtain ⟨j, hja, hji, rfl, HI⟩ := hrel
        obtain ⟨D, S1, S2, hD, e1, e2, e3, SS⟩ := HI.out
        have HB := Keep.mk SS
        have HLN : Keep (D.length = n) := ⟨by
          rw [hD, ← HD.out]
          have q := congrArg List.length e2
          simp only [List.length_append, List.length_cons] at q ⊢
          omega⟩
        have HN0 : Keep (0 < n) := ⟨by have := HD.out; omega⟩
        have HS := Keep.mk (And.intro hD (And.intro e1 (And.intro e2 e3)))
        have hji1 : j < n := by have := HM.out; have := HL.out; omega
        have Hj : Keep (j < n) := ⟨hji1⟩
        have HJI : Keep (j ≤ i) := ⟨hji⟩
        clear HI SS
        by_cases h1 : a < j
        · have h3 : (a : Int) < (j : Int) := by omega
          obtain ⟨S1, y, rfl⟩ : ∃ S' y, S1 = S' ++ [y] := by
            refine ⟨S1.dropLast, S1.getLast (by rintro rfl; simp at e1; omega), (List.dropLast_concat_getLast _).symm⟩
          obtain ⟨j1, hj1⟩ : ∃ j1, j = j1 + 1 := ⟨j - 1, by omega⟩
          have hw2 : IntKind.i64.wrap ((j : Int) - 1) = ((j1 : Nat) : Int) := by have := HL.out; rw [IntKind.wrap_i64]; omega
          have Hj1 : Keep (j1 < n) := ⟨by omega⟩
          have lj1 : (X ++ S1).length = j1 := by simp only [List.length_append, List.length_singleton] at e1 ⊢; have := HL.out; omega
          have GQ : Keep (D[j1]? = some y) := ⟨by
            rw [hD, show X ++ ((S1 ++ [y]) ++ x :: S2) ++ (R ++ Y) = (X ++ S1) ++ y :: (x :: S2 ++ (R ++ Y)) by simp, ← lj1]
            simp⟩
          have GP : Keep (D[j]? = some x) := ⟨by
            rw [hD, show X ++ ((S1 ++ [y]) ++ x :: S2) ++ (R ++ Y) = (X ++ S1 ++ [y]) ++ x :: (S2 ++ (R ++ Y)) by simp, show j = (X ++ S1 ++ [y]).length by rw [List.length_append, lj1, hj1]; rfl]
            simp⟩
          have HF : Keep ((D.set j y).set j1 x = X ++ (S1 ++ x :: (y :: S2)) ++ (R ++ Y)) := ⟨by
            rw [hD, show X ++ ((S1 ++ [y]) ++ x :: S2) ++ (R ++ Y) = (X ++ S1) ++ y :: x :: (S2 ++ (R ++ Y)) by simp, hj1, ← lj1, List.set_append_right _ _ (by omega), show (X ++ S1).length + 1 - (X ++ S1).length = 1 by omega, List.set_cons_succ, List.set_cons_zero, List.set_append_right _ _ (Nat.le_refl _), Nat.sub_self, List.set_cons_zero]
            simp⟩
          obtain ⟨bb, hbb⟩ : ∃ bb, decide (Lib.compareInt x.id y.id < 0) = bb := ⟨_, rfl⟩
          have HBB := Keep.mk hbb
          have hj2 : (0 : Int) ≤ (j : Int) := by omega
          have hj3 : (j : Int) < (n : Int) := by omega
          have hj4 : ((j : Nat) : Int).toNat = j := by omega
          have hq2 : (0 : Int) ≤ (j1 : Int) := by omega
          have hq3 : (j1 : Int) < (n : Int) := by omega
          have hq4 : ((j1 : Nat) : Int).toNat = j1 := by omega
          have HJ1 := Keep.mk hj1
          have HAJ : Keep (a ≤ j1) := ⟨by omega⟩
          clear hbb lj1 hD e1 e2 e3 hj1 hja hji hji1
          go_wp2_with fail
          refine region_Y (S := fun w' => Sep w0 w' (rowV 46 7 (sl g n c) n (fl shv (D)) :: l)) [] (by kernel_rfl) ?_
          obtain ⟨W0, hW0⟩ : ∃ W_, wr.drew = W_ := ⟨_, rfl⟩
          replace HB := Keep.mk (HB.out.grown (gr_drew _ none))
          rw [hW0] at HB ⊢
          clear hW0
          have hHeld : (fun w' => Sep w0 w' (rowV 46 7 (sl g n c) n (fl shv (D)) :: l)) W0 := HB.out
          refine yp (i := 0) (v := ?_) rfl (Or.inl ⟨by rfl, ?_⟩) ?_
          rotate_left
          · (intro w hSw; go_simp; first | done | (with_reducible rfl))
          simp only [Act.put, A1, A3, A4, A5, A6]
          refine yp (i := 1) (v := ?_) rfl (Or.inl ⟨by rfl, ?_⟩) ?_
          rotate_left
          · (intro w hSw; go_simp; first | done | (with_reducible rfl))
          simp only [Act.put, A1, A2, A3, A4, A5, A6]
          refine yt (i := 2) (v := .bool true) rfl (Or.inl ⟨by rfl, ?_⟩) (by assumption) ?_
          · (intro w hSw; have q := h3; go_simp; first | done | rfl | (simp; done) | trace_state)
          simp only [Act.put, A1, A2, A3, A4, A5, A6]
          refine yp (i := 3) (v := .bool true) rfl (Or.inl ⟨by rfl, ?_⟩) ?_
          · (intro w hSw; go_simp; first | done | rfl | (simp; done) | trace_state)
          simp only [Act.put, A1, A2, A3, A4, A5, A6]
          refine yp (i := 4) (v := ?_) rfl (Or.inl ⟨by rfl, ?_⟩) ?_
          rotate_left
          · (intro w hSw; go_simp; first | done | (with_reducible rfl))
          simp only [Act.put, A1, A2, A3, A4, A5, A6]
          refine yp (i := 5) (v := ?_) rfl (Or.inl ⟨by rfl, ?_⟩) ?_
          rotate_left
          · (intro w hSw; go_simp; first | done | (with_reducible rfl))
          simp only [Act.put, A1, A2, A3, A4, A5, A6]
          refine yp (i := 6) (v := ?_) rfl (Or.inl ⟨by rfl, ?_⟩) ?_
          rotate_left
          · (intro w hSw; go_simp; first | done | (with_reducible rfl))
          simp only [Act.put, A1, A2, A3, A4, A5, A6]
          refine yp (i := 7) (v := ?_) rfl (Or.inl ⟨by rfl, ?_⟩) ?_
          rotate_left
          · (intro w hSw; go_simp; first | done | (with_reducible rfl))
          simp only [Act.put, A1, A2, A3, A4, A5, A6]
          refine yt (i := 8) (v := .agg (shv x).toArray) rfl (yieldsIf_load_mid (by rfl) 46 _ rfl _ _ rfl _ _ (fun w hSw => fl_range shv_len (hSw.rowGet k0m) HN0.out j x GP.out) hdu.1 hdu.2 info46) (by assumption) ?_
          simp only [Act.put, A1, A2, A3, A4, A5, A6]
          refine yp (i := 9) (v := ?_) rfl (Or.inl ⟨by rfl, ?_⟩) ?_
          rotate_left
          · (intro w hSw; go_simp; first | done | (with_reducible rfl))
          simp only [Act.put, A1, A2, A3, A4, A5, A6]
          refine yp (i := 10) (v := ?_) rfl (Or.inl ⟨by rfl, ?_⟩) ?_
          rotate_left
          · (intro w hSw; go_simp; first | done | (with_reducible rfl))
          simp only [Act.put, A1, A2, A3, A4, A5, A6]
          refine yp (i := 11) (v := ?_) rfl (Or.inl ⟨by rfl, ?_⟩) ?_
          rotate_left
          · (intro w hSw; go_simp; first | done | (with_reducible rfl))
          simp only [Act.put, A1, A2, A3, A4, A5, A6]
          refine yp (i := 12) (v := ?_) rfl (Or.inl ⟨by rfl, ?_⟩) ?_
          rotate_left
          · (intro w hSw; go_simp; first | done | (with_reducible rfl))
          simp only [Act.put, A1, A2, A3, A4, A5, A6]
          refine yt (i := 13) (v := .agg (shv y).toArray) rfl (yieldsIf_load_mid (by rfl) 46 _ rfl _ _ rfl _ _ (fun w hSw => fl_range shv_len (hSw.rowGet k0m) HN0.out j1 y GQ.out) hdu.1 hdu.2 info46) (by assumption) ?_
          simp only [Act.put, A1, A2, A3, A4, A5, A6]
          refine wpAnyY_one (i := 14) (by kernel_rfl) rfl (fun K hK => ?_)
          go_simp
          refine (cmpS kb x y _ (HB.out.boxGet (List.mem_cons_of_mem _ HKB.out))).mono ?_
          rintro e wg ⟨rfl, hg⟩
          have HB2 := Keep.mk (HB.out.grown hg)
          refine hK.out _ _ (fun _ => HB2.out) ?_
          clear hK K hg HB hHeld
          have HB := HB2
          clear HB2
          have hHeld := HB.out
          refine yt (i := 15) (v := .bool bb) rfl (Or.inl ⟨by rfl, ?_⟩) (by assumption) ?_
          · (intro w hSw; have q := HBB.out; go_simp; first | done | rfl | (simp; done) | trace_state)
          simp only [Act.put, A1, A2, A3, A4, A5, A6]
          refine yp (i := 16) (v := .bool bb) rfl (Or.inl ⟨by rfl, ?_⟩) ?_
          · (intro w hSw; go_simp; first | done | rfl | (simp; done) | trace_state)
          simp only [Act.put, A1, A2, A3, A4, A5, A6]
          refine wpAnyY_done (by kernel_rfl) ?_ _
          cases bb
          · have hny : y.id ≤ x.id := by have := of_decide_eq_false HBB.out; rw [cmpI] at this; omega
            have HF2 : Keep (∃ S R : List Sh, a + S.length = i + 1 ∧ Ris (fun c : Sh => c.id) S ∧ Stb (fun c : Sh => c.id) (s0 :: R0) (S ++ R) ∧ Sep w0 wg (rowV 46 7 (sl g n c) n (fl shv (X ++ (S ++ R) ++ Y)) :: l)) := ⟨by
              obtain ⟨hD, e1, e2, e3⟩ := HS.out
              obtain ⟨q1, q2, q3⟩ := HE.out
              rw [← e2] at q1 q2 q3
              have hs1 : ∀ s ∈ S1 ++ [y], s.id ≤ x.id := by
                intro s hs
                rcases List.mem_append.1 hs with hs | hs
                · have := (Ris.app.1 (Ris.app.1 q1).1).2.2 s hs y (by simp)
                  omega
                · rw [List.mem_singleton] at hs; subst hs; exact hny
              obtain ⟨t1, t2⟩ := ins_end (key := (fun c : Sh => c.id)) q1 e3 hs1
              refine ⟨(S1 ++ [y]) ++ x :: S2, R, ?_, t1, ?_, ?_⟩
              · simp only [List.length_append, List.length_cons, List.length_nil] at q3 ⊢; omega
              · refine q2.trans ?_
                rw [show (S1 ++ [y]) ++ S2 ++ x :: R = ((S1 ++ [y]) ++ S2 ++ [x]) ++ R by simp]
                exact Stb.app t2 (Stb.refl _)
              · have q := HB.out
                rw [hD] at q
                simpa only [List.append_assoc, List.cons_append] using q⟩
            clear HB hHeld
            go_wp2_with fail
            go_roundw
            case rel => exact ⟨i + 1, HM.out, rfl, HF2⟩
            case measure => simp [intOf]; have := HM.out; omega
          · have hny : x.id < y.id := by have := of_decide_eq_true HBB.out; rwa [cmpI] at this
            clear hHeld
            go_wp2_with fail
            refine region_Y (S := fun w' => Sep w0 w' (rowV 46 7 (sl g n c) n (fl shv (D)) :: l)) [15, 17] (by kernel_rfl) ?_
            obtain ⟨W0, hW0⟩ : ∃ W_, wg.drew = W_ := ⟨_, rfl⟩
            replace HB := Keep.mk (HB.out.grown (gr_drew _ none))
            rw [hW0] at HB ⊢
            clear hW0
            have hHeld : (fun w' => Sep w0 w' (rowV 46 7 (sl g n c) n (fl shv (D)) :: l)) W0 := HB.out
            refine yp (i := 0) (v := ?_) rfl (Or.inl ⟨by rfl, ?_⟩) ?_
            rotate_left
            · (intro w hSw; go_simp; first | done | (with_reducible rfl))
            simp only [Act.put, A1, A3, A4, A5, A6]
            refine yp (i := 1) (v := ?_) rfl (Or.inl ⟨by rfl, ?_⟩) ?_
            rotate_left
            · (intro w hSw; go_simp; first | done | (with_reducible rfl))
            simp only [Act.put, A1, A2, A3, A4, A5, A6]
            refine yp (i := 2) (v := ?_) rfl (Or.inl ⟨by rfl, ?_⟩) ?_
            rotate_left
            · (intro w hSw; go_simp; first | done | (with_reducible rfl))
            simp only [Act.put, A1, A2, A3, A4, A5, A6]
            refine yp (i := 3) (v := ?_) rfl (Or.inl ⟨by rfl, ?_⟩) ?_
            rotate_left
            · (intro w hSw; go_simp; first | done | (with_reducible rfl))
            simp only [Act.put, A1, A2, A3, A4, A5, A6]
            refine yp (i := 4) (v := ?_) rfl (Or.inl ⟨by rfl, ?_⟩) ?_
            rotate_left
            · (intro w hSw; go_simp; first | done | (with_reducible rfl))
            simp only [Act.put, A1, A2, A3, A4, A5, A6]
            refine yp (i := 5) (v := ?_) rfl (Or.inl ⟨by rfl, ?_⟩) ?_
            rotate_left
            · (intro w hSw; go_simp; first | done | (with_reducible rfl))
            simp only [Act.put, A1, A2, A3, A4, A5, A6]
            refine yp (i := 6) (v := ?_) rfl (Or.inl ⟨by rfl, ?_⟩) ?_
            rotate_left
            · (intro w hSw; go_simp; first | done | (with_reducible rfl))
            simp only [Act.put, A1, A2, A3, A4, A5, A6]
            refine yp (i := 7) (v := ?_) rfl (Or.inl ⟨by rfl, ?_⟩) ?_
            rotate_left
            · (intro w hSw; go_simp; first | done | (with_reducible rfl))
            simp only [Act.put, A1, A2, A3, A4, A5, A6]
            refine yp (i := 8) (v := ?_) rfl (Or.inl ⟨by rfl, ?_⟩) ?_
            rotate_left
            · (intro w hSw; go_simp; first | done | (with_reducible rfl))
            simp only [Act.put, A1, A2, A3, A4, A5, A6]
            refine yt (i := 9) (v := .agg (shv y).toArray) rfl (yieldsIf_load_mid (by rfl) 46 _ rfl _ _ rfl _ _ (fun w hSw => fl_range shv_len (hSw.rowGet k0m) HN0.out j1 y GQ.out) hdu.1 hdu.2 info46) (by assumption) ?_
            simp only [Act.put, A1, A2, A3, A4, A5, A6]
            refine yp (i := 10) (v := ?_) rfl (Or.inl ⟨by rfl, ?_⟩) ?_
            rotate_left
            · (intro w hSw; go_simp; first | done | (with_reducible rfl))
            simp only [Act.put, A1, A2, A3, A4, A5, A6]
            refine yp (i := 11) (v := ?_) rfl (Or.inl ⟨by rfl, ?_⟩) ?_
            rotate_left
            · (intro w hSw; go_simp; first | done | (with_reducible rfl))
            simp only [Act.put, A1, A2, A3, A4, A5, A6]
            refine yp (i := 12) (v := ?_) rfl (Or.inl ⟨by rfl, ?_⟩) ?_
            rotate_left
            · (intro w hSw; go_simp; first | done | (with_reducible rfl))
            simp only [Act.put, A1, A2, A3, A4, A5, A6]
            refine yt (i := 13) (v := .agg (shv x).toArray) rfl (yieldsIf_load_mid (by rfl) 46 _ rfl _ _ rfl _ _ (fun w hSw => fl_range shv_len (hSw.rowGet k0m) HN0.out j x GP.out) hdu.1 hdu.2 info46) (by assumption) ?_
            simp only [Act.put, A1, A2, A3, A4, A5, A6]
            refine yp (i := 14) (v := ?_) rfl (Or.inl ⟨by rfl, ?_⟩) ?_
            rotate_left
            · (intro w hSw; go_simp; first | done | (with_reducible rfl))
            simp only [Act.put, A1, A2, A3, A4, A5, A6]
            refine wpAnyY_late (i := 15) (by kernel_rfl) rfl (by kernel_rfl) (fun K hK => ?_)
            rw [if_pos (show Region.wanted _ _ = true from rfl)]
            refine wp_store_mid 46 _ _ rfl g (j * 7) (shv y).toArray rfl rfl (row_there (HB.out.rowGet k0m) HN0.out 7 (by have := Hj.out; omega)) info46 (all_oneCell_toArray (shv_one y)) ?_
            have S_ := Sep.rowSetsAt (shv y) _ _ (j * 7) HB.out
            rw [fl_over shv_len _ j (by rw [HLN.out]; exact Hj.out) y] at S_
            refine hK.out _ _ ?_
            clear hK K
            replace HB := Keep.mk S_
            clear S_
            change Keep (Sep w0 (World.setCells W0 g (j * 7) (shv y)) _) at HB
            show wpAnyY _ _ _ _ _ _ _ _ _ (World.setCells W0 g (j * 7) (shv y))
            generalize World.setCells W0 g (j * 7) (shv y) = ws0 at HB ⊢
            simp only [Act.put, A1, A2, A3]
            refine yp (i := 16) (v := ?_) rfl (Or.inl ⟨by rfl, ?_⟩) ?_
            rotate_left
            · (intro w hSw; go_simp; first | done | (with_reducible rfl))
            simp only [Act.put, A1, A2, A3, A4, A5, A6]
            refine wpAnyY_late (i := 17) (by kernel_rfl) rfl (by kernel_rfl) (fun K hK => ?_)
            rw [if_pos (show Region.wanted _ _ = true from rfl)]
            refine wp_store_mid 46 _ _ rfl g (j1 * 7) (shv x).toArray rfl rfl (row_there (HB.out.rowGet k0m) HN0.out 7 (by have := Hj1.out; omega)) info46 (all_oneCell_toArray (shv_one x)) ?_
            have S_ := Sep.rowSetsAt (shv x) _ _ (j1 * 7) HB.out
            rw [fl_over shv_len _ j1 (by rw [List.length_set, HLN.out]; exact Hj1.out) x] at S_
            refine hK.out _ _ ?_
            clear hK K
            replace HB := Keep.mk S_
            clear S_
            change Keep (Sep w0 (World.setCells ws0 g (j1 * 7) (shv x)) _) at HB
            show wpAnyY _ _ _ _ _ _ _ _ _ (World.setCells ws0 g (j1 * 7) (shv x))
            generalize World.setCells ws0 g (j1 * 7) (shv x) = ws1 at HB ⊢
            simp only [Act.put, A1, A2, A3]
            refine wpAnyY_done (by kernel_rfl) ?_ _
            rw [HF.out] at HB
            have HR : Keep (∃ (D : List Sh) (S1 S2 : List Sh), D = X ++ (S1 ++ x :: S2) ++ (R ++ Y) ∧ a + S1.length = j1 ∧ S1 ++ S2 = S ∧ (∀ s ∈ S2, x.id < s.id) ∧ Sep w0 ws1 (rowV 46 7 (sl g n c) n (fl shv (D)) :: l)) := ⟨⟨_, S1, y :: S2, rfl, by have q1 := HS.out.2.1; have q2 := HJ1.out; simp only [List.length_append, List.length_singleton] at q1; omega, by rw [← HS.out.2.2.1]; simp, fun s hs => by
              rcases List.mem_cons.1 hs with rfl | hs
              · exact hny
              · exact HS.out.2.2.2 s hs, HB.out⟩⟩
            clear HB
            go_wp2_with fail
            go_roundw
            case rel => exact ⟨j1, HAJ.out, by have := HJI.out; have := HJ1.out; omega, rfl, HR⟩
            case measure => simp [intOf]; have := HJ1.out; omega
        · have h3 : ¬ (a : Int) < (j : Int) := by omega
          have H3 : Keep (decide ((a : Int) < (j : Int)) = false ∧ j ≤ a) := ⟨⟨decide_eq_false h3, by omega⟩⟩
          have HF2 : Keep (∃ S R : List Sh, a + S.length = i + 1 ∧ Ris (fun c : Sh => c.id) S ∧ Stb (fun c : Sh => c.id) (s0 :: R0) (S ++ R) ∧ Sep w0 wr (rowV 46 7 (sl g n c) n (fl shv (X ++ (S ++ R) ++ Y)) :: l)) := ⟨by
            obtain ⟨hD, e1, e2, e3⟩ := HS.out
            obtain ⟨q1, q2, q3⟩ := HE.out
            have e0 : S1 = [] := by cases S1 with | nil => rfl | cons _ _ => simp at e1; omega
            subst e0
            rw [List.nil_append] at e2
            subst e2
            obtain ⟨t1, t2⟩ := ins_end (key := (fun c : Sh => c.id)) (S1 := []) q1 e3 nofun
            refine ⟨x :: S2, R, by simp only [List.length_cons]; omega, t1, ?_, ?_⟩
            · refine q2.trans ?_
              rw [show S2 ++ x :: R = (S2 ++ [x]) ++ R by simp]
              exact Stb.app t2 (Stb.refl _)
            · have q := HB.out
              rw [hD] at q
              simpa only [List.append_assoc, List.cons_append, List.nil_append] using q⟩
          clear hD e1 e2 e3 hja hji hji1 h1
          go_wp2_with fail
          refine region_Y (S := fun w' => Sep w0 w' (rowV 46 7 (sl g n c) n (fl shv (D)) :: l)) [] (by kernel_rfl) ?_
          obtain ⟨W0, hW0⟩ : ∃ W_, wr.drew = W_ := ⟨_, rfl⟩
          replace HB := Keep.mk (HB.out.grown (gr_drew _ none))
          rw [hW0] at HB ⊢
          have hHeld : (fun w' => Sep w0 w' (rowV 46 7 (sl g n c) n (fl shv (D)) :: l)) W0 := HB.out
          refine yp (i := 0) (v := ?_) rfl (Or.inl ⟨by rfl, ?_⟩) ?_
          rotate_left
          · (intro w hSw; go_simp; first | done | (with_reducible rfl))
          simp only [Act.put, A1, A3, A4, A5, A6]
          refine yp (i := 1) (v := ?_) rfl (Or.inl ⟨by rfl, ?_⟩) ?_
          rotate_left
          · (intro w hSw; go_simp; first | done | (with_reducible rfl))
          simp only [Act.put, A1, A2, A3, A4, A5, A6]
          refine yt (i := 2) (v := .bool false) rfl (Or.inl ⟨by rfl, ?_⟩) (by assumption) ?_
          · (intro w hSw; have q := H3.out.1; have q2 := H3.out.2; go_simp; first | done | rfl | (simp; done) | trace_state)
          simp only [Act.put, A1, A2, A3, A4, A5, A6]
          refine yp (i := 3) (v := ?_) rfl (Or.inl ⟨by rfl, ?_⟩) ?_
          rotate_left
          · (intro w hSw; go_simp; first | done | (with_reducible rfl))
          simp only [Act.put, A1, A2, A3, A4, A5, A6]
          refine yp (i := 4) (v := undef) rfl (Or.inr ⟨by rfl, rfl⟩) ?_
          simp only [Act.put, A1, A2, A3, A4, A5, A6]
          refine yp (i := 5) (v := undef) rfl (Or.inr ⟨by rfl, rfl⟩) ?_
          simp only [Act.put, A1, A2, A3, A4, A5, A6]
          refine yp (i := 6) (v := undef) rfl (Or.inr ⟨by rfl, rfl⟩) ?_
          simp only [Act.put, A1, A2, A3, A4, A5, A6]
          refine yp (i := 7) (v := undef) rfl (Or.inr ⟨by rfl, rfl⟩) ?_
          simp only [Act.put, A1, A2, A3, A4, A5, A6]
          refine yp (i := 8) (v := undef) rfl (Or.inr ⟨by rfl, rfl⟩) ?_
          simp only [Act.put, A1, A2, A3, A4, A5, A6]
          refine yp (i := 9) (v := undef) rfl (Or.inr ⟨by rfl, rfl⟩) ?_
          simp only [Act.put, A1, A2, A3, A4, A5, A6]
          refine yp (i := 10) (v := undef) rfl (Or.inr ⟨by rfl, rfl⟩) ?_
          simp only [Act.put, A1, A2, A3, A4, A5, A6]
          refine yp (i := 11) (v := undef) rfl (Or.inr ⟨by rfl, rfl⟩) ?_
          simp only [Act.put, A1, A2, A3, A4, A5, A6]
          refine yp (i := 12) (v := undef) rfl (Or.inr ⟨by rfl, rfl⟩) ?_
          simp only [Act.put, A1, A2, A3, A4, A5, A6]
          refine yp (i := 13) (v := undef) rfl (Or.inr ⟨by rfl, rfl⟩) ?_
          simp only [Act.put, A1, A2, A3, A4, A5, A6]
          refine yp (i := 14) (v := undef) rfl (Or.inr ⟨by rfl, rfl⟩) ?_
          simp only [Act.put, A1, A2, A3, A4, A5, A6]
          refine yp (i := 15) (v := undef) rfl (Or.inr ⟨by rfl, rfl⟩) ?_
          simp only [Act.put, A1, A2, A3, A4, A5, A6]
          refine yp (i := 16) (v := .bool false) rfl (Or.inl ⟨by rfl, ?_⟩) ?_
          · (intro w hSw; go_simp; first | done | rfl | (simp; done) | trace_state)
          simp only [Act.put, A1, A2, A3, A4, A5, A6]
          refine wpAnyY_done (by kernel_rfl) ?_ _
          clear hHeld
          replace HF2 : Keep (∃ S R : List Sh, a + S.length = i + 1 ∧ Ris (fun c : Sh => c.id) S ∧ Stb (fun c : Sh => c.id) (s0 :: R0) (S ++ R) ∧ Sep w0 W0 (rowV 46 7 (sl g n c) n (fl shv (X ++ (S ++ R) ++ Y)) :: l)) := ⟨by
            obtain ⟨S, R, t1, t2, t3, t4⟩ := HF2.out
            exact ⟨S, R, t1, t2, t3, t4.grown (by rw [← hW0]; exact gr_drew _ _)⟩⟩
          clear HB
          go_wp2_with fail
          go_roundw
          case rel => exact ⟨i + 1, HM.out, rfl, HF2⟩
          case measure => simp [intOf]; have := HM.out; omega
    · have hi1 : ¬ (i : Int) < (m : Int) := by omega
      have HE : Keep (∃ M' : List Sh, Ris (fun c : Sh => c.id) M' ∧ Stb (fun c : Sh => c.id) (s0 :: R0) M' ∧ Sep w0 wr (rowV 46 7 (sl g n c) n (fl shv (X ++ M' ++ Y)) :: l)) := ⟨by
        obtain ⟨S, R, e1, e2, e3, S1⟩ := HI.out
        have elen : (S ++ R).length = (s0 :: R0).length := e3.len
        have eR : R = [] := by
          cases R with
          | nil => rfl
          | cons _ _ => have := HL.out; simp only [List.length_append, List.length_cons] at elen this; omega
        subst eR
        rw [List.append_nil] at e3 S1
        exact ⟨S, e2, e3, S1⟩⟩
      clear HI hi hlt
      go_wp2_with fail
      go_end0
      exact ⟨rfl, by simpa only [List.append_assoc] using HE.out⟩
end Go.Proofs.YtgedlabmndlooaaGreat
