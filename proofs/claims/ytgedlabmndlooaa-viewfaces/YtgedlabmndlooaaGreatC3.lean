/- C2, C3 -/
import Derived.Test.YtgedlabmndlooaaGreatC1
namespace Go.Proofs.YtgedlabmndlooaaGreat
open Go Go.RowKit Go.Maps

set_option maxRecDepth 100000 in
set_option maxHeartbeats 16000000 in
theorem swrC (w0 W : World) (l : List As) (g n c a b m : Nat) (fv : Value) (P A M B Q : List Cr) (ha : P.length = a) (hb : (P ++ A ++ M).length = b) (hA : A.length = m) (hB : B.length = m) (hn : (P ++ A ++ M ++ B ++ Q).length = n) (hn1 : n ≤ 281474976710656)
    (h : Sep w0 W (rowV 26 14 (sl g n c) n (fl crv (P ++ A ++ M ++ B ++ Q)) :: l)) :
    Calls Tryz.prog 116 #[sl g n c, iv a, iv b, iv m, fv] W fun e W' => e = .returned (.tuple #[]) ∧ Sep w0 W' (rowV 26 14 (sl g n c) n (fl crv (P ++ B ++ M ++ A ++ Q)) :: l) := by
  have HLE : Keep (a + m ≤ n ∧ b + m ≤ n ∧ a + m ≤ b) := ⟨by simp only [List.length_append] at hn hb; omega⟩
  have HA := Keep.mk (And.intro ha (And.intro hb (And.intro hA hB)))
  have hm1 : m ≤ 281474976710656 := by have := HLE.out; omega
  have HN1 := Keep.mk hn1
  have HN := Keep.mk hn
  obtain ⟨du, hdu⟩ := under26
  have HB0 : Keep (∃ A1 A2 B1 B2 : List Cr, A = A1 ++ A2 ∧ B = B1 ++ B2 ∧ A1.length = 0 ∧ B1.length = 0 ∧ Sep w0 W (rowV 26 14 (sl g n c) n (fl crv (P ++ (B1 ++ A2) ++ M ++ (A1 ++ B2) ++ Q)) :: l)) := ⟨⟨[], A, [], B, rfl, rfl, rfl, rfl, h⟩⟩
  clear ha hb hA hB hn hn1 h
  go_enter Tryz.func116, Tryz.ntmps116
  go_wp2_with fail
  go_loopw [10] (fun u10 wr => ∃ i : Nat, i ≤ m ∧ u10 = iv i ∧ Keep (∃ A1 A2 B1 B2 : List Cr, A = A1 ++ A2 ∧ B = B1 ++ B2 ∧ A1.length = i ∧ B1.length = i ∧ Sep w0 wr (rowV 26 14 (sl g n c) n (fl crv (P ++ (B1 ++ A2) ++ M ++ (A1 ++ B2) ++ Q)) :: l))) (fun u10 _ => (m - intOf u10).toNat)
  case atStart => exact ⟨0, by omega, rfl, HB0⟩
  case round =>
    clear HB0
    obtain ⟨i, hi, rfl, HI⟩ := hrel
    by_cases hlt : i < m
    · obtain ⟨A1, A2, B1, B2, rfl, rfl, hA1, hB1, S1⟩ := HI.out
      obtain ⟨e1, e2, e3, e4⟩ := HA.out
      cases A2 with
      | nil => simp at e3; omega
      | cons x A2 =>
      cases B2 with
      | nil => simp at e4; omega
      | cons y B2 =>
      obtain ⟨p, hp⟩ : ∃ p, a + i = p := ⟨_, rfl⟩
      obtain ⟨q, hq⟩ : ∃ q, b + i = q := ⟨_, rfl⟩
      obtain ⟨D, hD⟩ : ∃ D, P ++ (B1 ++ x :: A2) ++ M ++ (A1 ++ y :: B2) ++ Q = D := ⟨_, rfl⟩
      rw [hD] at S1
      have HB := Keep.mk S1
      have Hp : Keep (p < n) := ⟨by have := HLE.out; omega⟩
      have Hq : Keep (q < n) := ⟨by have := HLE.out; omega⟩
      have HN0 : Keep (0 < n) := ⟨by have := Hp.out; omega⟩
      have HLN : Keep (D.length = n) := ⟨by rw [← hD, ← HN.out]; simp only [List.length_append, List.length_cons, hA1, hB1]⟩
      have lp : (P ++ B1).length = p := by rw [List.length_append, e1, hB1, hp]
      have lq : (P ++ B1 ++ x :: A2 ++ M ++ A1).length = q := by
        simp only [List.length_append, List.length_cons] at e2 ⊢
        omega
      have GP : Keep (D[p]? = some x) := ⟨by
        rw [← hD, show P ++ (B1 ++ x :: A2) ++ M ++ (A1 ++ y :: B2) ++ Q = (P ++ B1) ++ x :: (A2 ++ M ++ (A1 ++ y :: B2) ++ Q) by simp, ← lp]
        simp⟩
      have GQ : Keep (D[q]? = some y) := ⟨by
        rw [← hD, show P ++ (B1 ++ x :: A2) ++ M ++ (A1 ++ y :: B2) ++ Q = (P ++ B1 ++ x :: A2 ++ M ++ A1) ++ y :: (B2 ++ Q) by simp, ← lq]
        simp⟩
      have HF : Keep ((D.set p y).set q x = P ++ ((B1 ++ [y]) ++ A2) ++ M ++ ((A1 ++ [x]) ++ B2) ++ Q) := ⟨by
        rw [← hD, show P ++ (B1 ++ x :: A2) ++ M ++ (A1 ++ y :: B2) ++ Q = (P ++ B1) ++ x :: (A2 ++ M ++ (A1 ++ y :: B2) ++ Q) by simp, ← lp, List.set_append_right _ _ (Nat.le_refl _), Nat.sub_self, List.set_cons_zero]
        have lq2 : (P ++ B1 ++ y :: A2 ++ M ++ A1).length = q := by rw [← lq]; simp
        rw [show (P ++ B1) ++ y :: (A2 ++ M ++ (A1 ++ y :: B2) ++ Q) = (P ++ B1 ++ y :: A2 ++ M ++ A1) ++ y :: (B2 ++ Q) by simp, ← lq2, List.set_append_right _ _ (Nat.le_refl _), Nat.sub_self, List.set_cons_zero]
        simp⟩
      have hp1 : IntKind.i64.wrap ((a : Int) + (i : Int)) = ((p : Nat) : Int) := by have := Hp.out; have := HN1.out; rw [IntKind.wrap_i64]; omega
      have hq1 : IntKind.i64.wrap ((b : Int) + (i : Int)) = ((q : Nat) : Int) := by have := Hq.out; have := HN1.out; rw [IntKind.wrap_i64]; omega
      have hp2 : (0 : Int) ≤ (p : Int) := by omega
      have hp3 : (p : Int) < (n : Int) := by have := Hp.out; omega
      have hp4 : ((p : Nat) : Int).toNat = p := by omega
      have hq2 : (0 : Int) ≤ (q : Int) := by omega
      have hq3 : (q : Int) < (n : Int) := by have := Hq.out; omega
      have hq4 : ((q : Nat) : Int).toNat = q := by omega
      have hi1 : (i : Int) < (m : Int) := by omega
      have hii : IntKind.i64.wrap ((i : Int) + 1) = ((i + 1 : Nat) : Int) := by rw [IntKind.wrap_i64]; omega
      have HM : Keep (i < m) := ⟨hlt⟩
      have HA2 : Keep (A1.length = i ∧ B1.length = i) := ⟨⟨hA1, hB1⟩⟩
      clear HI S1 hD lp lq e1 e2 e3 e4 hA1 hB1 hp hq hlt hi
      go_wp2_with fail
      refine region_Y (S := fun w' => Sep w0 w' (rowV 26 14 (sl g n c) n (fl crv (D)) :: l)) [21, 23] (by kernel_rfl) ?_
      obtain ⟨W0, hW0⟩ : ∃ W_, wr.drew = W_ := ⟨_, rfl⟩
      replace HB := Keep.mk (HB.out.grown (gr_drew _ none))
      rw [hW0] at HB ⊢
      clear hW0
      have hHeld : (fun w' => Sep w0 w' (rowV 26 14 (sl g n c) n (fl crv (D)) :: l)) W0 := HB.out
      refine wpAnyY_pure (i := 0) (oi := _) (v := ?_) rfl (by kernel_rfl) (by kernel_rfl) (by kernel_rfl) (by kernel_rfl) (fun _ _ _ h => h) (Or.inl ⟨by rfl, ?_⟩) ?_
      rotate_left
      · (intro w hSw; go_simp; first | done | (with_reducible rfl))
      simp only [Act.put, List.getElem_toArray, List.getElem_cons_zero, List.setIfInBounds_toArray, List.set_cons_zero, List.set_cons_succ]
      refine wpAnyY_pure (i := 1) (oi := _) (v := ?_) rfl (by kernel_rfl) (by kernel_rfl) (by kernel_rfl) (by kernel_rfl) (fun _ _ _ h => h) (Or.inl ⟨by rfl, ?_⟩) ?_
      rotate_left
      · (intro w hSw; go_simp; first | done | (with_reducible rfl))
      simp only [Act.put, List.getElem_toArray, List.getElem_cons_succ, List.getElem_cons_zero, List.setIfInBounds_toArray, List.set_cons_zero, List.set_cons_succ]
      refine wpAnyY_pure (i := 2) (oi := _) (v := ?_) rfl (by kernel_rfl) (by kernel_rfl) (by kernel_rfl) (by kernel_rfl) (fun _ _ _ h => h) (Or.inl ⟨by rfl, ?_⟩) ?_
      rotate_left
      · (intro w hSw; go_simp; first | done | (with_reducible rfl))
      simp only [Act.put, List.getElem_toArray, List.getElem_cons_succ, List.getElem_cons_zero, List.setIfInBounds_toArray, List.set_cons_zero, List.set_cons_succ]
      refine wpAnyY_pure (i := 3) (oi := _) (v := ?_) rfl (by kernel_rfl) (by kernel_rfl) (by kernel_rfl) (by kernel_rfl) (fun _ _ _ h => h) (Or.inl ⟨by rfl, ?_⟩) ?_
      rotate_left
      · (intro w hSw; go_simp; first | done | (with_reducible rfl))
      simp only [Act.put, List.getElem_toArray, List.getElem_cons_succ, List.getElem_cons_zero, List.setIfInBounds_toArray, List.set_cons_zero, List.set_cons_succ]
      refine wpAnyY_pure (i := 4) (oi := _) (v := ?_) rfl (by kernel_rfl) (by kernel_rfl) (by kernel_rfl) (by kernel_rfl) (fun _ _ _ h => h) (Or.inl ⟨by rfl, ?_⟩) ?_
      rotate_left
      · (intro w hSw; go_simp; first | done | (with_reducible rfl))
      simp only [Act.put, List.getElem_toArray, List.getElem_cons_succ, List.getElem_cons_zero, List.setIfInBounds_toArray, List.set_cons_zero, List.set_cons_succ]
      refine wpAnyY_pure (i := 5) (oi := _) (v := ?_) rfl (by kernel_rfl) (by kernel_rfl) (by kernel_rfl) (by kernel_rfl) (fun _ _ _ h => h) (Or.inl ⟨by rfl, ?_⟩) ?_
      rotate_left
      · (intro w hSw; go_simp; first | done | (with_reducible rfl))
      simp only [Act.put, List.getElem_toArray, List.getElem_cons_succ, List.getElem_cons_zero, List.setIfInBounds_toArray, List.set_cons_zero, List.set_cons_succ]
      refine wpAnyY_pure (i := 6) (oi := _) (v := ?_) rfl (by kernel_rfl) (by kernel_rfl) (by kernel_rfl) (by kernel_rfl) (fun _ _ _ h => h) (Or.inl ⟨by rfl, ?_⟩) ?_
      rotate_left
      · (intro w hSw; go_simp; first | done | (with_reducible rfl))
      simp only [Act.put, List.getElem_toArray, List.getElem_cons_succ, List.getElem_cons_zero, List.setIfInBounds_toArray, List.set_cons_zero, List.set_cons_succ]
      refine wpAnyY_pure (i := 7) (oi := _) (v := ?_) rfl (by kernel_rfl) (by kernel_rfl) (by kernel_rfl) (by kernel_rfl) (fun _ _ _ h => h) (Or.inl ⟨by rfl, ?_⟩) ?_
      rotate_left
      · (intro w hSw; go_simp; first | done | (with_reducible rfl))
      simp only [Act.put, List.getElem_toArray, List.getElem_cons_succ, List.getElem_cons_zero, List.setIfInBounds_toArray, List.set_cons_zero, List.set_cons_succ]
      refine wpAnyY_pure (i := 8) (oi := _) (v := ?_) rfl (by kernel_rfl) (by kernel_rfl) (by kernel_rfl) (by kernel_rfl) (fun _ _ _ h => h) (Or.inl ⟨by rfl, ?_⟩) ?_
      rotate_left
      · (intro w hSw; go_simp; first | done | (with_reducible rfl))
      simp only [Act.put, List.getElem_toArray, List.getElem_cons_succ, List.getElem_cons_zero, List.setIfInBounds_toArray, List.set_cons_zero, List.set_cons_succ]
      refine wpAnyY_pure (i := 9) (oi := _) (v := ?_) rfl (by kernel_rfl) (by kernel_rfl) (by kernel_rfl) (by kernel_rfl) (fun _ _ _ h => h) (Or.inl ⟨by rfl, ?_⟩) ?_
      rotate_left
      · (intro w hSw; go_simp; first | done | (with_reducible rfl))
      simp only [Act.put, List.getElem_toArray, List.getElem_cons_succ, List.getElem_cons_zero, List.setIfInBounds_toArray, List.set_cons_zero, List.set_cons_succ]
      refine wpAnyY_pure (i := 10) (oi := _) (v := ?_) rfl (by kernel_rfl) (by kernel_rfl) (by kernel_rfl) (by kernel_rfl) (fun _ _ _ h => h) (Or.inl ⟨by rfl, ?_⟩) ?_
      rotate_left
      · (intro w hSw; go_simp; first | done | (with_reducible rfl))
      simp only [Act.put, List.getElem_toArray, List.getElem_cons_succ, List.getElem_cons_zero, List.setIfInBounds_toArray, List.set_cons_zero, List.set_cons_succ]
      refine wpAnyY_pure (i := 11) (oi := _) (v := ?_) rfl (by kernel_rfl) (by kernel_rfl) (by kernel_rfl) (by kernel_rfl) (fun _ _ _ h => h) (Or.inl ⟨by rfl, ?_⟩) ?_
      rotate_left
      · (intro w hSw; go_simp; first | done | (with_reducible rfl))
      simp only [Act.put, List.getElem_toArray, List.getElem_cons_succ, List.getElem_cons_zero, List.setIfInBounds_toArray, List.set_cons_zero, List.set_cons_succ]
      refine wpAnyY_pure (i := 12) (oi := _) (v := ?_) rfl (by kernel_rfl) (by kernel_rfl) (by kernel_rfl) (by kernel_rfl) (fun _ _ _ h => h) (Or.inl ⟨by rfl, ?_⟩) ?_
      rotate_left
      · (intro w hSw; go_simp; first | done | (with_reducible rfl))
      simp only [Act.put, List.getElem_toArray, List.getElem_cons_succ, List.getElem_cons_zero, List.setIfInBounds_toArray, List.set_cons_zero, List.set_cons_succ]
      refine wpAnyY_take (i := 13) (oi := _) (v := .agg (crv y).toArray) rfl (by kernel_rfl) (by kernel_rfl) (by kernel_rfl) (by kernel_rfl) (by kernel_rfl) (fun _ _ _ h => h) (yieldsIf_load_mid (by rfl) 26 _ rfl _ _ rfl _ _ (fun w hSw => fl_range crv_len (hSw.rowGet k0m) HN0.out q y GQ.out) hdu.1 hdu.2 info26) (by assumption) ?_
      simp only [Act.put, List.getElem_toArray, List.getElem_cons_succ, List.getElem_cons_zero, List.setIfInBounds_toArray, List.set_cons_zero, List.set_cons_succ]
      refine wpAnyY_pure (i := 14) (oi := _) (v := ?_) rfl (by kernel_rfl) (by kernel_rfl) (by kernel_rfl) (by kernel_rfl) (fun _ _ _ h => h) (Or.inl ⟨by rfl, ?_⟩) ?_
      rotate_left
      · (intro w hSw; go_simp; first | done | (with_reducible rfl))
      simp only [Act.put, List.getElem_toArray, List.getElem_cons_succ, List.getElem_cons_zero, List.setIfInBounds_toArray, List.set_cons_zero, List.set_cons_succ]
      refine wpAnyY_pure (i := 15) (oi := _) (v := ?_) rfl (by kernel_rfl) (by kernel_rfl) (by kernel_rfl) (by kernel_rfl) (fun _ _ _ h => h) (Or.inl ⟨by rfl, ?_⟩) ?_
      rotate_left
      · (intro w hSw; go_simp; first | done | (with_reducible rfl))
      simp only [Act.put, List.getElem_toArray, List.getElem_cons_succ, List.getElem_cons_zero, List.setIfInBounds_toArray, List.set_cons_zero, List.set_cons_succ]
      refine wpAnyY_pure (i := 16) (oi := _) (v := ?_) rfl (by kernel_rfl) (by kernel_rfl) (by kernel_rfl) (by kernel_rfl) (fun _ _ _ h => h) (Or.inl ⟨by rfl, ?_⟩) ?_
      rotate_left
      · (intro w hSw; go_simp; first | done | (with_reducible rfl))
      simp only [Act.put, List.getElem_toArray, List.getElem_cons_succ, List.getElem_cons_zero, List.setIfInBounds_toArray, List.set_cons_zero, List.set_cons_succ]
      refine wpAnyY_pure (i := 17) (oi := _) (v := ?_) rfl (by kernel_rfl) (by kernel_rfl) (by kernel_rfl) (by kernel_rfl) (fun _ _ _ h => h) (Or.inl ⟨by rfl, ?_⟩) ?_
      rotate_left
      · (intro w hSw; go_simp; first | done | (with_reducible rfl))
      simp only [Act.put, List.getElem_toArray, List.getElem_cons_succ, List.getElem_cons_zero, List.setIfInBounds_toArray, List.set_cons_zero, List.set_cons_succ]
      refine wpAnyY_pure (i := 18) (oi := _) (v := ?_) rfl (by kernel_rfl) (by kernel_rfl) (by kernel_rfl) (by kernel_rfl) (fun _ _ _ h => h) (Or.inl ⟨by rfl, ?_⟩) ?_
      rotate_left
      · (intro w hSw; go_simp; first | done | (with_reducible rfl))
      simp only [Act.put, List.getElem_toArray, List.getElem_cons_succ, List.getElem_cons_zero, List.setIfInBounds_toArray, List.set_cons_zero, List.set_cons_succ]
      refine wpAnyY_take (i := 19) (oi := _) (v := .agg (crv x).toArray) rfl (by kernel_rfl) (by kernel_rfl) (by kernel_rfl) (by kernel_rfl) (by kernel_rfl) (fun _ _ _ h => h) (yieldsIf_load_mid (by rfl) 26 _ rfl _ _ rfl _ _ (fun w hSw => fl_range crv_len (hSw.rowGet k0m) HN0.out p x GP.out) hdu.1 hdu.2 info26) (by assumption) ?_
      simp only [Act.put, List.getElem_toArray, List.getElem_cons_succ, List.getElem_cons_zero, List.setIfInBounds_toArray, List.set_cons_zero, List.set_cons_succ]
      refine wpAnyY_pure (i := 20) (oi := _) (v := ?_) rfl (by kernel_rfl) (by kernel_rfl) (by kernel_rfl) (by kernel_rfl) (fun _ _ _ h => h) (Or.inl ⟨by rfl, ?_⟩) ?_
      rotate_left
      · (intro w hSw; go_simp; first | done | (with_reducible rfl))
      simp only [Act.put, List.getElem_toArray, List.getElem_cons_succ, List.getElem_cons_zero, List.setIfInBounds_toArray, List.set_cons_zero, List.set_cons_succ]
      refine wpAnyY_late (i := 21) (by kernel_rfl) rfl (by kernel_rfl) (fun K hK => ?_)
      rw [if_pos (show Region.wanted _ _ = true from rfl)]
      refine wp_store_mid 26 _ _ rfl g (p * 14) (crv y).toArray rfl rfl (row_there (HB.out.rowGet k0m) HN0.out 14 (by have := Hp.out; omega)) info26 (all_oneCell_toArray (crv_one y)) ?_
      have S_ := Sep.rowSetsAt (crv y) _ _ (p * 14) HB.out
      rw [fl_over crv_len _ p (by rw [HLN.out]; exact Hp.out) y] at S_
      refine hK.out _ _ ?_
      clear hK K
      replace HB := Keep.mk S_
      clear S_
      change Keep (Sep w0 (World.setCells W0 g (p * 14) (crv y)) _) at HB
      show wpAnyY _ _ _ _ _ _ _ _ _ (World.setCells W0 g (p * 14) (crv y))
      generalize World.setCells W0 g (p * 14) (crv y) = ws0 at HB ⊢
      simp only [Act.put, List.getElem_toArray, List.getElem_cons_succ, List.getElem_cons_zero]
      refine wpAnyY_pure (i := 22) (oi := _) (v := ?_) rfl (by kernel_rfl) (by kernel_rfl) (by kernel_rfl) (by kernel_rfl) (fun _ _ _ h => h) (Or.inl ⟨by rfl, ?_⟩) ?_
      rotate_left
      · (intro w hSw; go_simp; first | done | (with_reducible rfl))
      simp only [Act.put, List.getElem_toArray, List.getElem_cons_succ, List.getElem_cons_zero, List.setIfInBounds_toArray, List.set_cons_zero, List.set_cons_succ]
      refine wpAnyY_late (i := 23) (by kernel_rfl) rfl (by kernel_rfl) (fun K hK => ?_)
      rw [if_pos (show Region.wanted _ _ = true from rfl)]
      refine wp_store_mid 26 _ _ rfl g (q * 14) (crv x).toArray rfl rfl (row_there (HB.out.rowGet k0m) HN0.out 14 (by have := Hq.out; omega)) info26 (all_oneCell_toArray (crv_one x)) ?_
      have S_ := Sep.rowSetsAt (crv x) _ _ (q * 14) HB.out
      rw [fl_over crv_len _ q (by rw [List.length_set, HLN.out]; exact Hq.out) x] at S_
      refine hK.out _ _ ?_
      clear hK K
      replace HB := Keep.mk S_
      clear S_
      change Keep (Sep w0 (World.setCells ws0 g (q * 14) (crv x)) _) at HB
      show wpAnyY _ _ _ _ _ _ _ _ _ (World.setCells ws0 g (q * 14) (crv x))
      generalize World.setCells ws0 g (q * 14) (crv x) = ws1 at HB ⊢
      simp only [Act.put, List.getElem_toArray, List.getElem_cons_succ, List.getElem_cons_zero]
      refine wpAnyY_done (by kernel_rfl) ?_ _
      rw [HF.out] at HB
      go_wp2_with fail
      go_roundw
      case rel => exact ⟨i + 1, HM.out, rfl, ⟨⟨A1 ++ [x], A2, B1 ++ [y], B2, by simp, by simp, by simp [HA2.out.1], by simp [HA2.out.2], HB.out⟩⟩⟩
      case measure => simp [intOf]; have := HM.out; omega
    · have hi1 : ¬ (i : Int) < (m : Int) := by omega
      have HE : Keep (Sep w0 wr (rowV 26 14 (sl g n c) n (fl crv (P ++ B ++ M ++ A ++ Q)) :: l)) := ⟨by
        obtain ⟨A1, A2, B1, B2, rfl, rfl, hA1, hB1, S1⟩ := HI.out
        obtain ⟨_, _, e3, e4⟩ := HA.out
        have eA : A2 = [] := by cases A2 with | nil => rfl | cons _ _ => simp at e3; omega
        have eB : B2 = [] := by cases B2 with | nil => rfl | cons _ _ => simp at e4; omega
        subst eA eB
        simpa using S1⟩
      clear HI hi hlt
      go_wp2_with fail
      go_end0
      exact ⟨rfl, by have q := HE.out; simp only [List.append_assoc] at q ⊢; exact q⟩
set_option maxRecDepth 100000 in
set_option maxHeartbeats 16000000 in
theorem swrS (w0 W : World) (l : List As) (g n c a b m : Nat) (fv : Value) (P A M B Q : List Sh) (ha : P.length = a) (hb : (P ++ A ++ M).length = b) (hA : A.length = m) (hB : B.length = m) (hn : (P ++ A ++ M ++ B ++ Q).length = n) (hn1 : n ≤ 281474976710656)
    (h : Sep w0 W (rowV 46 7 (sl g n c) n (fl shv (P ++ A ++ M ++ B ++ Q)) :: l)) :
    Calls Tryz.prog 117 #[sl g n c, iv a, iv b, iv m, fv] W fun e W' => e = .returned (.tuple #[]) ∧ Sep w0 W' (rowV 46 7 (sl g n c) n (fl shv (P ++ B ++ M ++ A ++ Q)) :: l) := by
  have HLE : Keep (a + m ≤ n ∧ b + m ≤ n ∧ a + m ≤ b) := ⟨by simp only [List.length_append] at hn hb; omega⟩
  have HA := Keep.mk (And.intro ha (And.intro hb (And.intro hA hB)))
  have hm1 : m ≤ 281474976710656 := by have := HLE.out; omega
  have HN1 := Keep.mk hn1
  have HN := Keep.mk hn
  obtain ⟨du, hdu⟩ := under46
  have HB0 : Keep (∃ A1 A2 B1 B2 : List Sh, A = A1 ++ A2 ∧ B = B1 ++ B2 ∧ A1.length = 0 ∧ B1.length = 0 ∧ Sep w0 W (rowV 46 7 (sl g n c) n (fl shv (P ++ (B1 ++ A2) ++ M ++ (A1 ++ B2) ++ Q)) :: l)) := ⟨⟨[], A, [], B, rfl, rfl, rfl, rfl, h⟩⟩
  clear ha hb hA hB hn hn1 h
  go_enter Tryz.func117, Tryz.ntmps117
  go_wp2_with fail
  go_loopw [10] (fun u10 wr => ∃ i : Nat, i ≤ m ∧ u10 = iv i ∧ Keep (∃ A1 A2 B1 B2 : List Sh, A = A1 ++ A2 ∧ B = B1 ++ B2 ∧ A1.length = i ∧ B1.length = i ∧ Sep w0 wr (rowV 46 7 (sl g n c) n (fl shv (P ++ (B1 ++ A2) ++ M ++ (A1 ++ B2) ++ Q)) :: l))) (fun u10 _ => (m - intOf u10).toNat)
  case atStart => exact ⟨0, by omega, rfl, HB0⟩
  case round =>
    clear HB0
    obtain ⟨i, hi, rfl, HI⟩ := hrel
    by_cases hlt : i < m
    · obtain ⟨A1, A2, B1, B2, rfl, rfl, hA1, hB1, S1⟩ := HI.out
      obtain ⟨e1, e2, e3, e4⟩ := HA.out
      cases A2 with
      | nil => simp at e3; omega
      | cons x A2 =>
      cases B2 with
      | nil => simp at e4; omega
      | cons y B2 =>
      obtain ⟨p, hp⟩ : ∃ p, a + i = p := ⟨_, rfl⟩
      obtain ⟨q, hq⟩ : ∃ q, b + i = q := ⟨_, rfl⟩
      obtain ⟨D, hD⟩ : ∃ D, P ++ (B1 ++ x :: A2) ++ M ++ (A1 ++ y :: B2) ++ Q = D := ⟨_, rfl⟩
      rw [hD] at S1
      have HB := Keep.mk S1
      have Hp : Keep (p < n) := ⟨by have := HLE.out; omega⟩
      have Hq : Keep (q < n) := ⟨by have := HLE.out; omega⟩
      have HN0 : Keep (0 < n) := ⟨by have := Hp.out; omega⟩
      have HLN : Keep (D.length = n) := ⟨by rw [← hD, ← HN.out]; simp only [List.length_append, List.length_cons, hA1, hB1]⟩
      have lp : (P ++ B1).length = p := by rw [List.length_append, e1, hB1, hp]
      have lq : (P ++ B1 ++ x :: A2 ++ M ++ A1).length = q := by
        simp only [List.length_append, List.length_cons] at e2 ⊢
        omega
      have GP : Keep (D[p]? = some x) := ⟨by
        rw [← hD, show P ++ (B1 ++ x :: A2) ++ M ++ (A1 ++ y :: B2) ++ Q = (P ++ B1) ++ x :: (A2 ++ M ++ (A1 ++ y :: B2) ++ Q) by simp, ← lp]
        simp⟩
      have GQ : Keep (D[q]? = some y) := ⟨by
        rw [← hD, show P ++ (B1 ++ x :: A2) ++ M ++ (A1 ++ y :: B2) ++ Q = (P ++ B1 ++ x :: A2 ++ M ++ A1) ++ y :: (B2 ++ Q) by simp, ← lq]
        simp⟩
      have HF : Keep ((D.set p y).set q x = P ++ ((B1 ++ [y]) ++ A2) ++ M ++ ((A1 ++ [x]) ++ B2) ++ Q) := ⟨by
        rw [← hD, show P ++ (B1 ++ x :: A2) ++ M ++ (A1 ++ y :: B2) ++ Q = (P ++ B1) ++ x :: (A2 ++ M ++ (A1 ++ y :: B2) ++ Q) by simp, ← lp, List.set_append_right _ _ (Nat.le_refl _), Nat.sub_self, List.set_cons_zero]
        have lq2 : (P ++ B1 ++ y :: A2 ++ M ++ A1).length = q := by rw [← lq]; simp
        rw [show (P ++ B1) ++ y :: (A2 ++ M ++ (A1 ++ y :: B2) ++ Q) = (P ++ B1 ++ y :: A2 ++ M ++ A1) ++ y :: (B2 ++ Q) by simp, ← lq2, List.set_append_right _ _ (Nat.le_refl _), Nat.sub_self, List.set_cons_zero]
        simp⟩
      have hp1 : IntKind.i64.wrap ((a : Int) + (i : Int)) = ((p : Nat) : Int) := by have := Hp.out; have := HN1.out; rw [IntKind.wrap_i64]; omega
      have hq1 : IntKind.i64.wrap ((b : Int) + (i : Int)) = ((q : Nat) : Int) := by have := Hq.out; have := HN1.out; rw [IntKind.wrap_i64]; omega
      have hp2 : (0 : Int) ≤ (p : Int) := by omega
      have hp3 : (p : Int) < (n : Int) := by have := Hp.out; omega
      have hp4 : ((p : Nat) : Int).toNat = p := by omega
      have hq2 : (0 : Int) ≤ (q : Int) := by omega
      have hq3 : (q : Int) < (n : Int) := by have := Hq.out; omega
      have hq4 : ((q : Nat) : Int).toNat = q := by omega
      have hi1 : (i : Int) < (m : Int) := by omega
      have hii : IntKind.i64.wrap ((i : Int) + 1) = ((i + 1 : Nat) : Int) := by rw [IntKind.wrap_i64]; omega
      have HM : Keep (i < m) := ⟨hlt⟩
      have HA2 : Keep (A1.length = i ∧ B1.length = i) := ⟨⟨hA1, hB1⟩⟩
      clear HI S1 hD lp lq e1 e2 e3 e4 hA1 hB1 hp hq hlt hi
      go_wp2_with fail
      refine region_Y (S := fun w' => Sep w0 w' (rowV 46 7 (sl g n c) n (fl shv (D)) :: l)) [21, 23] (by kernel_rfl) ?_
      obtain ⟨W0, hW0⟩ : ∃ W_, wr.drew = W_ := ⟨_, rfl⟩
      replace HB := Keep.mk (HB.out.grown (gr_drew _ none))
      rw [hW0] at HB ⊢
      clear hW0
      have hHeld : (fun w' => Sep w0 w' (rowV 46 7 (sl g n c) n (fl shv (D)) :: l)) W0 := HB.out
      refine wpAnyY_pure (i := 0) (oi := _) (v := ?_) rfl (by kernel_rfl) (by kernel_rfl) (by kernel_rfl) (by kernel_rfl) (fun _ _ _ h => h) (Or.inl ⟨by rfl, ?_⟩) ?_
      rotate_left
      · (intro w hSw; go_simp; first | done | (with_reducible rfl))
      simp only [Act.put, List.getElem_toArray, List.getElem_cons_zero, List.setIfInBounds_toArray, List.set_cons_zero, List.set_cons_succ]
      refine wpAnyY_pure (i := 1) (oi := _) (v := ?_) rfl (by kernel_rfl) (by kernel_rfl) (by kernel_rfl) (by kernel_rfl) (fun _ _ _ h => h) (Or.inl ⟨by rfl, ?_⟩) ?_
      rotate_left
      · (intro w hSw; go_simp; first | done | (with_reducible rfl))
      simp only [Act.put, List.getElem_toArray, List.getElem_cons_succ, List.getElem_cons_zero, List.setIfInBounds_toArray, List.set_cons_zero, List.set_cons_succ]
      refine wpAnyY_pure (i := 2) (oi := _) (v := ?_) rfl (by kernel_rfl) (by kernel_rfl) (by kernel_rfl) (by kernel_rfl) (fun _ _ _ h => h) (Or.inl ⟨by rfl, ?_⟩) ?_
      rotate_left
      · (intro w hSw; go_simp; first | done | (with_reducible rfl))
      simp only [Act.put, List.getElem_toArray, List.getElem_cons_succ, List.getElem_cons_zero, List.setIfInBounds_toArray, List.set_cons_zero, List.set_cons_succ]
      refine wpAnyY_pure (i := 3) (oi := _) (v := ?_) rfl (by kernel_rfl) (by kernel_rfl) (by kernel_rfl) (by kernel_rfl) (fun _ _ _ h => h) (Or.inl ⟨by rfl, ?_⟩) ?_
      rotate_left
      · (intro w hSw; go_simp; first | done | (with_reducible rfl))
      simp only [Act.put, List.getElem_toArray, List.getElem_cons_succ, List.getElem_cons_zero, List.setIfInBounds_toArray, List.set_cons_zero, List.set_cons_succ]
      refine wpAnyY_pure (i := 4) (oi := _) (v := ?_) rfl (by kernel_rfl) (by kernel_rfl) (by kernel_rfl) (by kernel_rfl) (fun _ _ _ h => h) (Or.inl ⟨by rfl, ?_⟩) ?_
      rotate_left
      · (intro w hSw; go_simp; first | done | (with_reducible rfl))
      simp only [Act.put, List.getElem_toArray, List.getElem_cons_succ, List.getElem_cons_zero, List.setIfInBounds_toArray, List.set_cons_zero, List.set_cons_succ]
      refine wpAnyY_pure (i := 5) (oi := _) (v := ?_) rfl (by kernel_rfl) (by kernel_rfl) (by kernel_rfl) (by kernel_rfl) (fun _ _ _ h => h) (Or.inl ⟨by rfl, ?_⟩) ?_
      rotate_left
      · (intro w hSw; go_simp; first | done | (with_reducible rfl))
      simp only [Act.put, List.getElem_toArray, List.getElem_cons_succ, List.getElem_cons_zero, List.setIfInBounds_toArray, List.set_cons_zero, List.set_cons_succ]
      refine wpAnyY_pure (i := 6) (oi := _) (v := ?_) rfl (by kernel_rfl) (by kernel_rfl) (by kernel_rfl) (by kernel_rfl) (fun _ _ _ h => h) (Or.inl ⟨by rfl, ?_⟩) ?_
      rotate_left
      · (intro w hSw; go_simp; first | done | (with_reducible rfl))
      simp only [Act.put, List.getElem_toArray, List.getElem_cons_succ, List.getElem_cons_zero, List.setIfInBounds_toArray, List.set_cons_zero, List.set_cons_succ]
      refine wpAnyY_pure (i := 7) (oi := _) (v := ?_) rfl (by kernel_rfl) (by kernel_rfl) (by kernel_rfl) (by kernel_rfl) (fun _ _ _ h => h) (Or.inl ⟨by rfl, ?_⟩) ?_
      rotate_left
      · (intro w hSw; go_simp; first | done | (with_reducible rfl))
      simp only [Act.put, List.getElem_toArray, List.getElem_cons_succ, List.getElem_cons_zero, List.setIfInBounds_toArray, List.set_cons_zero, List.set_cons_succ]
      refine wpAnyY_pure (i := 8) (oi := _) (v := ?_) rfl (by kernel_rfl) (by kernel_rfl) (by kernel_rfl) (by kernel_rfl) (fun _ _ _ h => h) (Or.inl ⟨by rfl, ?_⟩) ?_
      rotate_left
      · (intro w hSw; go_simp; first | done | (with_reducible rfl))
      simp only [Act.put, List.getElem_toArray, List.getElem_cons_succ, List.getElem_cons_zero, List.setIfInBounds_toArray, List.set_cons_zero, List.set_cons_succ]
      refine wpAnyY_pure (i := 9) (oi := _) (v := ?_) rfl (by kernel_rfl) (by kernel_rfl) (by kernel_rfl) (by kernel_rfl) (fun _ _ _ h => h) (Or.inl ⟨by rfl, ?_⟩) ?_
      rotate_left
      · (intro w hSw; go_simp; first | done | (with_reducible rfl))
      simp only [Act.put, List.getElem_toArray, List.getElem_cons_succ, List.getElem_cons_zero, List.setIfInBounds_toArray, List.set_cons_zero, List.set_cons_succ]
      refine wpAnyY_pure (i := 10) (oi := _) (v := ?_) rfl (by kernel_rfl) (by kernel_rfl) (by kernel_rfl) (by kernel_rfl) (fun _ _ _ h => h) (Or.inl ⟨by rfl, ?_⟩) ?_
      rotate_left
      · (intro w hSw; go_simp; first | done | (with_reducible rfl))
      simp only [Act.put, List.getElem_toArray, List.getElem_cons_succ, List.getElem_cons_zero, List.setIfInBounds_toArray, List.set_cons_zero, List.set_cons_succ]
      refine wpAnyY_pure (i := 11) (oi := _) (v := ?_) rfl (by kernel_rfl) (by kernel_rfl) (by kernel_rfl) (by kernel_rfl) (fun _ _ _ h => h) (Or.inl ⟨by rfl, ?_⟩) ?_
      rotate_left
      · (intro w hSw; go_simp; first | done | (with_reducible rfl))
      simp only [Act.put, List.getElem_toArray, List.getElem_cons_succ, List.getElem_cons_zero, List.setIfInBounds_toArray, List.set_cons_zero, List.set_cons_succ]
      refine wpAnyY_pure (i := 12) (oi := _) (v := ?_) rfl (by kernel_rfl) (by kernel_rfl) (by kernel_rfl) (by kernel_rfl) (fun _ _ _ h => h) (Or.inl ⟨by rfl, ?_⟩) ?_
      rotate_left
      · (intro w hSw; go_simp; first | done | (with_reducible rfl))
      simp only [Act.put, List.getElem_toArray, List.getElem_cons_succ, List.getElem_cons_zero, List.setIfInBounds_toArray, List.set_cons_zero, List.set_cons_succ]
      refine wpAnyY_take (i := 13) (oi := _) (v := .agg (shv y).toArray) rfl (by kernel_rfl) (by kernel_rfl) (by kernel_rfl) (by kernel_rfl) (by kernel_rfl) (fun _ _ _ h => h) (yieldsIf_load_mid (by rfl) 46 _ rfl _ _ rfl _ _ (fun w hSw => fl_range shv_len (hSw.rowGet k0m) HN0.out q y GQ.out) hdu.1 hdu.2 info46) (by assumption) ?_
      simp only [Act.put, List.getElem_toArray, List.getElem_cons_succ, List.getElem_cons_zero, List.setIfInBounds_toArray, List.set_cons_zero, List.set_cons_succ]
      refine wpAnyY_pure (i := 14) (oi := _) (v := ?_) rfl (by kernel_rfl) (by kernel_rfl) (by kernel_rfl) (by kernel_rfl) (fun _ _ _ h => h) (Or.inl ⟨by rfl, ?_⟩) ?_
      rotate_left
      · (intro w hSw; go_simp; first | done | (with_reducible rfl))
      simp only [Act.put, List.getElem_toArray, List.getElem_cons_succ, List.getElem_cons_zero, List.setIfInBounds_toArray, List.set_cons_zero, List.set_cons_succ]
      refine wpAnyY_pure (i := 15) (oi := _) (v := ?_) rfl (by kernel_rfl) (by kernel_rfl) (by kernel_rfl) (by kernel_rfl) (fun _ _ _ h => h) (Or.inl ⟨by rfl, ?_⟩) ?_
      rotate_left
      · (intro w hSw; go_simp; first | done | (with_reducible rfl))
      simp only [Act.put, List.getElem_toArray, List.getElem_cons_succ, List.getElem_cons_zero, List.setIfInBounds_toArray, List.set_cons_zero, List.set_cons_succ]
      refine wpAnyY_pure (i := 16) (oi := _) (v := ?_) rfl (by kernel_rfl) (by kernel_rfl) (by kernel_rfl) (by kernel_rfl) (fun _ _ _ h => h) (Or.inl ⟨by rfl, ?_⟩) ?_
      rotate_left
      · (intro w hSw; go_simp; first | done | (with_reducible rfl))
      simp only [Act.put, List.getElem_toArray, List.getElem_cons_succ, List.getElem_cons_zero, List.setIfInBounds_toArray, List.set_cons_zero, List.set_cons_succ]
      refine wpAnyY_pure (i := 17) (oi := _) (v := ?_) rfl (by kernel_rfl) (by kernel_rfl) (by kernel_rfl) (by kernel_rfl) (fun _ _ _ h => h) (Or.inl ⟨by rfl, ?_⟩) ?_
      rotate_left
      · (intro w hSw; go_simp; first | done | (with_reducible rfl))
      simp only [Act.put, List.getElem_toArray, List.getElem_cons_succ, List.getElem_cons_zero, List.setIfInBounds_toArray, List.set_cons_zero, List.set_cons_succ]
      refine wpAnyY_pure (i := 18) (oi := _) (v := ?_) rfl (by kernel_rfl) (by kernel_rfl) (by kernel_rfl) (by kernel_rfl) (fun _ _ _ h => h) (Or.inl ⟨by rfl, ?_⟩) ?_
      rotate_left
      · (intro w hSw; go_simp; first | done | (with_reducible rfl))
      simp only [Act.put, List.getElem_toArray, List.getElem_cons_succ, List.getElem_cons_zero, List.setIfInBounds_toArray, List.set_cons_zero, List.set_cons_succ]
      refine wpAnyY_take (i := 19) (oi := _) (v := .agg (shv x).toArray) rfl (by kernel_rfl) (by kernel_rfl) (by kernel_rfl) (by kernel_rfl) (by kernel_rfl) (fun _ _ _ h => h) (yieldsIf_load_mid (by rfl) 46 _ rfl _ _ rfl _ _ (fun w hSw => fl_range shv_len (hSw.rowGet k0m) HN0.out p x GP.out) hdu.1 hdu.2 info46) (by assumption) ?_
      simp only [Act.put, List.getElem_toArray, List.getElem_cons_succ, List.getElem_cons_zero, List.setIfInBounds_toArray, List.set_cons_zero, List.set_cons_succ]
      refine wpAnyY_pure (i := 20) (oi := _) (v := ?_) rfl (by kernel_rfl) (by kernel_rfl) (by kernel_rfl) (by kernel_rfl) (fun _ _ _ h => h) (Or.inl ⟨by rfl, ?_⟩) ?_
      rotate_left
      · (intro w hSw; go_simp; first | done | (with_reducible rfl))
      simp only [Act.put, List.getElem_toArray, List.getElem_cons_succ, List.getElem_cons_zero, List.setIfInBounds_toArray, List.set_cons_zero, List.set_cons_succ]
      refine wpAnyY_late (i := 21) (by kernel_rfl) rfl (by kernel_rfl) (fun K hK => ?_)
      rw [if_pos (show Region.wanted _ _ = true from rfl)]
      refine wp_store_mid 46 _ _ rfl g (p * 7) (shv y).toArray rfl rfl (row_there (HB.out.rowGet k0m) HN0.out 7 (by have := Hp.out; omega)) info46 (all_oneCell_toArray (shv_one y)) ?_
      have S_ := Sep.rowSetsAt (shv y) _ _ (p * 7) HB.out
      rw [fl_over shv_len _ p (by rw [HLN.out]; exact Hp.out) y] at S_
      refine hK.out _ _ ?_
      clear hK K
      replace HB := Keep.mk S_
      clear S_
      change Keep (Sep w0 (World.setCells W0 g (p * 7) (shv y)) _) at HB
      show wpAnyY _ _ _ _ _ _ _ _ _ (World.setCells W0 g (p * 7) (shv y))
      generalize World.setCells W0 g (p * 7) (shv y) = ws0 at HB ⊢
      simp only [Act.put, List.getElem_toArray, List.getElem_cons_succ, List.getElem_cons_zero]
      refine wpAnyY_pure (i := 22) (oi := _) (v := ?_) rfl (by kernel_rfl) (by kernel_rfl) (by kernel_rfl) (by kernel_rfl) (fun _ _ _ h => h) (Or.inl ⟨by rfl, ?_⟩) ?_
      rotate_left
      · (intro w hSw; go_simp; first | done | (with_reducible rfl))
      simp only [Act.put, List.getElem_toArray, List.getElem_cons_succ, List.getElem_cons_zero, List.setIfInBounds_toArray, List.set_cons_zero, List.set_cons_succ]
      refine wpAnyY_late (i := 23) (by kernel_rfl) rfl (by kernel_rfl) (fun K hK => ?_)
      rw [if_pos (show Region.wanted _ _ = true from rfl)]
      refine wp_store_mid 46 _ _ rfl g (q * 7) (shv x).toArray rfl rfl (row_there (HB.out.rowGet k0m) HN0.out 7 (by have := Hq.out; omega)) info46 (all_oneCell_toArray (shv_one x)) ?_
      have S_ := Sep.rowSetsAt (shv x) _ _ (q * 7) HB.out
      rw [fl_over shv_len _ q (by rw [List.length_set, HLN.out]; exact Hq.out) x] at S_
      refine hK.out _ _ ?_
      clear hK K
      replace HB := Keep.mk S_
      clear S_
      change Keep (Sep w0 (World.setCells ws0 g (q * 7) (shv x)) _) at HB
      show wpAnyY _ _ _ _ _ _ _ _ _ (World.setCells ws0 g (q * 7) (shv x))
      generalize World.setCells ws0 g (q * 7) (shv x) = ws1 at HB ⊢
      simp only [Act.put, List.getElem_toArray, List.getElem_cons_succ, List.getElem_cons_zero]
      refine wpAnyY_done (by kernel_rfl) ?_ _
      rw [HF.out] at HB
      go_wp2_with fail
      go_roundw
      case rel => exact ⟨i + 1, HM.out, rfl, ⟨⟨A1 ++ [x], A2, B1 ++ [y], B2, by simp, by simp, by simp [HA2.out.1], by simp [HA2.out.2], HB.out⟩⟩⟩
      case measure => simp [intOf]; have := HM.out; omega
    · have hi1 : ¬ (i : Int) < (m : Int) := by omega
      have HE : Keep (Sep w0 wr (rowV 46 7 (sl g n c) n (fl shv (P ++ B ++ M ++ A ++ Q)) :: l)) := ⟨by
        obtain ⟨A1, A2, B1, B2, rfl, rfl, hA1, hB1, S1⟩ := HI.out
        obtain ⟨_, _, e3, e4⟩ := HA.out
        have eA : A2 = [] := by cases A2 with | nil => rfl | cons _ _ => simp at e3; omega
        have eB : B2 = [] := by cases B2 with | nil => rfl | cons _ _ => simp at e4; omega
        subst eA eB
        simpa using S1⟩
      clear HI hi hlt
      go_wp2_with fail
      go_end0
      exact ⟨rfl, by have q := HE.out; simp only [List.append_assoc] at q ⊢; exact q⟩
end Go.Proofs.YtgedlabmndlooaaGreat

namespace Go.Proofs.YtgedlabmndlooaaGreat
open Go Go.RowKit Go.Maps

set_option maxRecDepth 100000 in
set_option maxHeartbeats 16000000 in
theorem rotC (w0 W : World) (l : List As) (g n c a m b : Nat) (fv : Value) (P U V Q : List Cr) (ha : P.length = a) (hm : a + U.length = m) (hb : m + V.length = b) (hU : 0 < U.length) (hV : 0 < V.length) (hn : (P ++ U ++ V ++ Q).length = n) (hn1 : n ≤ 281474976710656)
    (h : Sep w0 W (rowV 26 14 (sl g n c) n (fl crv (P ++ U ++ V ++ Q)) :: l)) :
    Calls Tryz.prog 104 #[sl g n c, iv a, iv m, iv b, fv] W fun e W' => e = .returned (.tuple #[]) ∧ Sep w0 W' (rowV 26 14 (sl g n c) n (fl crv (P ++ V ++ U ++ Q)) :: l) := by
  have hln : a ≤ m ∧ m ≤ b ∧ b ≤ n := by simp only [List.length_append] at hn; omega
  have HL : Keep (a ≤ m ∧ m ≤ b ∧ b ≤ n ∧ n ≤ 281474976710656) := ⟨⟨hln.1, hln.2.1, hln.2.2, hn1⟩⟩
  obtain ⟨i0, hi0⟩ : ∃ i0, U.length = i0 := ⟨_, rfl⟩
  obtain ⟨j0, hj0⟩ : ∃ j0, V.length = j0 := ⟨_, rfl⟩
  have hw1 : IntKind.i64.wrap ((m : Int) - (a : Int)) = ((i0 : Nat) : Int) := by rw [IntKind.wrap_i64]; omega
  have hw2 : IntKind.i64.wrap ((b : Int) - (m : Int)) = ((j0 : Nat) : Int) := by rw [IntKind.wrap_i64]; omega
  have HN := Keep.mk hn
  have HB0 : Keep (∃ V1 U' V' U2 : List Cr, U'.length = i0 ∧ V'.length = j0 ∧ (P ++ V1).length + i0 = m ∧ V1 ++ V' ++ U' ++ U2 = V ++ U ∧ Sep w0 W (rowV 26 14 (sl g n c) n (fl crv (P ++ V1 ++ U' ++ V' ++ U2 ++ Q)) :: l)) := ⟨⟨[], U, V, [], hi0, hj0, by rw [List.append_nil]; omega, by simp, (by simpa only [List.append_assoc, List.nil_append, List.append_nil, List.cons_append] using h)⟩⟩
  have hi1 : 0 < i0 := by omega
  have hj1 : 0 < j0 := by omega
  have HIJ : Keep (i0 + j0 ≤ n) := ⟨by omega⟩
  clear h hi0 hj0 ha hm hb hU hV hn hn1 hln
  go_enter Tryz.func104, Tryz.ntmps104
  go_wp2_with fail
  go_loopw [10, 11] (fun u10 u11 wr => ∃ i j : Nat, 0 < i ∧ 0 < j ∧ i + j ≤ n ∧ u10 = iv i ∧ u11 = iv j ∧ Keep (∃ V1 U' V' U2 : List Cr, U'.length = i ∧ V'.length = j ∧ (P ++ V1).length + i = m ∧ V1 ++ V' ++ U' ++ U2 = V ++ U ∧ Sep w0 wr (rowV 26 14 (sl g n c) n (fl crv (P ++ V1 ++ U' ++ V' ++ U2 ++ Q)) :: l))) (fun u10 u11 _ => (intOf u10 + intOf u11).toNat)
  case atStart => exact ⟨i0, j0, hi1, hj1, HIJ.out, rfl, rfl, HB0⟩
  case round =>
    clear HB0 hw1 hw2 hi1 hj1 HIJ
    obtain ⟨i, j, hi, hj, hij, rfl, rfl, HI⟩ := hrel
    have HIJ : Keep (0 < i ∧ 0 < j ∧ i + j ≤ n) := ⟨⟨hi, hj, hij⟩⟩
    obtain ⟨V1, U', V', U2, e1, e2, e3, e4, S1⟩ := HI.out
    have hlen : (P ++ V1 ++ U' ++ V' ++ U2 ++ Q).length = n := by
      have q := congrArg List.length e4
      rw [← HN.out]
      simp only [List.length_append] at q ⊢
      omega
    obtain ⟨p, hp⟩ : ∃ p, (P ++ V1).length = p := ⟨_, rfl⟩
    rw [hp] at e3
    have hw1 : IntKind.i64.wrap ((m : Int) - (i : Int)) = ((p : Nat) : Int) := by have := HL.out; rw [IntKind.wrap_i64]; omega
    have hmj : m + j ≤ n := by simp only [List.length_append] at hlen hp; omega
    clear HI hi hj hij
    by_cases h1 : i = j
    · subst h1
      have hE : ((i : Int) == (i : Int)) = true := by simp
      have HC := Keep.mk (swrC w0 wr l g n c p m i fv (P ++ V1) U' [] V' (U2 ++ Q) hp (by rw [List.append_nil, List.length_append, hp, e1]; exact e3) e1 e2 (by rw [← hlen]; simp only [List.append_assoc, List.nil_append]) HL.out.2.2.2 (by simpa only [List.append_assoc, List.nil_append, List.append_nil, List.cons_append] using S1))
      have HF : Keep (P ++ V1 ++ V' ++ [] ++ U' ++ (U2 ++ Q) = P ++ V ++ U ++ Q) := ⟨by
        have q := congrArg (fun x => P ++ x ++ Q) e4
        simpa using q⟩
      clear e1 e2 e3 e4 S1 hlen hp
      go_wp2_with fail
      refine HC.out.mono ?_
      rintro e w1 ⟨rfl, S2⟩
      rw [HF.out] at S2
      have HE := Keep.mk S2
      clear S2 HC HF
      go_wp2_with fail
      go_end0
      exact ⟨rfl, (by simpa only [List.append_assoc, List.nil_append, List.append_nil, List.cons_append] using HE.out)⟩
    · have hE : ((i : Int) == (j : Int)) = false := by simp; omega
      have hE2 : ¬ (i : Int) = (j : Int) := by omega
      by_cases h2 : j < i
      · have h3 : (j : Int) < (i : Int) := by omega
        obtain ⟨Ua, Ub, rfl, hUa⟩ : ∃ Ua Ub, U' = Ua ++ Ub ∧ Ua.length = j := ⟨U'.take j, U'.drop j, (List.take_append_drop _ _).symm, by rw [List.length_take]; omega⟩
        obtain ⟨i2, hi2⟩ : ∃ i2, i - j = i2 := ⟨_, rfl⟩
        have hw3 : IntKind.i64.wrap ((i : Int) - (j : Int)) = ((i2 : Nat) : Int) := by have := HL.out; have := HIJ.out; rw [IntKind.wrap_i64]; omega
        have HC := Keep.mk (swrC w0 wr l g n c p m j fv (P ++ V1) Ua Ub V' (U2 ++ Q) hp (by simp only [List.length_append] at e1 hp ⊢; omega) hUa e2 (by rw [← hlen]; simp only [List.append_assoc]) HL.out.2.2.2 (by simpa only [List.append_assoc, List.nil_append, List.append_nil, List.cons_append] using S1))
        have HR : Keep (∀ w', Sep w0 w' (rowV 26 14 (sl g n c) n (fl crv (P ++ V1 ++ V' ++ Ub ++ Ua ++ (U2 ++ Q))) :: l) → ∃ V1 U' V' U2 : List Cr, U'.length = i2 ∧ V'.length = j ∧ (P ++ V1).length + i2 = m ∧ V1 ++ V' ++ U' ++ U2 = V ++ U ∧ Sep w0 w' (rowV 26 14 (sl g n c) n (fl crv (P ++ V1 ++ U' ++ V' ++ U2 ++ Q)) :: l)) := ⟨fun w' S => ⟨V1 ++ V', Ub, Ua, U2, by simp only [List.length_append] at e1; omega, hUa, by simp only [List.length_append] at hp ⊢; omega, by rw [← e4]; simp, (by simpa only [List.append_assoc, List.nil_append, List.append_nil, List.cons_append] using S)⟩⟩
        have HI2 : Keep (0 < i2 ∧ i2 + j ≤ n ∧ i2 + j < i + j) := ⟨by have := HIJ.out; omega⟩
        have HJ := Keep.mk HIJ.out.2.1
        clear e1 e2 e3 e4 S1 hlen hp hUa hi2 h1 h2
        go_wp2_with fail
        refine HC.out.mono ?_
        rintro e w1 ⟨rfl, S2⟩
        have HE := Keep.mk (HR.out _ S2)
        clear S2 HC HR
        go_wp2_with fail
        go_roundw
        case rel => exact ⟨i2, j, HI2.out.1, HJ.out, HI2.out.2.1, rfl, rfl, HE⟩
        case measure => simp [intOf]; have := HI2.out; omega
      · have h3 : ¬ (j : Int) < (i : Int) := by omega
        obtain ⟨Va, Vb, rfl, hVb⟩ : ∃ Va Vb, V' = Va ++ Vb ∧ Vb.length = i := ⟨V'.take (j - i), V'.drop (j - i), (List.take_append_drop _ _).symm, by rw [List.length_drop]; omega⟩
        obtain ⟨j2, hj2⟩ : ∃ j2, j - i = j2 := ⟨_, rfl⟩
        obtain ⟨mj, hmj2⟩ : ∃ mj, m + j = mj := ⟨_, rfl⟩
        obtain ⟨q0, hq0⟩ : ∃ q0, m + j - i = q0 := ⟨_, rfl⟩
        have hw3 : IntKind.i64.wrap ((j : Int) - (i : Int)) = ((j2 : Nat) : Int) := by have := HL.out; have := HIJ.out; rw [IntKind.wrap_i64]; omega
        have hw4 : IntKind.i64.wrap ((m : Int) + (j : Int)) = ((mj : Nat) : Int) := by have := HL.out; have := HIJ.out; rw [IntKind.wrap_i64]; omega
        have hw5 : IntKind.i64.wrap ((mj : Int) - (i : Int)) = ((q0 : Nat) : Int) := by have := HL.out; have := HIJ.out; rw [IntKind.wrap_i64]; omega
        have HC := Keep.mk (swrC w0 wr l g n c p q0 i fv (P ++ V1) U' Va Vb (U2 ++ Q) hp (by simp only [List.length_append] at e2 hp ⊢; omega) e1 hVb (by rw [← hlen]; simp only [List.append_assoc]) HL.out.2.2.2 (by simpa only [List.append_assoc, List.nil_append, List.append_nil, List.cons_append] using S1))
        have HR : Keep (∀ w', Sep w0 w' (rowV 26 14 (sl g n c) n (fl crv (P ++ V1 ++ Vb ++ Va ++ U' ++ (U2 ++ Q))) :: l) → ∃ V1 U' V' U2 : List Cr, U'.length = i ∧ V'.length = j2 ∧ (P ++ V1).length + i = m ∧ V1 ++ V' ++ U' ++ U2 = V ++ U ∧ Sep w0 w' (rowV 26 14 (sl g n c) n (fl crv (P ++ V1 ++ U' ++ V' ++ U2 ++ Q)) :: l)) := ⟨fun w' S => ⟨V1, Vb, Va, U' ++ U2, hVb, by simp only [List.length_append] at e2; omega, by rw [hp]; exact e3, by rw [← e4]; simp, (by simpa only [List.append_assoc, List.nil_append, List.append_nil, List.cons_append] using S)⟩⟩
        have HI2 : Keep (0 < j2 ∧ i + j2 ≤ n ∧ i + j2 < i + j) := ⟨by have := HIJ.out; omega⟩
        have HJ := Keep.mk HIJ.out.1
        clear e1 e2 e3 e4 S1 hlen hp hVb hj2 hmj2 hq0 h1 h2
        go_wp2_with fail
        refine HC.out.mono ?_
        rintro e w1 ⟨rfl, S2⟩
        have HE := Keep.mk (HR.out _ S2)
        clear S2 HC HR
        go_wp2_with fail
        go_roundw
        case rel => exact ⟨i, j2, HJ.out, HI2.out.1, HI2.out.2.1, rfl, rfl, HE⟩
        case measure => simp [intOf]; have := HI2.out; omega
set_option maxRecDepth 100000 in
set_option maxHeartbeats 16000000 in
theorem rotS (w0 W : World) (l : List As) (g n c a m b : Nat) (fv : Value) (P U V Q : List Sh) (ha : P.length = a) (hm : a + U.length = m) (hb : m + V.length = b) (hU : 0 < U.length) (hV : 0 < V.length) (hn : (P ++ U ++ V ++ Q).length = n) (hn1 : n ≤ 281474976710656)
    (h : Sep w0 W (rowV 46 7 (sl g n c) n (fl shv (P ++ U ++ V ++ Q)) :: l)) :
    Calls Tryz.prog 106 #[sl g n c, iv a, iv m, iv b, fv] W fun e W' => e = .returned (.tuple #[]) ∧ Sep w0 W' (rowV 46 7 (sl g n c) n (fl shv (P ++ V ++ U ++ Q)) :: l) := by
  have hln : a ≤ m ∧ m ≤ b ∧ b ≤ n := by simp only [List.length_append] at hn; omega
  have HL : Keep (a ≤ m ∧ m ≤ b ∧ b ≤ n ∧ n ≤ 281474976710656) := ⟨⟨hln.1, hln.2.1, hln.2.2, hn1⟩⟩
  obtain ⟨i0, hi0⟩ : ∃ i0, U.length = i0 := ⟨_, rfl⟩
  obtain ⟨j0, hj0⟩ : ∃ j0, V.length = j0 := ⟨_, rfl⟩
  have hw1 : IntKind.i64.wrap ((m : Int) - (a : Int)) = ((i0 : Nat) : Int) := by rw [IntKind.wrap_i64]; omega
  have hw2 : IntKind.i64.wrap ((b : Int) - (m : Int)) = ((j0 : Nat) : Int) := by rw [IntKind.wrap_i64]; omega
  have HN := Keep.mk hn
  have HB0 : Keep (∃ V1 U' V' U2 : List Sh, U'.length = i0 ∧ V'.length = j0 ∧ (P ++ V1).length + i0 = m ∧ V1 ++ V' ++ U' ++ U2 = V ++ U ∧ Sep w0 W (rowV 46 7 (sl g n c) n (fl shv (P ++ V1 ++ U' ++ V' ++ U2 ++ Q)) :: l)) := ⟨⟨[], U, V, [], hi0, hj0, by rw [List.append_nil]; omega, by simp, (by simpa only [List.append_assoc, List.nil_append, List.append_nil, List.cons_append] using h)⟩⟩
  have hi1 : 0 < i0 := by omega
  have hj1 : 0 < j0 := by omega
  have HIJ : Keep (i0 + j0 ≤ n) := ⟨by omega⟩
  clear h hi0 hj0 ha hm hb hU hV hn hn1 hln
  go_enter Tryz.func106, Tryz.ntmps106
  go_wp2_with fail
  go_loopw [10, 11] (fun u10 u11 wr => ∃ i j : Nat, 0 < i ∧ 0 < j ∧ i + j ≤ n ∧ u10 = iv i ∧ u11 = iv j ∧ Keep (∃ V1 U' V' U2 : List Sh, U'.length = i ∧ V'.length = j ∧ (P ++ V1).length + i = m ∧ V1 ++ V' ++ U' ++ U2 = V ++ U ∧ Sep w0 wr (rowV 46 7 (sl g n c) n (fl shv (P ++ V1 ++ U' ++ V' ++ U2 ++ Q)) :: l))) (fun u10 u11 _ => (intOf u10 + intOf u11).toNat)
  case atStart => exact ⟨i0, j0, hi1, hj1, HIJ.out, rfl, rfl, HB0⟩
  case round =>
    clear HB0 hw1 hw2 hi1 hj1 HIJ
    obtain ⟨i, j, hi, hj, hij, rfl, rfl, HI⟩ := hrel
    have HIJ : Keep (0 < i ∧ 0 < j ∧ i + j ≤ n) := ⟨⟨hi, hj, hij⟩⟩
    obtain ⟨V1, U', V', U2, e1, e2, e3, e4, S1⟩ := HI.out
    have hlen : (P ++ V1 ++ U' ++ V' ++ U2 ++ Q).length = n := by
      have q := congrArg List.length e4
      rw [← HN.out]
      simp only [List.length_append] at q ⊢
      omega
    obtain ⟨p, hp⟩ : ∃ p, (P ++ V1).length = p := ⟨_, rfl⟩
    rw [hp] at e3
    have hw1 : IntKind.i64.wrap ((m : Int) - (i : Int)) = ((p : Nat) : Int) := by have := HL.out; rw [IntKind.wrap_i64]; omega
    have hmj : m + j ≤ n := by simp only [List.length_append] at hlen hp; omega
    clear HI hi hj hij
    by_cases h1 : i = j
    · subst h1
      have hE : ((i : Int) == (i : Int)) = true := by simp
      have HC := Keep.mk (swrS w0 wr l g n c p m i fv (P ++ V1) U' [] V' (U2 ++ Q) hp (by rw [List.append_nil, List.length_append, hp, e1]; exact e3) e1 e2 (by rw [← hlen]; simp only [List.append_assoc, List.nil_append]) HL.out.2.2.2 (by simpa only [List.append_assoc, List.nil_append, List.append_nil, List.cons_append] using S1))
      have HF : Keep (P ++ V1 ++ V' ++ [] ++ U' ++ (U2 ++ Q) = P ++ V ++ U ++ Q) := ⟨by
        have q := congrArg (fun x => P ++ x ++ Q) e4
        simpa using q⟩
      clear e1 e2 e3 e4 S1 hlen hp
      go_wp2_with fail
      refine HC.out.mono ?_
      rintro e w1 ⟨rfl, S2⟩
      rw [HF.out] at S2
      have HE := Keep.mk S2
      clear S2 HC HF
      go_wp2_with fail
      go_end0
      exact ⟨rfl, (by simpa only [List.append_assoc, List.nil_append, List.append_nil, List.cons_append] using HE.out)⟩
    · have hE : ((i : Int) == (j : Int)) = false := by simp; omega
      have hE2 : ¬ (i : Int) = (j : Int) := by omega
      by_cases h2 : j < i
      · have h3 : (j : Int) < (i : Int) := by omega
        obtain ⟨Ua, Ub, rfl, hUa⟩ : ∃ Ua Ub, U' = Ua ++ Ub ∧ Ua.length = j := ⟨U'.take j, U'.drop j, (List.take_append_drop _ _).symm, by rw [List.length_take]; omega⟩
        obtain ⟨i2, hi2⟩ : ∃ i2, i - j = i2 := ⟨_, rfl⟩
        have hw3 : IntKind.i64.wrap ((i : Int) - (j : Int)) = ((i2 : Nat) : Int) := by have := HL.out; have := HIJ.out; rw [IntKind.wrap_i64]; omega
        have HC := Keep.mk (swrS w0 wr l g n c p m j fv (P ++ V1) Ua Ub V' (U2 ++ Q) hp (by simp only [List.length_append] at e1 hp ⊢; omega) hUa e2 (by rw [← hlen]; simp only [List.append_assoc]) HL.out.2.2.2 (by simpa only [List.append_assoc, List.nil_append, List.append_nil, List.cons_append] using S1))
        have HR : Keep (∀ w', Sep w0 w' (rowV 46 7 (sl g n c) n (fl shv (P ++ V1 ++ V' ++ Ub ++ Ua ++ (U2 ++ Q))) :: l) → ∃ V1 U' V' U2 : List Sh, U'.length = i2 ∧ V'.length = j ∧ (P ++ V1).length + i2 = m ∧ V1 ++ V' ++ U' ++ U2 = V ++ U ∧ Sep w0 w' (rowV 46 7 (sl g n c) n (fl shv (P ++ V1 ++ U' ++ V' ++ U2 ++ Q)) :: l)) := ⟨fun w' S => ⟨V1 ++ V', Ub, Ua, U2, by simp only [List.length_append] at e1; omega, hUa, by simp only [List.length_append] at hp ⊢; omega, by rw [← e4]; simp, (by simpa only [List.append_assoc, List.nil_append, List.append_nil, List.cons_append] using S)⟩⟩
        have HI2 : Keep (0 < i2 ∧ i2 + j ≤ n ∧ i2 + j < i + j) := ⟨by have := HIJ.out; omega⟩
        have HJ := Keep.mk HIJ.out.2.1
        clear e1 e2 e3 e4 S1 hlen hp hUa hi2 h1 h2
        go_wp2_with fail
        refine HC.out.mono ?_
        rintro e w1 ⟨rfl, S2⟩
        have HE := Keep.mk (HR.out _ S2)
        clear S2 HC HR
        go_wp2_with fail
        go_roundw
        case rel => exact ⟨i2, j, HI2.out.1, HJ.out, HI2.out.2.1, rfl, rfl, HE⟩
        case measure => simp [intOf]; have := HI2.out; omega
      · have h3 : ¬ (j : Int) < (i : Int) := by omega
        obtain ⟨Va, Vb, rfl, hVb⟩ : ∃ Va Vb, V' = Va ++ Vb ∧ Vb.length = i := ⟨V'.take (j - i), V'.drop (j - i), (List.take_append_drop _ _).symm, by rw [List.length_drop]; omega⟩
        obtain ⟨j2, hj2⟩ : ∃ j2, j - i = j2 := ⟨_, rfl⟩
        obtain ⟨mj, hmj2⟩ : ∃ mj, m + j = mj := ⟨_, rfl⟩
        obtain ⟨q0, hq0⟩ : ∃ q0, m + j - i = q0 := ⟨_, rfl⟩
        have hw3 : IntKind.i64.wrap ((j : Int) - (i : Int)) = ((j2 : Nat) : Int) := by have := HL.out; have := HIJ.out; rw [IntKind.wrap_i64]; omega
        have hw4 : IntKind.i64.wrap ((m : Int) + (j : Int)) = ((mj : Nat) : Int) := by have := HL.out; have := HIJ.out; rw [IntKind.wrap_i64]; omega
        have hw5 : IntKind.i64.wrap ((mj : Int) - (i : Int)) = ((q0 : Nat) : Int) := by have := HL.out; have := HIJ.out; rw [IntKind.wrap_i64]; omega
        have HC := Keep.mk (swrS w0 wr l g n c p q0 i fv (P ++ V1) U' Va Vb (U2 ++ Q) hp (by simp only [List.length_append] at e2 hp ⊢; omega) e1 hVb (by rw [← hlen]; simp only [List.append_assoc]) HL.out.2.2.2 (by simpa only [List.append_assoc, List.nil_append, List.append_nil, List.cons_append] using S1))
        have HR : Keep (∀ w', Sep w0 w' (rowV 46 7 (sl g n c) n (fl shv (P ++ V1 ++ Vb ++ Va ++ U' ++ (U2 ++ Q))) :: l) → ∃ V1 U' V' U2 : List Sh, U'.length = i ∧ V'.length = j2 ∧ (P ++ V1).length + i = m ∧ V1 ++ V' ++ U' ++ U2 = V ++ U ∧ Sep w0 w' (rowV 46 7 (sl g n c) n (fl shv (P ++ V1 ++ U' ++ V' ++ U2 ++ Q)) :: l)) := ⟨fun w' S => ⟨V1, Vb, Va, U' ++ U2, hVb, by simp only [List.length_append] at e2; omega, by rw [hp]; exact e3, by rw [← e4]; simp, (by simpa only [List.append_assoc, List.nil_append, List.append_nil, List.cons_append] using S)⟩⟩
        have HI2 : Keep (0 < j2 ∧ i + j2 ≤ n ∧ i + j2 < i + j) := ⟨by have := HIJ.out; omega⟩
        have HJ := Keep.mk HIJ.out.1
        clear e1 e2 e3 e4 S1 hlen hp hVb hj2 hmj2 hq0 h1 h2
        go_wp2_with fail
        refine HC.out.mono ?_
        rintro e w1 ⟨rfl, S2⟩
        have HE := Keep.mk (HR.out _ S2)
        clear S2 HC HR
        go_wp2_with fail
        go_roundw
        case rel => exact ⟨i, j2, HJ.out, HI2.out.1, HI2.out.2.1, rfl, rfl, HE⟩
        case measure => simp [intOf]; have := HI2.out; omega
end Go.Proofs.YtgedlabmndlooaaGreat
