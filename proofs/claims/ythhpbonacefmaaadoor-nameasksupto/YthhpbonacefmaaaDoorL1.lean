/- NameFolds' walk. -/
import Derived.Test.YthhpbonacefmaaaDoorL0
namespace Go.Proofs.YthhpbonacefmaaaDoor
open Go Go.RowKit

theorem rn_fold (a : ByteArray) : rn (mk (foldL (sl a))) = rn a := by
  unfold rn; rw [sl_mk, pieces_fold, List.length_map]
theorem size_fold (a : ByteArray) : (mk (foldL (sl a))).size = a.size := by rw [mk_size, fold_len, sl_len]
theorem chk_fold (a : ByteArray) : chk (mk (foldL (sl a))) = chk a := by
  unfold chk chkOK
  rw [rn_fold, size_fold, sl_mk, pieces_fold, List.all_map]
  congr 3
  apply List.all_congr rfl
  intro p
  exact fnd_small p
theorem chk_or (a : ByteArray) : chk a = 60 ∨ (chk a = 0 ∧ 1 ≤ rn a ∧ rn a ≤ 12 ∧ a.size ≤ 24) := by
  unfold chk
  by_cases h : chkOK a = true
  · right
    refine ⟨if_pos h, ?_⟩
    simp only [chkOK, Bool.and_eq_true, decide_eq_true_eq] at h
    refine ⟨?_, h.1.2, h.1.1.2⟩
    apply Nat.pos_of_ne_zero
    intro e
    apply h.1.1.1
    rw [← posn_end, e]; rfl
  · left; exact if_neg h
theorem eqS (x y : List UInt8) : ((mk x).toList == (mk y).toList) = decide (x = y) := by
  rw [ByteArray.toList_eq, ByteArray.toList_eq]
  simp only [mk]
  by_cases h : x = y
  · rw [decide_eq_true h, h]; simp
  · rw [decide_eq_false h]; simpa using h

set_option maxRecDepth 100000 in
set_option maxHeartbeats 8000000 in
theorem folds_any (a b : ByteArray) (w : World) (ha : a.size ≤ 140737488355328) (hk : Kc w) :
    Calls Tryd.prog 3 #[.string a, .string b] w fun e w' => e = .returned (.bool true) ∧ w.grownBy w' none := by
  have HK := Keep.mk hk
  clear hk
  have HG : Keep (w.grownBy w none) := ⟨World.grownBy.refl _ _⟩
  obtain ⟨A, hA⟩ : ∃ A, foldL (sl a) = A := ⟨_, rfl⟩
  obtain ⟨B, hB⟩ : ∃ B, foldL (sl b) = B := ⟨_, rfl⟩
  have HA : Keep (foldL (sl a) = A) := ⟨hA⟩
  have HB : Keep (foldL (sl b) = B) := ⟨hB⟩
  have HFF : Keep (foldL (sl (mk A)) = A) := ⟨by rw [sl_mk, ← hA, fold_fold]⟩
  have HR : Keep (rn (mk A) = rn a) := ⟨by rw [← hA, rn_fold]⟩
  have HC : Keep (chk (mk A) = chk a) := ⟨by rw [← hA, chk_fold]⟩
  have hz : (mk A).size = a.size := by rw [← hA, size_fold]
  clear hA hB
  have heq := eqS A B
  have hr := rn_le a
  go_enter Tryd.func3, Tryd.ntmps3
  go_wp2_with fail
  refine (alive_c _ (HK.out.kept HG.out)).mono ?_
  rintro e w1 ⟨rfl, hG⟩
  replace HG : Keep (w.grownBy w1 none) := ⟨HG.out.trans hG⟩
  clear hG
  go_wp2_with fail
  refine (fold_c a _ (HK.out.kept HG.out)).mono ?_
  rintro e w2 ⟨rfl, hG⟩
  replace HG : Keep (w.grownBy w2 none) := ⟨HG.out.trans hG⟩
  clear hG
  rw [HA.out]
  go_wp2_with fail
  refine (fold_c (mk A) _ (HK.out.kept HG.out)).mono ?_
  rintro e w3 ⟨rfl, hG⟩
  replace HG : Keep (w.grownBy w3 none) := ⟨HG.out.trans hG⟩
  clear hG
  rw [HFF.out]
  go_wp2_with fail
  refine (runes_c (mk A) _ (by omega)).mono ?_
  rintro e w4 ⟨rfl, hG⟩
  replace HG : Keep (w.grownBy w4 none) := ⟨HG.out.trans hG⟩
  clear hG
  rw [HR.out]
  go_wp2_with fail
  refine (runes_c a _ (by omega)).mono ?_
  rintro e w5 ⟨rfl, hG⟩
  replace HG : Keep (w.grownBy w5 none) := ⟨HG.out.trans hG⟩
  clear hG
  go_wp2_with fail
  refine (same_c a (mk A) _ (HK.out.kept HG.out)).mono ?_
  rintro e w6 ⟨rfl, hG⟩
  replace HG : Keep (w.grownBy w6 none) := ⟨HG.out.trans hG⟩
  clear hG
  rw [HA.out, HFF.out, decide_eq_true (Eq.refl A)]
  go_wp2_with fail
  refine (same_c a a _ (HK.out.kept HG.out)).mono ?_
  rintro e w7 ⟨rfl, hG⟩
  replace HG : Keep (w.grownBy w7 none) := ⟨HG.out.trans hG⟩
  clear hG
  rw [HA.out, decide_eq_true (Eq.refl A)]
  go_wp2_with fail
  refine (same_c a b _ (HK.out.kept HG.out)).mono ?_
  rintro e w8 ⟨rfl, hG⟩
  replace HG : Keep (w.grownBy w8 none) := ⟨HG.out.trans hG⟩
  clear hG
  rw [HA.out, HB.out]
  go_wp2_with fail
  refine (same_c b a _ (HK.out.kept HG.out)).mono ?_
  rintro e w9 ⟨rfl, hG⟩
  replace HG : Keep (w.grownBy w9 none) := ⟨HG.out.trans hG⟩
  clear hG
  rw [HA.out, HB.out]
  have hsy : decide (B = A) = decide (A = B) := decide_eq_decide.2 ⟨Eq.symm, Eq.symm⟩
  rw [hsy]
  clear hsy
  generalize decide (A = B) = Q at heq ⊢
  cases Q
  · go_wp2_with fail
    refine (same_c a b _ (HK.out.kept HG.out)).mono ?_
    rintro e w10 ⟨rfl, hG⟩
    replace HG : Keep (w.grownBy w10 none) := ⟨HG.out.trans hG⟩
    clear hG
    rw [HA.out, HB.out]
    have hq : decide (A = B) = false := by rw [← eqS]; exact heq
    rw [hq]
    clear hq
    go_wp2_with fail
    refine (fold_c b _ (HK.out.kept HG.out)).mono ?_
    rintro e w11 ⟨rfl, hG⟩
    replace HG : Keep (w.grownBy w11 none) := ⟨HG.out.trans hG⟩
    clear hG
    rw [HB.out]
    go_wp2_with fail
    refine (check_c a _ (by omega) (HK.out.kept HG.out)).mono ?_
    rintro e w12 ⟨rfl, hG⟩
    replace HG : Keep (w.grownBy w12 none) := ⟨HG.out.trans hG⟩
    clear hG
    go_wp2_with fail
    refine (num_c _ _).mono ?_
    rintro e wq ⟨rfl, rfl⟩
    go_wp2_with fail
    refine (check_c (mk A) _ (by omega) (HK.out.kept HG.out)).mono ?_
    rintro e w14 ⟨rfl, hG⟩
    replace HG : Keep (w.grownBy w14 none) := ⟨HG.out.trans hG⟩
    clear hG
    rw [HC.out]
    go_wp2_with fail
    refine (num_c _ _).mono ?_
    rintro e wq ⟨rfl, rfl⟩
    go_wp2_with fail
    refine (check_c a _ (by omega) (HK.out.kept HG.out)).mono ?_
    rintro e w16 ⟨rfl, hG⟩
    replace HG : Keep (w.grownBy w16 none) := ⟨HG.out.trans hG⟩
    clear hG
    go_wp2_with fail
    refine (num_c _ _).mono ?_
    rintro e wq ⟨rfl, rfl⟩
    rcases chk_or a with h60 | ⟨h0, h1, h2, h3⟩
    · rw [h60]
      have H60 := Keep.mk h60
      clear h60
      go_wp2_with fail
      refine (check_c a _ (by omega) (HK.out.kept HG.out)).mono ?_
      rintro e w18 ⟨rfl, hG⟩
      replace HG : Keep (w.grownBy w18 none) := ⟨HG.out.trans hG⟩
      clear hG
      rw [H60.out]
      go_wp2_with fail
      refine (num_c _ _).mono ?_
      rintro e wq ⟨rfl, rfl⟩
      go_wp2_with fail
      go_ret
      exact ⟨rfl, HG.out⟩
    · rw [h0]
      clear h0
      go_wp2_with fail
      refine (runes_c a _ (by omega)).mono ?_
      rintro e w18 ⟨rfl, hG⟩
      replace HG : Keep (w.grownBy w18 none) := ⟨HG.out.trans hG⟩
      clear hG
      go_wp2_with fail
      go_ret
      refine ⟨?_, HG.out⟩
      show Ending.returned (.bool (decide ((a.size : Int) ≤ 24))) = _
      rw [decide_eq_true (by omega)]
  · go_wp2_with fail
    refine (same_c a b _ (HK.out.kept HG.out)).mono ?_
    rintro e w10 ⟨rfl, hG⟩
    replace HG : Keep (w.grownBy w10 none) := ⟨HG.out.trans hG⟩
    clear hG
    rw [HA.out, HB.out]
    have hq : decide (A = B) = true := by rw [← eqS]; exact heq
    rw [hq]
    clear hq
    go_wp2_with fail
    refine (fold_c b _ (HK.out.kept HG.out)).mono ?_
    rintro e w11 ⟨rfl, hG⟩
    replace HG : Keep (w.grownBy w11 none) := ⟨HG.out.trans hG⟩
    clear hG
    rw [HB.out]
    go_wp2_with fail
    refine (check_c a _ (by omega) (HK.out.kept HG.out)).mono ?_
    rintro e w12 ⟨rfl, hG⟩
    replace HG : Keep (w.grownBy w12 none) := ⟨HG.out.trans hG⟩
    clear hG
    go_wp2_with fail
    refine (num_c _ _).mono ?_
    rintro e wq ⟨rfl, rfl⟩
    go_wp2_with fail
    refine (check_c (mk A) _ (by omega) (HK.out.kept HG.out)).mono ?_
    rintro e w14 ⟨rfl, hG⟩
    replace HG : Keep (w.grownBy w14 none) := ⟨HG.out.trans hG⟩
    clear hG
    rw [HC.out]
    go_wp2_with fail
    refine (num_c _ _).mono ?_
    rintro e wq ⟨rfl, rfl⟩
    go_wp2_with fail
    refine (check_c a _ (by omega) (HK.out.kept HG.out)).mono ?_
    rintro e w16 ⟨rfl, hG⟩
    replace HG : Keep (w.grownBy w16 none) := ⟨HG.out.trans hG⟩
    clear hG
    go_wp2_with fail
    refine (num_c _ _).mono ?_
    rintro e wq ⟨rfl, rfl⟩
    rcases chk_or a with h60 | ⟨h0, h1, h2, h3⟩
    · rw [h60]
      have H60 := Keep.mk h60
      clear h60
      go_wp2_with fail
      refine (check_c a _ (by omega) (HK.out.kept HG.out)).mono ?_
      rintro e w18 ⟨rfl, hG⟩
      replace HG : Keep (w.grownBy w18 none) := ⟨HG.out.trans hG⟩
      clear hG
      rw [H60.out]
      go_wp2_with fail
      refine (num_c _ _).mono ?_
      rintro e wq ⟨rfl, rfl⟩
      go_wp2_with fail
      go_ret
      exact ⟨rfl, HG.out⟩
    · rw [h0]
      clear h0
      go_wp2_with fail
      refine (runes_c a _ (by omega)).mono ?_
      rintro e w18 ⟨rfl, hG⟩
      replace HG : Keep (w.grownBy w18 none) := ⟨HG.out.trans hG⟩
      clear hG
      go_wp2_with fail
      go_ret
      refine ⟨?_, HG.out⟩
      show Ending.returned (.bool (decide ((a.size : Int) ≤ 24))) = _
      rw [decide_eq_true (by omega)]
end Go.Proofs.YthhpbonacefmaaaDoor
