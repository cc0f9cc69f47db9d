/- NameRunes' walk. -/
import Derived.Test.YthhpbonacefmaaaDoorL3
import Derived.Test.YthhpbonacefmaaaDoorL1
import Derived.Deep.DeepCutAuto
namespace Go.Proofs.YthhpbonacefmaaaDoor
open Go Go.RowKit

/-- a name's rune, in the law's words -/
def goodI (n : Int) : Prop := (97 ≤ n ∧ n ≤ 122) ∨ (65 ≤ n ∧ n ≤ 90) ∨ (48 ≤ n ∧ n ≤ 57) ∨ n = 95 ∨ n = 45 ∨ (192 ≤ n ∧ n ≤ 255 ∧ n ≠ 215 ∧ n ≠ 247) ∨ (945 ≤ n ∧ n ≤ 969)
instance (n : Int) : Decidable (goodI n) := by unfold goodI; exact inferInstance
theorem good_fnd (n : Nat) : (fnd n).isSome = decide (goodI n) := by
  rw [Bool.eq_iff_iff, fnd_good, decide_eq_true_eq]
  unfold goodI
  omega
structure RF (n : Nat) (s f : ByteArray) : Prop where
  chk : chk s = if goodI n then 0 else 60
  fold : mk (foldL (sl s)) = f
  runes : rn s = 1
  cut : cutB s 1 = s
  size : s.size ≤ 4 ∧ 1 ≤ s.size
  two : s.size ≠ 1 → rn (s ++ s) = 2 ∧ ∀ c, sl c = (sl s).dropLast → rn c = c.size ∧ YthhpbonacefmaaaDoor.chk c = 60 ∧ mk (foldL (sl c)) = c
theorem utf_enc {n : Nat} (h : (97 ≤ n ∧ n ≤ 122) ∨ (224 ≤ n ∧ n ≤ 254)) : encL n = utfL n := by
  unfold encL utfL
  by_cases h1 : n < 128
  · rw [if_pos h1, if_pos h1]
  · rw [if_neg h1, if_neg h1, if_pos (by omega)]
    rw [show 192 + n / 64 = 195 by omega, show 128 + n % 64 = n - 64 by omega]
    rfl
theorem utf_len (n : Nat) : (utfL n).length ≤ 4 ∧ 1 ≤ (utfL n).length ∧ ((utfL n).length ≠ 1 → 128 ≤ n) := by
  unfold utfL
  repeat' split
  all_goals simp
  all_goals omega
theorem rune_facts (n : Nat) (h : n ≤ 1114111) (h2 : n < 55296 ∨ 57343 < n) : RF n (mk (utfL n)) (mk (utfL (if large n then n + 32 else n))) := by
  have hw := wholeU h h2
  have hp : pieces (utfL n) = [(n, utfL n)] := by
    have := pieces_of_good (.whole hw .nil)
    rwa [flat_cons, flat_nil, List.append_nil] at this
  obtain ⟨l1, l2, l3⟩ := utf_len n
  have hz : (mk (utfL n)).size = (utfL n).length := mk_size _
  have hrn : rn (mk (utfL n)) = 1 := by unfold rn; rw [sl_mk, hp]; rfl
  refine ⟨?_, ?_, hrn, ?_, by omega, fun hs => ⟨?_, fun c hc => ?_⟩⟩
  · unfold YthhpbonacefmaaaDoor.chk chkOK
    rw [hrn, sl_mk, hp, hz, decide_eq_true (show (utfL n).length ≠ 0 by omega), decide_eq_true (show (utfL n).length ≤ 24 by omega)]
    simp only [List.all_cons, List.all_nil, good_fnd]
    simp
  · rw [sl_mk]
    unfold foldL
    rw [hp]
    congr 1
    simp only [List.map_cons, List.map_nil, flat_cons, flat_nil, List.append_nil, small]
    split
    · rename_i hl
      exact utf_enc (by unfold large at hl; omega)
    · rfl
  · unfold cutB cutL
    rw [sl_mk, hp]
    simp [flat]
  · unfold rn
    rw [sl_app, sl_mk]
    have := pieces_of_good (.whole hw (.whole hw .nil))
    rw [flat_cons, flat_cons, flat_nil, List.append_nil] at this
    rw [this]; rfl
  · rw [sl_mk] at hc
    have ho := oddU h (l3 (by omega))
    rw [← hc] at ho
    have hne : sl c ≠ [] := by
      rw [hc]
      intro e
      have := congrArg List.length e
      rw [List.length_dropLast] at this
      simp at this
      omega
    refine ⟨?_, ?_, ?_⟩
    · unfold rn; rw [ho, ← sl_len]; simp [odds]
    · refine chk_no ?_
      intro h60
      simp only [chkOK, Bool.and_eq_true, List.all_eq_true] at h60
      match hl : sl c, hne with
      | b :: t, _ =>
        rw [ho, hl] at h60
        have := h60.2 (65533, [b]) (by simp [odds])
        rw [good_fnd] at this
        exact absurd (of_decide_eq_true this) (by show ¬ goodI 65533; unfold goodI; omega)
    · unfold foldL
      rw [ho]
      have e : (odds (sl c)).map small = odds (sl c) := by
        unfold odds
        rw [List.map_map]
        apply List.map_congr_left
        intro b _
        exact small_odd b
      rw [e, flat_odds, mk_sl]
theorem rune_low {n : Int} (h : rune n) : rune (if large n.toNat then n + 32 else n) := by
  split
  · rename_i hl
    unfold rune at h ⊢
    unfold large at hl
    omega
  · exact h
theorem ext_last (s : ByteArray) (k : Nat) (h : k + 1 = s.size) : sl (s.extract 0 k) = (sl s).dropLast := by
  rw [sl_ext, List.drop_zero, List.dropLast_eq_take, sl_len]; congr 1; omega

set_option maxRecDepth 100000 in
set_option maxHeartbeats 40000000 in
theorem runes_any (n : Int) (w : World) (_hn1 : -9223372036854775808 ≤ n) (_hn2 : n ≤ 9223372036854775807) (hk : Kc w) :
    Calls Tryd.prog 6 #[iv n] w fun e w' => e = .returned (.bool true) ∧ w.grownBy w' none := by
  have HK := Keep.mk hk
  clear hk
  have HG : Keep (w.grownBy w none) := ⟨World.grownBy.refl _ _⟩
  go_enter Tryd.func6, Tryd.ntmps6
  go_wp2_with fail
  refine (alive_c _ (HK.out.kept HG.out)).mono ?_
  rintro e w1 ⟨rfl, hG⟩
  replace HG : Keep (w.grownBy w1 none) := ⟨HG.out.trans hG⟩
  clear hG
  go_wp2_with fail
  by_cases hrune : rune n
  case neg =>
    refine (spell_no n _ hrune).mono ?_
    rintro e wq ⟨rfl, rfl⟩
    go_wp2_with fail
    go_ret
    exact ⟨rfl, HG.out⟩
  case pos =>
  refine (spell_c n _ hrune).mono ?_
  rintro e w2 ⟨rfl, hG⟩
  replace HG : Keep (w.grownBy w2 none) := ⟨HG.out.trans hG⟩
  clear hG
  have hrn := hrune
  unfold rune at hrune
  have hF := rune_facts n.toNat (by omega) (by omega)
  obtain ⟨S, hS⟩ : ∃ S, mk (utfL n.toNat) = S := ⟨_, rfl⟩
  rw [hS] at hF ⊢
  clear hS
  obtain ⟨G, hGd⟩ : ∃ G, decide (goodI n) = G := ⟨_, rfl⟩
  obtain ⟨M, hM⟩ : ∃ M : Int, (if large n.toNat then n + 32 else n) = M := ⟨_, rfl⟩
  have HM : Keep ((if large n.toNat then n + 32 else n) = M) := ⟨hM⟩
  have HMn : Keep (M.toNat = if large n.toNat then n.toNat + 32 else n.toNat) := ⟨by rw [← hM]; split <;> omega⟩
  have HMr : Keep (rune M) := ⟨hM ▸ rune_low hrn⟩
  have HGd : Keep (decide (goodI n) = G) := ⟨hGd⟩
  rw [← HMn.out] at hF
  have HC : Keep (chk S = if G then 0 else 60) := ⟨by rw [hF.chk, ← hGd, show ((n.toNat : Nat) : Int) = n by omega]; simp⟩
  obtain ⟨f1, f2, f3, f4, f5, f6⟩ := hF
  have HRU := Keep.mk hrune
  have hlo : 0 ≤ n := hrune.1
  have hhi : n ≤ 1114111 := hrune.2.1
  clear f1 hrune hrn
  have F2 := Keep.mk f2
  have F3 := Keep.mk f3
  have F4 := Keep.mk f4
  have F6 := Keep.mk f6
  clear hM hGd f2 f3 f4 f6
  go_upto_region 6 with fail
  go_cut [5] (fun sv wx => sv = .bool G ∧ Keep (w.grownBy wx none))
  case first =>
    by_cases i0 : n < 45
    case pos =>
      have e : G = false := by rw [← HGd.out]; exact decide_eq_false (by unfold goodI; omega)
      subst e
      go_wp2_with fail
      go_meet
      exact ⟨by first | rfl | (simp; omega), HG⟩
    case neg =>
    by_cases i1 : n < 46
    case pos =>
      obtain rfl : n = 45 := by omega
      have e : G = true := by rw [← HGd.out]; exact decide_eq_true (by unfold goodI; omega)
      subst e
      go_wp2_with fail
      go_meet
      exact ⟨by first | rfl | (simp; omega), HG⟩
    case neg =>
    by_cases i2 : n < 48
    case pos =>
      have e : G = false := by rw [← HGd.out]; exact decide_eq_false (by unfold goodI; omega)
      subst e
      go_wp2_with fail
      go_meet
      exact ⟨by first | rfl | (simp; omega), HG⟩
    case neg =>
    by_cases i3 : n < 58
    case pos =>
      have e : G = true := by rw [← HGd.out]; exact decide_eq_true (by unfold goodI; omega)
      subst e
      go_wp2_with fail
      go_meet
      exact ⟨by first | rfl | (simp; omega), HG⟩
    case neg =>
    by_cases i4 : n < 65
    case pos =>
      have e : G = false := by rw [← HGd.out]; exact decide_eq_false (by unfold goodI; omega)
      subst e
      go_wp2_with fail
      go_meet
      exact ⟨by first | rfl | (simp; omega), HG⟩
    case neg =>
    by_cases i5 : n < 91
    case pos =>
      have e : G = true := by rw [← HGd.out]; exact decide_eq_true (by unfold goodI; omega)
      subst e
      go_wp2_with fail
      go_meet
      exact ⟨by first | rfl | (simp; omega), HG⟩
    case neg =>
    by_cases i6 : n < 95
    case pos =>
      have e : G = false := by rw [← HGd.out]; exact decide_eq_false (by unfold goodI; omega)
      subst e
      go_wp2_with fail
      go_meet
      exact ⟨by first | rfl | (simp; omega), HG⟩
    case neg =>
    by_cases i7 : n < 96
    case pos =>
      obtain rfl : n = 95 := by omega
      have e : G = true := by rw [← HGd.out]; exact decide_eq_true (by unfold goodI; omega)
      subst e
      go_wp2_with fail
      go_meet
      exact ⟨by first | rfl | (simp; omega), HG⟩
    case neg =>
    by_cases i8 : n < 97
    case pos =>
      obtain rfl : n = 96 := by omega
      have e : G = false := by rw [← HGd.out]; exact decide_eq_false (by unfold goodI; omega)
      subst e
      go_wp2_with fail
      go_meet
      exact ⟨by first | rfl | (simp; omega), HG⟩
    case neg =>
    by_cases i9 : n < 123
    case pos =>
      have e : G = true := by rw [← HGd.out]; exact decide_eq_true (by unfold goodI; omega)
      subst e
      go_wp2_with fail
      go_meet
      exact ⟨by first | rfl | (simp; omega), HG⟩
    case neg =>
    by_cases i10 : n < 192
    case pos =>
      have e : G = false := by rw [← HGd.out]; exact decide_eq_false (by unfold goodI; omega)
      subst e
      go_wp2_with fail
      go_meet
      exact ⟨by first | rfl | (simp; omega), HG⟩
    case neg =>
    by_cases i11 : n < 215
    case pos =>
      have e : G = true := by rw [← HGd.out]; exact decide_eq_true (by unfold goodI; omega)
      subst e
      go_wp2_with fail
      go_meet
      exact ⟨by first | rfl | (simp; omega), HG⟩
    case neg =>
    by_cases i12 : n < 216
    case pos =>
      obtain rfl : n = 215 := by omega
      have e : G = false := by rw [← HGd.out]; exact decide_eq_false (by unfold goodI; omega)
      subst e
      go_wp2_with fail
      go_meet
      exact ⟨by first | rfl | (simp; omega), HG⟩
    case neg =>
    by_cases i13 : n < 247
    case pos =>
      have e : G = true := by rw [← HGd.out]; exact decide_eq_true (by unfold goodI; omega)
      subst e
      go_wp2_with fail
      go_meet
      exact ⟨by first | rfl | (simp; omega), HG⟩
    case neg =>
    by_cases i14 : n < 248
    case pos =>
      obtain rfl : n = 247 := by omega
      have e : G = false := by rw [← HGd.out]; exact decide_eq_false (by unfold goodI; omega)
      subst e
      go_wp2_with fail
      go_meet
      exact ⟨by first | rfl | (simp; omega), HG⟩
    case neg =>
    by_cases i15 : n < 256
    case pos =>
      have e : G = true := by rw [← HGd.out]; exact decide_eq_true (by unfold goodI; omega)
      subst e
      go_wp2_with fail
      go_meet
      exact ⟨by first | rfl | (simp; omega), HG⟩
    case neg =>
    by_cases i16 : n < 945
    case pos =>
      have e : G = false := by rw [← HGd.out]; exact decide_eq_false (by unfold goodI; omega)
      subst e
      go_wp2_with fail
      go_meet
      exact ⟨by first | rfl | (simp; omega), HG⟩
    case neg =>
    by_cases i17 : n < 970
    case pos =>
      have e : G = true := by rw [← HGd.out]; exact decide_eq_true (by unfold goodI; omega)
      subst e
      go_wp2_with fail
      go_meet
      exact ⟨by first | rfl | (simp; omega), HG⟩
    case neg =>
    have e : G = false := by rw [← HGd.out]; exact decide_eq_false (by unfold goodI; omega)
    subst e
    go_wp2_with fail
    go_meet
    exact ⟨by first | rfl | (simp; omega), HG⟩
  case rest =>
  replace HG := hcut.2
  replace hcut := hcut.1
  subst hcut
  go_upto_region 8 with fail
  obtain ⟨B, hB⟩ : ∃ B, decide (large n.toNat) = B := ⟨_, rfl⟩
  have HB := Keep.mk hB
  clear hB
  go_cut [91] (fun sv wx => sv = .bool B ∧ Keep (w.grownBy wx none))
  case first =>
    by_cases j0 : n < 65
    case pos =>
      have e : B = false := by rw [← HB.out]; exact decide_eq_false (by unfold large; omega)
      subst e
      go_wp2_with fail
      go_meet
      exact ⟨by first | rfl | (simp; omega), HG⟩
    case neg =>
    by_cases j1 : n < 91
    case pos =>
      have e : B = true := by rw [← HB.out]; exact decide_eq_true (by unfold large; omega)
      subst e
      go_wp2_with fail
      go_meet
      exact ⟨by first | rfl | (simp; omega), HG⟩
    case neg =>
    by_cases j2 : n < 192
    case pos =>
      have e : B = false := by rw [← HB.out]; exact decide_eq_false (by unfold large; omega)
      subst e
      go_wp2_with fail
      go_meet
      exact ⟨by first | rfl | (simp; omega), HG⟩
    case neg =>
    by_cases j3 : n < 215
    case pos =>
      have e : B = true := by rw [← HB.out]; exact decide_eq_true (by unfold large; omega)
      subst e
      go_wp2_with fail
      go_meet
      exact ⟨by first | rfl | (simp; omega), HG⟩
    case neg =>
    by_cases j4 : n < 216
    case pos =>
      obtain rfl : n = 215 := by omega
      have e : B = false := by rw [← HB.out]; exact decide_eq_false (by unfold large; omega)
      subst e
      go_wp2_with fail
      go_meet
      exact ⟨by first | rfl | (simp; omega), HG⟩
    case neg =>
    by_cases j5 : n < 223
    case pos =>
      have e : B = true := by rw [← HB.out]; exact decide_eq_true (by unfold large; omega)
      subst e
      go_wp2_with fail
      go_meet
      exact ⟨by first | rfl | (simp; omega), HG⟩
    case neg =>
    have e : B = false := by rw [← HB.out]; exact decide_eq_false (by unfold large; omega)
    subst e
    go_wp2_with fail
    go_meet
    exact ⟨by first | rfl | (simp; omega), HG⟩
  case rest =>
  replace HG := hcut.2
  replace hcut := hcut.1
  subst hcut
  go_upto_if 91 with fail
  go_cut [6] (fun sv wx => sv = iv M ∧ Keep (w.grownBy wx none))
  case first =>
    cases B
    · have e : M = n := by rw [← HM.out]; exact if_neg (of_decide_eq_false HB.out)
      subst e
      go_wp2_with fail
      go_meet
      exact ⟨rfl, HG⟩
    · have e : M = n + 32 := by rw [← HM.out]; exact if_pos (of_decide_eq_true HB.out)
      subst e
      go_wp2_with fail
      go_meet
      exact ⟨rfl, HG⟩
  case rest =>
  replace HG := hcut.2
  replace hcut := hcut.1
  subst hcut
  go_wp2_with fail
  refine (spell_c M _ HMr.out).mono ?_
  rintro e w3 ⟨rfl, hG⟩
  replace HG : Keep (w.grownBy w3 none) := ⟨HG.out.trans hG⟩
  clear hG
  obtain ⟨F, hF⟩ : ∃ F, mk (utfL M.toNat) = F := ⟨_, rfl⟩
  rw [hF] at F2 ⊢
  clear hF
  go_wp2_with fail
  refine (check_c S _ (by omega) (HK.out.kept HG.out)).mono ?_
  rintro e w4 ⟨rfl, hG⟩
  replace HG : Keep (w.grownBy w4 none) := ⟨HG.out.trans hG⟩
  clear hG
  rw [HC.out]
  cases G
  case false =>
    simp only [Bool.false_eq_true, if_false]
    go_wp2_with fail
    refine (num_c _ _).mono ?_
    rintro e wq ⟨rfl, rfl⟩
    go_wp2_with fail
    refine (fold_c S _ (HK.out.kept HG.out)).mono ?_
    rintro e w6 ⟨rfl, hG⟩
    replace HG : Keep (w.grownBy w6 none) := ⟨HG.out.trans hG⟩
    clear hG
    rw [F2.out]
    go_wp2_with fail
    refine (runes_c S _ (by omega)).mono ?_
    rintro e w7 ⟨rfl, hG⟩
    replace HG : Keep (w.grownBy w7 none) := ⟨HG.out.trans hG⟩
    clear hG
    rw [F3.out]
    go_wp2_with fail
    refine (cut_c S 1 _ (by omega) (by omega) (by omega)).mono ?_
    rintro e w8 ⟨rfl, hG⟩
    replace HG : Keep (w.grownBy w8 none) := ⟨HG.out.trans hG⟩
    clear hG
    rw [F4.out]
    by_cases hs1 : S.size = 1
    case pos =>
      go_wp2_with fail
      go_ret
      exact ⟨rfl, HG.out⟩
    case neg =>
      obtain ⟨f7, f8⟩ := F6.out hs1
      obtain ⟨k, hk⟩ : ∃ k : Nat, k + 1 = S.size := ⟨S.size - 1, by omega⟩
      obtain ⟨f9, f10, f11⟩ := f8 (S.extract 0 k) (ext_last S k hk)
      have hce : (S.extract 0 k).size = k := by rw [← sl_len, sl_ext, List.drop_zero, List.length_take, sl_len]; omega
      obtain ⟨C, hC⟩ : ∃ C, S.extract 0 k = C := ⟨_, rfl⟩
      rw [hC] at f9 f10 f11 hce
      have F7 := Keep.mk f7
      have F9 := Keep.mk f9
      have F10 := Keep.mk f10
      have F11 := Keep.mk f11
      clear f7 f8 f9 f10 f11
      have hadd := addS S S (by omega)
      have hkk : (S.size : Int) - 1 = k := by omega
      go_wp2_with fail
      refine (runes_c C _ (by omega)).mono ?_
      rintro e w9 ⟨rfl, hG⟩
      replace HG : Keep (w.grownBy w9 none) := ⟨HG.out.trans hG⟩
      clear hG
      rw [F9.out]
      go_wp2_with fail
      refine (check_c C _ (by omega) (HK.out.kept HG.out)).mono ?_
      rintro e w10 ⟨rfl, hG⟩
      replace HG : Keep (w.grownBy w10 none) := ⟨HG.out.trans hG⟩
      clear hG
      rw [F10.out]
      go_wp2_with fail
      refine (num_c _ _).mono ?_
      rintro e wq ⟨rfl, rfl⟩
      go_wp2_with fail
      refine (fold_c C _ (HK.out.kept HG.out)).mono ?_
      rintro e w12 ⟨rfl, hG⟩
      replace HG : Keep (w.grownBy w12 none) := ⟨HG.out.trans hG⟩
      clear hG
      rw [F11.out]
      go_wp2_with fail
      refine (runes_c (S ++ S) _ (by rw [ByteArray.size_append]; omega)).mono ?_
      rintro e w13 ⟨rfl, hG⟩
      replace HG : Keep (w.grownBy w13 none) := ⟨HG.out.trans hG⟩
      clear hG
      rw [F7.out]
      go_wp2_with fail
      go_ret
      exact ⟨rfl, HG.out⟩
  case true =>
    simp only [if_true]
    go_wp2_with fail
    refine (num_c _ _).mono ?_
    rintro e wq ⟨rfl, rfl⟩
    go_wp2_with fail
    refine (fold_c S _ (HK.out.kept HG.out)).mono ?_
    rintro e w6 ⟨rfl, hG⟩
    replace HG : Keep (w.grownBy w6 none) := ⟨HG.out.trans hG⟩
    clear hG
    rw [F2.out]
    go_wp2_with fail
    refine (runes_c S _ (by omega)).mono ?_
    rintro e w7 ⟨rfl, hG⟩
    replace HG : Keep (w.grownBy w7 none) := ⟨HG.out.trans hG⟩
    clear hG
    rw [F3.out]
    go_wp2_with fail
    refine (cut_c S 1 _ (by omega) (by omega) (by omega)).mono ?_
    rintro e w8 ⟨rfl, hG⟩
    replace HG : Keep (w.grownBy w8 none) := ⟨HG.out.trans hG⟩
    clear hG
    rw [F4.out]
    by_cases hs1 : S.size = 1
    case pos =>
      go_wp2_with fail
      go_ret
      exact ⟨rfl, HG.out⟩
    case neg =>
      obtain ⟨f7, f8⟩ := F6.out hs1
      obtain ⟨k, hk⟩ : ∃ k : Nat, k + 1 = S.size := ⟨S.size - 1, by omega⟩
      obtain ⟨f9, f10, f11⟩ := f8 (S.extract 0 k) (ext_last S k hk)
      have hce : (S.extract 0 k).size = k := by rw [← sl_len, sl_ext, List.drop_zero, List.length_take, sl_len]; omega
      obtain ⟨C, hC⟩ : ∃ C, S.extract 0 k = C := ⟨_, rfl⟩
      rw [hC] at f9 f10 f11 hce
      have F7 := Keep.mk f7
      have F9 := Keep.mk f9
      have F10 := Keep.mk f10
      have F11 := Keep.mk f11
      clear f7 f8 f9 f10 f11
      have hadd := addS S S (by omega)
      have hkk : (S.size : Int) - 1 = k := by omega
      go_wp2_with fail
      refine (runes_c C _ (by omega)).mono ?_
      rintro e w9 ⟨rfl, hG⟩
      replace HG : Keep (w.grownBy w9 none) := ⟨HG.out.trans hG⟩
      clear hG
      rw [F9.out]
      go_wp2_with fail
      refine (check_c C _ (by omega) (HK.out.kept HG.out)).mono ?_
      rintro e w10 ⟨rfl, hG⟩
      replace HG : Keep (w.grownBy w10 none) := ⟨HG.out.trans hG⟩
      clear hG
      rw [F10.out]
      go_wp2_with fail
      refine (num_c _ _).mono ?_
      rintro e wq ⟨rfl, rfl⟩
      go_wp2_with fail
      refine (fold_c C _ (HK.out.kept HG.out)).mono ?_
      rintro e w12 ⟨rfl, hG⟩
      replace HG : Keep (w.grownBy w12 none) := ⟨HG.out.trans hG⟩
      clear hG
      rw [F11.out]
      go_wp2_with fail
      refine (runes_c (S ++ S) _ (by rw [ByteArray.size_append]; omega)).mono ?_
      rintro e w13 ⟨rfl, hG⟩
      replace HG : Keep (w.grownBy w13 none) := ⟨HG.out.trans hG⟩
      clear hG
      rw [F7.out]
      go_wp2_with fail
      go_ret
      exact ⟨rfl, HG.out⟩
end Go.Proofs.YthhpbonacefmaaaDoor
