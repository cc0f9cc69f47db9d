/- NameCuts' walk. -/
import Derived.Test.YthhpbonacefmaaaDoorL1
import Derived.Deep.DeepCutAuto
namespace Go.Proofs.YthhpbonacefmaaaDoor
open Go Go.RowKit

theorem cut_cut (s : ByteArray) (n m : Int) : cutB (cutB s n) m = cutB s (min m n) := by
  unfold cutB
  rw [sl_mk]
  congr 1
  unfold cutL
  rw [show flat ((pieces (sl s)).take n.toNat) = cutL (sl s) n.toNat from rfl, pieces_cut, List.take_take]
  congr 2
  omega
theorem cut_all (s : ByteArray) (n : Int) (h : (rn s : Int) ≤ n) : cutB s n = s := by
  unfold cutB cutL
  rw [List.take_of_length_le (by unfold rn at h; omega), flat_pieces, mk_sl]
theorem cut_pre (s : ByteArray) (n : Int) : s.extract 0 (cutB s n).size = cutB s n := by
  have := cut_ext s n
  rw [posn_cut] at this
  rw [show (cutB s n).size = (cutL (sl s) n.toNat).length from mk_size _]
  exact this
theorem good_blank (k : Nat) : Good ((List.replicate k (32 : UInt8)).map fun b => (b.toNat, [b])) := good_ascii _ (by
  intro b hb; rw [(List.mem_replicate.1 hb).2]; decide)
theorem pieces_pad (l : List UInt8) (k : Nat) : pieces (padL l k) = (pieces l).take k ++ (List.replicate (k - min k (pieces l).length) (32 : UInt8)).map fun b => (b.toNat, [b]) := by
  have hg := good_app (good_take (good_pieces l) k) (good_blank (k - min k (pieces l).length)) (by
    rw [flat_ascii]
    cases (k - min k (pieces l).length) with
    | zero => rfl
    | succ j => rw [List.replicate_succ, List.takeWhile_cons_of_neg (by decide)])
  have := pieces_of_good hg
  rw [flat_app, flat_ascii] at this
  exact this
theorem rn_pad (s : ByteArray) (n : Int) : rn (padB s n) = pk n := by
  unfold rn padB
  rw [sl_mk, pieces_pad]
  simp
  omega
structure PF (s : ByteArray) (K : Int) (p c : ByteArray) : Prop where
  r : (rn p : Int) = K
  le : c.size ≤ p.size
  ext : p.extract 0 c.size = c
  dif : (p.size : Int) - c.size = K - rn c
  at_ : ∀ i, c.size ≤ i → i < p.size → (sl p)[i]? = some 32
theorem pad_facts (s : ByteArray) (n K : Int) (h0 : 0 ≤ K) (h : pk n = K.toNat) : PF s K (padB s n) (cutB s K) := by
  have e : sl (padB s n) = sl (cutB s K) ++ List.replicate (K.toNat - min K.toNat (rn s)) 32 := by
    unfold padB padL cutB
    rw [sl_mk, sl_mk, h]; rfl
  have hz : (padB s n).size = (cutB s K).size + (K.toNat - min K.toNat (rn s)) := by
    rw [← sl_len, e, List.length_append, sl_len, List.length_replicate]
  refine ⟨by rw [rn_pad, h]; omega, by omega, ?_, by rw [rn_cut]; omega, fun i h1 h2 => ?_⟩
  · apply sl_inj
    rw [sl_ext, e, List.drop_zero, ← sl_len, List.take_left]
  · rw [e, List.getElem?_append_right (by rw [sl_len]; exact h1), List.getElem?_replicate, if_pos (by rw [sl_len]; omega)]
theorem sl_at (s : ByteArray) (i : Nat) (h : i < s.size) : (sl s)[i]? = some s[i] := by
  unfold sl
  rw [Array.getElem?_toList]
  exact Array.getElem?_eq_getElem h
theorem idx9 (s : ByteArray) (i : Nat) (y : UInt8) (h : i < s.size) (hy : (sl s)[i]? = some y) (W : World) : (Instr.index 9 (.string s) (.int .i64 (i : Int))).run Tryd.prog W = .ok (.int .u8 y.toNat) W := by
  rw [run_index_string W 9 s .i64 i (by kernel_rfl), dif_pos ⟨by omega, by omega⟩]
  rw [sl_at s i h] at hy
  simp only [Int.toNat_natCast, Option.some.inj hy]

set_option maxRecDepth 100000 in
set_option maxHeartbeats 40000000 in
theorem cuts_any (s : ByteArray) (n m : Int) (w : World) (hs : s.size ≤ 140737488355328) (hn1 : -9223372036854775808 ≤ n) (hn2 : n ≤ 9223372036854775807) (hm1 : -9223372036854775808 ≤ m) (hm2 : m ≤ 9223372036854775807) (hk : Kc w) :
    Calls Tryd.prog 4 #[.string s, iv n, iv m] w fun e w' => e = .returned (.bool true) ∧ w.grownBy w' none := by
  have HK := Keep.mk hk
  clear hk
  have HG : Keep (w.grownBy w none) := ⟨World.grownBy.refl _ _⟩
  have hr := rn_le s
  go_enter Tryd.func4, Tryd.ntmps4
  obtain ⟨X1, hX1⟩ : ∃ X : Int, max 0 n = X := ⟨_, rfl⟩
  obtain ⟨Wt, hWt⟩ : ∃ X : Int, min X1 (rn s) = X := ⟨_, rfl⟩
  obtain ⟨Ls, hLs⟩ : ∃ X : Int, min m n = X := ⟨_, rfl⟩
  obtain ⟨Kk, hKk⟩ : ∃ X : Int, min X1 4096 = X := ⟨_, rfl⟩
  have hb1 : 0 ≤ Kk ∧ Kk ≤ 4096 := by omega
  have hb2 : -9223372036854775808 ≤ Ls ∧ Ls ≤ 9223372036854775807 := by omega
  have HPK : Keep (pk n = Kk.toNat) := ⟨by unfold pk; omega⟩
  have E1 := Keep.mk hX1
  have E2 := Keep.mk hWt
  have E3 := Keep.mk hLs
  have E4 := Keep.mk hKk
  clear hX1 hWt hLs hKk
  go_wp2_with fail
  refine (alive_c _ (HK.out.kept HG.out)).mono ?_
  rintro e w1 ⟨rfl, hG⟩
  replace HG : Keep (w.grownBy w1 none) := ⟨HG.out.trans hG⟩
  clear hG
  go_wp2_with fail
  refine (cut_c s n _ (by omega) hn1 hn2).mono ?_
  rintro e w2 ⟨rfl, hG⟩
  replace HG : Keep (w.grownBy w2 none) := ⟨HG.out.trans hG⟩
  clear hG
  go_wp2_with fail
  obtain ⟨C, hC⟩ : ∃ C, cutB s n = C := ⟨_, rfl⟩
  have HC := Keep.mk hC
  have hX := cut_pre s n
  have hrc := rn_cut s n
  have hzC := cutB_size s n
  rw [hC] at hX hrc hzC ⊢
  clear hC
  have HRC : Keep ((rn C : Int) = Wt) := ⟨by have := E1.out; have := E2.out; omega⟩
  clear hrc
  refine (runes_c s _ (by omega)).mono ?_
  rintro e w3 ⟨rfl, hG⟩
  replace HG : Keep (w.grownBy w3 none) := ⟨HG.out.trans hG⟩
  clear hG
  go_upto_if 23 with fail
  go_cut [9] (fun sv wx => sv = iv X1 ∧ Keep (w.grownBy wx none))
  case first =>
    by_cases h0 : n < 0
    · have e : X1 = 0 := by have := E1.out; omega
      subst e
      go_wp2_with fail
      go_meet
      exact ⟨rfl, HG⟩
    · have e : X1 = n := by have := E1.out; omega
      subst e
      go_wp2_with fail
      go_meet
      exact ⟨rfl, HG⟩
  case rest =>
  replace HG := hcut.2
  replace hcut := hcut.1
  subst hcut
  go_upto_if 26 with fail
  go_cut [9] (fun sv wx => sv = iv Wt ∧ Keep (w.grownBy wx none))
  case first =>
    by_cases h0 : (rn s : Int) < X1
    · have e : Wt = (rn s : Int) := by have := E2.out; omega
      subst e
      go_wp2_with fail
      go_meet
      exact ⟨rfl, HG⟩
    · have e : Wt = X1 := by have := E2.out; omega
      subst e
      go_wp2_with fail
      go_meet
      exact ⟨rfl, HG⟩
  case rest =>
  replace HG := hcut.2
  replace hcut := hcut.1
  subst hcut
  go_upto_region 10 with fail
  go_cut [56] (fun sv wx => sv = .bool false ∧ Keep (w.grownBy wx none))
  case first =>
    by_cases h0 : (rn s : Int) ≤ n
    · have e : (C.toList == s.toList) = true := by rw [← HC.out, cut_all s n h0]; simp
      go_wp2_with fail
      refine (runes_c C _ (by omega)).mono ?_
      rintro e w4 ⟨rfl, hG⟩
      replace HG : Keep (w.grownBy w4 none) := ⟨HG.out.trans hG⟩
      clear hG
      rw [HRC.out]
      go_wp2_with fail
      go_meet
      exact ⟨by first | rfl | rw [decide_eq_false (by omega)], HG⟩
    · skip
      go_wp2_with fail
      refine (runes_c C _ (by omega)).mono ?_
      rintro e w4 ⟨rfl, hG⟩
      replace HG : Keep (w.grownBy w4 none) := ⟨HG.out.trans hG⟩
      clear hG
      rw [HRC.out]
      go_wp2_with fail
      go_meet
      exact ⟨by first | rfl | rw [decide_eq_false (by omega)], HG⟩
  case rest =>
  replace HG := hcut.2
  replace hcut := hcut.1
  subst hcut
  go_upto_if 60 with fail
  go_cut [10] (fun sv wx => sv = iv Ls ∧ Keep (w.grownBy wx none))
  case first =>
    by_cases h0 : m < n
    · have e : Ls = m := by have := E3.out; omega
      subst e
      go_wp2_with fail
      go_meet
      exact ⟨rfl, HG⟩
    · have e : Ls = n := by have := E3.out; omega
      subst e
      go_wp2_with fail
      go_meet
      exact ⟨rfl, HG⟩
  case rest =>
  replace HG := hcut.2
  replace hcut := hcut.1
  subst hcut
  go_wp2_with fail
  have HCC : Keep (cutB C m = cutB s Ls) := ⟨by rw [← HC.out, cut_cut, E3.out]⟩
  refine (cut_c C m _ (by omega) hm1 hm2).mono ?_
  rintro e w5 ⟨rfl, hG⟩
  replace HG : Keep (w.grownBy w5 none) := ⟨HG.out.trans hG⟩
  clear hG
  rw [HCC.out]
  go_wp2_with fail
  refine (cut_c s Ls _ (by omega) (by omega) (by omega)).mono ?_
  rintro e w6 ⟨rfl, hG⟩
  replace HG : Keep (w.grownBy w6 none) := ⟨HG.out.trans hG⟩
  clear hG
  go_wp2_with fail
  clear HCC hX hzC HRC
  refine (pad_c s n _ (by omega) hn1 hn2).mono ?_
  rintro e w7 ⟨rfl, hG⟩
  replace HG : Keep (w.grownBy w7 none) := ⟨HG.out.trans hG⟩
  clear hG
  go_upto_if 74 with fail
  go_cut [12] (fun sv wx => sv = iv X1 ∧ Keep (w.grownBy wx none))
  case first =>
    by_cases h0 : n < 0
    · have e : X1 = 0 := by have := E1.out; omega
      subst e
      go_wp2_with fail
      go_meet
      exact ⟨rfl, HG⟩
    · have e : X1 = n := by have := E1.out; omega
      subst e
      go_wp2_with fail
      go_meet
      exact ⟨rfl, HG⟩
  case rest =>
  replace HG := hcut.2
  replace hcut := hcut.1
  subst hcut
  go_upto_if 76 with fail
  go_cut [12] (fun sv wx => sv = iv Kk ∧ Keep (w.grownBy wx none))
  case first =>
    by_cases h0 : 4096 < X1
    · have e : Kk = 4096 := by have := E4.out; omega
      subst e
      go_wp2_with fail
      go_meet
      exact ⟨rfl, HG⟩
    · have e : Kk = X1 := by have := E4.out; omega
      subst e
      go_wp2_with fail
      go_meet
      exact ⟨rfl, HG⟩
  case rest =>
  replace HG := hcut.2
  replace hcut := hcut.1
  subst hcut
  go_wp2_with fail
  refine (cut_c s Kk _ (by omega) (by omega) (by omega)).mono ?_
  rintro e w8 ⟨rfl, hG⟩
  replace HG : Keep (w.grownBy w8 none) := ⟨HG.out.trans hG⟩
  clear hG
  obtain ⟨q1, q2, q3, q4, q5⟩ := pad_facts s n Kk (by omega) HPK.out
  have hz2 := cutB_size s Kk
  have hps : (padB s n).size ≤ 281474976710656 := by omega
  generalize padB s n = p at q1 q2 q3 q4 q5 hps ⊢
  generalize cutB s Kk = c2 at q2 q3 q4 q5 hz2 ⊢
  have Q5 := Keep.mk q5
  have Q1 := Keep.mk q1
  clear q1 q5
  go_wp2_with fail
  refine (runes_c p _ (by omega)).mono ?_
  rintro e w9 ⟨rfl, hG⟩
  replace HG : Keep (w.grownBy w9 none) := ⟨HG.out.trans hG⟩
  clear hG
  rw [Q1.out]
  go_wp2_with fail
  refine (runes_c c2 _ (by omega)).mono ?_
  rintro e w10 ⟨rfl, hG⟩
  replace HG : Keep (w.grownBy w10 none) := ⟨HG.out.trans hG⟩
  clear hG
  go_wp2_with fail
  go_loopw [13] (fun i w' => ∃ k : Nat, i = .int .i64 k ∧ c2.size ≤ k ∧ k ≤ p.size ∧ Keep (w.grownBy w' none)) (fun i _ => (p.size - intOf i).toNat)
  case atStart => exact ⟨c2.size, rfl, Nat.le_refl _, q2, HG⟩
  case round =>
    obtain ⟨k, rfl, hk1, hk2, HG2⟩ := hrel
    by_cases hk : k = p.size
    · subst hk
      go_wp2_with fail
      go_ret
      exact ⟨rfl, HG2.out⟩
    · have hix := idx9 p k 32 (by omega) (Q5.out k hk1 (by omega))
      have h32 : (32 : UInt8).toNat = 32 := rfl
      rw [h32] at hix
      go_wp2_with fail
      go_roundw
      case rel => exact ⟨k + 1, by simp, by omega, by omega, HG2⟩
      case measure => simp [intOf]; omega
end Go.Proofs.YthhpbonacefmaaaDoor
