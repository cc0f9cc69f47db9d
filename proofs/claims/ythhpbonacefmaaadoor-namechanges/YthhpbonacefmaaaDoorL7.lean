/- NameNear's walk. -/
import Derived.Test.YthhpbonacefmaaaDoorL6
namespace Go.Proofs.YthhpbonacefmaaaDoor
open Go Go.RowKit

theorem nr_symm (x y : List Nat) : nr x y = nr y x := by unfold nr; rw [lev_symm]
theorem nr_self (x : List Nat) : nr x x = 0 := by unfold nr; rw [lev_self]; rfl
theorem nr_zero (x y : List Nat) : nr x y = 0 ↔ x = y := by
  rw [← lev_zero]; unfold nr; omega
theorem nr_tri (x y z : List Nat) : nr x z ≤ nr x y + nr y z := by
  have := lev_tri x y z
  unfold nr; omega
theorem nr_len (x y : List Nat) : min 8 (x.length - y.length) ≤ nr x y ∧ min 8 (y.length - x.length) ≤ nr x y := by
  have := lev_len x y
  unfold nr; omega
theorem nr_max (x y : List Nat) : nr x y ≤ max x.length y.length := by
  have := lev_max x y
  unfold nr; omega

set_option maxRecDepth 100000 in
set_option maxHeartbeats 8000000 in
theorem near_any (a b c : ByteArray) (w : World) (za : a.size ≤ 140737488355328) (zb : b.size ≤ 140737488355328) (zc : c.size ≤ 140737488355328) (hk : Kc w) :
    Calls Tryd.prog 7 #[.string a, .string b, .string c] w fun e w' => e = .returned (.bool true) ∧ w.grownBy w' none := by
  have HK := Keep.mk hk
  clear hk
  have HG : Keep (w.grownBy w none) := ⟨World.grownBy.refl _ _⟩
  go_enter Tryd.func7, Tryd.ntmps7
  go_wp2_with fail
  refine (alive_c _ (HK.out.kept HG.out)).mono ?_
  rintro e w1 ⟨rfl, hG⟩
  replace HG : Keep (w.grownBy w1 none) := ⟨HG.out.trans hG⟩
  clear hG
  by_cases hbig : 3000 < (a.size : Int) + b.size + c.size
  case pos =>
    go_wp2_with fail
    refine (alive_c _ (HK.out.kept HG.out)).mono ?_
    rintro e w2 ⟨rfl, hG⟩
    replace HG : Keep (w.grownBy w2 none) := ⟨HG.out.trans hG⟩
    clear hG
    go_wp2_with fail
    go_ret
    exact ⟨rfl, HG.out⟩
  case neg =>
  have ra := rn_le a
  have rb := rn_le b
  have rc := rn_le c
  have n1 := nr_len (nums a) (nums b)
  have n2 := nr_max (nums a) (nums b)
  have n3 := nr_tri (nums a) (nums b) (nums c)
  have n4 := nr_le (nums a) (nums b)
  have n5 := nr_le (nums a) (nums c)
  have n6 := nr_le (nums b) (nums c)
  rw [nums_len, nums_len] at n1 n2
  have HS := Keep.mk (nr_symm (nums b) (nums a))
  have HZ := Keep.mk (nr_zero (nums a) (nums b))
  have HSelf := Keep.mk (nr_self (nums a))
  obtain ⟨AB, hAB⟩ : ∃ q, nr (nums a) (nums b) = q := ⟨_, rfl⟩
  obtain ⟨AC, hAC⟩ : ∃ q, nr (nums a) (nums c) = q := ⟨_, rfl⟩
  obtain ⟨BC, hBC⟩ : ∃ q, nr (nums b) (nums c) = q := ⟨_, rfl⟩
  rw [hAB] at n1 n2 n3 n4 HS HZ
  rw [hAC] at n3 n5
  rw [hBC] at n3 n6
  have HAB := Keep.mk hAB
  have HAC := Keep.mk hAC
  have HBC := Keep.mk hBC
  clear hAB hAC hBC
  obtain ⟨Mo, hMo⟩ : ∃ q, max (rn a) (rn b) = q := ⟨_, rfl⟩
  obtain ⟨Fw, hFw⟩ : ∃ q, min (rn a) (rn b) = q := ⟨_, rfl⟩
  have E1 := Keep.mk hMo
  have E2 := Keep.mk hFw
  have HL1 : Keep (lessI ((Mo : Int) - Fw) ≤ AB) := ⟨by unfold lessI; split <;> omega⟩
  have HL2 : Keep ((AB : Int) ≤ lessI Mo) := ⟨by unfold lessI; split <;> omega⟩
  have HL3 : Keep ((AC : Int) ≤ lessI ((AB : Int) + BC)) := ⟨by unfold lessI; split <;> omega⟩
  have hmo : Mo ≤ 3000 ∧ Fw ≤ 3000 := by omega
  clear n1 n2 n3 hMo hFw
  go_wp2_with fail
  refine (near_c a b _ (by omega) (by omega)).mono ?_
  rintro e w2 ⟨rfl, hG⟩
  replace HG : Keep (w.grownBy w2 none) := ⟨HG.out.trans hG⟩
  clear hG
  rw [HAB.out]
  go_wp2_with fail
  refine (runes_c a _ (by omega)).mono ?_
  rintro e w3 ⟨rfl, hG⟩
  replace HG : Keep (w.grownBy w3 none) := ⟨HG.out.trans hG⟩
  clear hG
  go_wp2_with fail
  refine (runes_c b _ (by omega)).mono ?_
  rintro e w4 ⟨rfl, hG⟩
  replace HG : Keep (w.grownBy w4 none) := ⟨HG.out.trans hG⟩
  clear hG
  go_upto_if 37 with fail
  go_cut [10, 11] (fun sv sw wx => sv = iv Mo ∧ sw = iv Fw ∧ Keep (w.grownBy wx none))
  case first =>
    by_cases h0 : rn a < rn b
    · have e1 : Mo = rn b := by have := E1.out; omega
      have e2 : Fw = rn a := by have := E2.out; omega
      subst e1 e2
      go_wp2_with fail
      go_meet
      exact ⟨rfl, rfl, HG⟩
    · have e1 : Mo = rn a := by have := E1.out; omega
      have e2 : Fw = rn b := by have := E2.out; omega
      subst e1 e2
      go_wp2_with fail
      go_meet
      exact ⟨rfl, rfl, HG⟩
  case rest =>
  obtain ⟨rfl, rfl, HG2⟩ := hcut
  replace HG := HG2
  clear HG2 E1 E2
  go_wp2_with fail
  refine (less_c _ _).mono ?_
  rintro e wq ⟨rfl, rfl⟩
  obtain ⟨q1, hq1⟩ : ∃ q, lessI ((Mo : Int) - Fw) = q := ⟨_, rfl⟩
  rw [hq1] at HL1 ⊢
  have l1 := HL1.out
  clear hq1
  go_wp2_with fail
  refine (less_c _ _).mono ?_
  rintro e wq ⟨rfl, rfl⟩
  obtain ⟨q2, hq2⟩ : ∃ q, lessI (Mo : Int) = q := ⟨_, rfl⟩
  rw [hq2] at HL2 ⊢
  have l2 := HL2.out
  clear hq2
  go_wp2_with fail
  refine (near_c b a _ (by omega) (by omega)).mono ?_
  rintro e w7 ⟨rfl, hG⟩
  replace HG : Keep (w.grownBy w7 none) := ⟨HG.out.trans hG⟩
  clear hG
  rw [HS.out]
  go_wp2_with fail
  refine (alike_c a b _ (by omega) (by omega)).mono ?_
  rintro e w8 ⟨rfl, hG⟩
  replace HG : Keep (w.grownBy w8 none) := ⟨HG.out.trans hG⟩
  clear hG
  have hz : decide (nums a = nums b) = ((AB : Int) == 0) := by
    rw [Bool.eq_iff_iff, decide_eq_true_eq, beq_iff_eq, ← HZ.out]; omega
  rw [hz]
  clear hz
  generalize ((AB : Int) == 0) = T
  cases T
  case false =>
    go_wp2_with fail
    refine (near_c a c _ (by omega) (by omega)).mono ?_
    rintro e w9 ⟨rfl, hG⟩
    replace HG : Keep (w.grownBy w9 none) := ⟨HG.out.trans hG⟩
    clear hG
    rw [HAC.out]
    go_wp2_with fail
    refine (near_c b c _ (by omega) (by omega)).mono ?_
    rintro e w10 ⟨rfl, hG⟩
    replace HG : Keep (w.grownBy w10 none) := ⟨HG.out.trans hG⟩
    clear hG
    rw [HBC.out]
    go_wp2_with fail
    refine (less_c _ _).mono ?_
    rintro e wq ⟨rfl, rfl⟩
    obtain ⟨q3, hq3⟩ : ∃ q, lessI ((AB : Int) + BC) = q := ⟨_, rfl⟩
    rw [hq3] at HL3 ⊢
    have l3 := HL3.out
    clear hq3
    go_wp2_with fail
    refine (near_c a a _ (by omega) (by omega)).mono ?_
    rintro e w12 ⟨rfl, hG⟩
    replace HG : Keep (w.grownBy w12 none) := ⟨HG.out.trans hG⟩
    clear hG
    rw [HSelf.out]
    go_wp2_with fail
    go_ret
    exact ⟨rfl, HG.out⟩
  case true =>
    go_wp2_with fail
    refine (near_c a c _ (by omega) (by omega)).mono ?_
    rintro e w9 ⟨rfl, hG⟩
    replace HG : Keep (w.grownBy w9 none) := ⟨HG.out.trans hG⟩
    clear hG
    rw [HAC.out]
    go_wp2_with fail
    refine (near_c b c _ (by omega) (by omega)).mono ?_
    rintro e w10 ⟨rfl, hG⟩
    replace HG : Keep (w.grownBy w10 none) := ⟨HG.out.trans hG⟩
    clear hG
    rw [HBC.out]
    go_wp2_with fail
    refine (less_c _ _).mono ?_
    rintro e wq ⟨rfl, rfl⟩
    obtain ⟨q3, hq3⟩ : ∃ q, lessI ((AB : Int) + BC) = q := ⟨_, rfl⟩
    rw [hq3] at HL3 ⊢
    have l3 := HL3.out
    clear hq3
    go_wp2_with fail
    refine (near_c a a _ (by omega) (by omega)).mono ?_
    rintro e w12 ⟨rfl, hG⟩
    replace HG : Keep (w.grownBy w12 none) := ⟨HG.out.trans hG⟩
    clear hG
    rw [HSelf.out]
    go_wp2_with fail
    go_ret
    exact ⟨rfl, HG.out⟩
end Go.Proofs.YthhpbonacefmaaaDoor
