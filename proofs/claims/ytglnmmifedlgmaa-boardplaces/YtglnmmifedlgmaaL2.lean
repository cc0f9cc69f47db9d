/- BoardSpawns: the walk. -/
import Derived.Test.YtglnmmifedlgmaaA8
import Derived.Test.YtglnmmifedlgmaaP2
namespace Go.Proofs.Ytglnmmifedlgmaa
open Go Go.RowKit

theorem Sep.vget {w0 W : World} {l : List As} {g n c : Nat} {A : List (Int × Int)} (h : Sep w0 W (vrow (.slice (some ⟨g, 0, none⟩) n c) A :: l)) {i : Nat} {p : Int × Int} (hp : A[i]? = some p) : W.cell? ⟨g, i * 2, none⟩ = some (iv p.1) ∧ W.cell? ⟨g, i * 2 + 1, none⟩ = some (iv p.2) := by
  obtain ⟨g', c', e, hc⟩ := own_any (h.rowGet k0m) (by have := (List.getElem?_eq_some_iff.1 hp).1; omega)
  injection e with e1 e2 e3
  injection e1 with e1
  injection e1 with e1
  subst e1
  obtain ⟨h1, h2⟩ := vcs_get hp
  exact ⟨(hc _ _ h1).1, (hc _ _ h2).1⟩
set_option maxHeartbeats 32000000 in
set_option maxRecDepth 100000 in
theorem spawns_w (s : ByteArray) (q : Int) (_ : In q) (w : World) : Calls Try.prog 5 #[.string s, iv q] w fun e w' => e = .returned (.bool true) ∧ w.grownBy w' none := by
  have hA := alive_c w
  go_enter Try.func5, Try.ntmps5
  go_wp2_with fail
  refine hA.mono ?_
  rintro e w1 ⟨rfl, g1⟩
  have hP := parse_c w1 s
  have HG1 := Keep.mk g1
  clear hA g1
  generalize lns s = L at *
  go_wp2_with fail
  refine hP.mono ?_
  rintro e w2 ⟨g2, h2⟩
  have HG2 := Keep.mk (HG1.out.trans g2)
  clear hP HG1 g2
  rcases h2 with ⟨_, rfl⟩ | ⟨_, _, rfl⟩ | ⟨he, hs, v, rfl, hB⟩
  · go_wp2_with fail
    go_ret
    exact ⟨rfl, HG2.out⟩
  · go_wp2_with fail
    go_ret
    exact ⟨rfl, HG2.out⟩
  have b1 : 3 ≤ wd L ∧ wd L ≤ 64 := he.2.1
  have b2 : 3 ≤ L.length ∧ L.length ≤ 64 := he.1
  obtain ⟨kb, _, _, hv, _⟩ := hB.o
  subst hv
  have hz := size_c w2 _ L hB
  have HBD := Keep.mk hB
  have HE := Keep.mk he
  have HS := Keep.mk hs
  clear hB he hs
  obtain ⟨m, hm⟩ : ∃ m, wd L = m := ⟨_, rfl⟩
  obtain ⟨n, hn⟩ : ∃ n, L.length = n := ⟨_, rfl⟩
  rw [hm] at b1 hz
  rw [hn] at b2 hz
  have HM := Keep.mk hm
  have HN := Keep.mk hn
  clear hm hn
  go_wp2_with fail
  refine hz.mono ?_
  rintro e w3 ⟨rfl, g3⟩
  have HB := Keep.mk (HBD.out.kept g3)
  have HG := Keep.mk (HG2.out.trans g3)
  clear hz g3 HBD HG2
  go_wp2_with fail
  have hA1 : ∀ y x, y ≤ 64 → x ≤ 64 → (spA L y ++ spR L y x).length ≤ 5000 := fun y x h1 h2 => by
    rw [List.length_append]
    have q1 := spA_len L y
    have q2 := spR_len L y x
    rw [HM.out] at q1
    have : y * m ≤ 64 * 64 := Nat.mul_le_mul (by omega) (by omega)
    omega
  have HAL := Keep.mk hA1
  clear hA1
  go_loopw [9, 10] (fun u9 u wr => ∃ y : Nat, y ≤ n ∧ u = iv y ∧ u9 = iv (spA L y).length ∧ wr = w3) (fun _ u _ => (n - intOf u).toNat)
  case atStart => exact ⟨0, by omega, rfl, rfl, rfl⟩
  case round =>
    obtain ⟨y, hy, rfl, rfl, rfl⟩ := hrel
    by_cases hlt : (y : Int) < (n : Int)
    · go_wp2_with fail
      go_loopw [9, 11] (fun u9 u ws => ∃ x : Nat, x ≤ m ∧ u = iv x ∧ u9 = iv (spA L y ++ spR L y x).length ∧ ws = wr) (fun _ u _ => (m - intOf u).toNat)
      case atStart => exact ⟨0, by omega, rfl, by simp [spR], rfl⟩
      case round =>
        obtain ⟨x, hx, rfl, rfl, rfl⟩ := hrel
        have hal := HAL.out y x (by omega) (by omega)
        by_cases hlu : (x : Int) < (m : Int)
        · have hC := cell_c _ _ _ HB.out (x : Int) (y : Int)
          have hxi : IntKind.i64.wrap ((x : Int) + 1) = ((x + 1 : Nat) : Int) := by rw [wi _ (by omega) (by omega)]; omega
          obtain ⟨cv, hcv⟩ : ∃ cv, cel L x y = cv := ⟨_, rfl⟩
          rw [hcv] at hC
          have HCV := Keep.mk hcv
          clear hcv
          obtain ⟨k, hk⟩ : ∃ k, (spA L y ++ spR L y x).length = k := ⟨_, rfl⟩
          rw [hk] at hal
          rw [hk]
          have HK := Keep.mk hk
          clear hk
          by_cases h83 : cv = 83
          · subst h83
            have HK2 : Keep ((spA L y ++ spR L y (x + 1)).length = k + 1) := ⟨by rw [spR_succ, if_pos HCV.out, ← List.append_assoc, List.length_append, HK.out]; rfl⟩
            have hki : IntKind.i64.wrap ((k : Int) + 1) = ((k + 1 : Nat) : Int) := by rw [wi _ (by omega) (by omega)]; omega
            go_wp2_with fail
            refine hC.mono ?_
            rintro e w4 ⟨rfl, rfl⟩
            clear hC
            go_wp2_with fail
            go_roundw
            case rel => exact ⟨x + 1, by omega, rfl, by rw [HK2.out]; first | rfl | (congr 1), trivial⟩
            case measure => simp [intOf]; omega
          · have HK2 : Keep ((spA L y ++ spR L y (x + 1)).length = k) := ⟨by rw [spR_succ, if_neg (by rw [HCV.out]; exact h83), List.append_nil]; exact HK.out⟩
            go_wp2_with fail
            refine hC.mono ?_
            rintro e w4 ⟨rfl, rfl⟩
            clear hC
            go_wp2_with fail
            go_roundw
            case rel => exact ⟨x + 1, by omega, rfl, by rw [HK2.out], trivial⟩
            case measure => simp [intOf]; omega
        · have hyi : IntKind.i64.wrap ((y : Int) + 1) = ((y + 1 : Nat) : Int) := by rw [wi _ (by omega) (by omega)]; omega
          have HK : Keep ((spA L y ++ spR L y x).length = (spA L (y + 1)).length) := ⟨by
            have : x = wd L := by rw [HM.out]; omega
            rw [spA_succ, ← this]⟩
          rw [HK.out]
          go_wp2_with fail
          go_roundw
          case rel => exact ⟨y + 1, by omega, rfl, rfl, trivial⟩
          case measure => simp [intOf]; omega
    · have hyn : (spA L y).length = (spn L).length := by
        have : y = L.length := by rw [HN.out]; omega
        rw [this]; rfl
      rw [hyn]
      clear hyn
      have hS := spawns_c _ _ _ HB.out
      have HL : Keep ((spn L).length ≤ 5000) := ⟨by
        have := HAL.out n 0 (by omega) (by omega)
        rw [List.length_append] at this
        unfold spn
        rw [HN.out]
        omega⟩
      have hKc := fun W => kept_c W q 262144 (by omega) (by omega)
      have HQ : Keep (q.tmod (262144 + 1) ≤ 262144 ∧ In (q.tmod (262144 + 1))) := ⟨by
        have h4 := Int.tmod_lt_of_pos q (show (0 : Int) < 262144 + 1 by omega)
        have h5 := Int.lt_tmod_of_pos q (show (0 : Int) < 262144 + 1 by omega)
        refine ⟨by omega, ?_⟩
        constructor <;> omega⟩
      generalize q.tmod (262144 + 1) = qq at *
      go_wp2_with fail
      refine hS.mono ?_
      rintro e w4 ⟨u, rfl, S⟩
      obtain ⟨g, c, e, _⟩ := own_any (S.rowGet k0m) (List.length_pos_iff.2 HS.out)
      subst e
      have HS4 := Keep.mk S
      have HSP := Keep.mk (fun p hp => sp_of HE.out (p := p) hp)
      have HLT := Keep.mk (fun (i : Nat) a b ha hb => spn_lt (L := L) (i := i) (a := a) (b := b) ha hb)
      have hl0 : 0 < (spn L).length := List.length_pos_iff.2 HS.out
      have hl1 := HL.out
      clear hS S HL
      obtain ⟨A, hA⟩ : ∃ A, spn L = A := ⟨_, rfl⟩
      rw [hA] at HS4 HSP HLT hl0 hl1
      rw [hA]
      clear hA HS HAL
      obtain ⟨k, hk⟩ : ∃ k, A.length = k := ⟨_, rfl⟩
      rw [hk] at hl0 hl1
      rw [show vrow (.slice (some ⟨g, 0, none⟩) A.length c) A = vrow (.slice (some ⟨g, 0, none⟩) k c) A by rw [hk]] at HS4
      rw [hk]
      have HK := Keep.mk hk
      clear hk
      go_wp2_with fail
      refine (hKc _).mono ?_
      rintro e w5 ⟨rfl, rfl⟩
      clear hKc
      go_wp2_with fail
      go_loopw [13] (fun u ws => ∃ i : Nat, i ≤ k ∧ u = iv i ∧ Keep (Sep wr ws [vrow (.slice (some ⟨g, 0, none⟩) k c) A])) (fun u _ => (k - intOf u).toNat)
      case atStart => exact ⟨0, by omega, rfl, HS4⟩
      case round =>
        clear HS4
        obtain ⟨i, hi, rfl, hR⟩ := hrel
        by_cases hik : i < k
        · obtain ⟨p, hp⟩ : ∃ p, A[i]? = some p := ⟨_, List.getElem?_eq_getElem (by rw [HK.out]; exact hik)⟩
          have hSp := HSP.out p (List.mem_of_getElem? hp)
          obtain ⟨px, py⟩ := p
          obtain ⟨z0, z1⟩ := hR.out.vget hp
          obtain ⟨x1, x2, x3⟩ := hSp.x
          obtain ⟨y1, y2, y3⟩ := hSp.y
          simp only at x1 x2 x3 y1 y2 y3 z0 z1
          have t1 : IntKind.i64.wrap (px.tmod 524288) = 262144 := by rw [Int.tmod_eq_emod_of_nonneg x1, x3]; rfl
          have t2 : IntKind.i64.wrap (py.tmod 524288) = 262144 := by rw [Int.tmod_eq_emod_of_nonneg y1, y3]; rfl
          have iX : In px := by constructor <;> omega
          have iY : In py := by constructor <;> omega
          have HA1 := Keep.mk (fun W (h : Bd W (pt kb) L) => hSp.at' ▸ at_c W _ _ h px py iX iY)
          have HA2 := Keep.mk (fun W (h : Bd W (pt kb) L) => (decide_eq_false (hSp.free qq HQ.out.1)) ▸ blocked_c W _ _ h px py qq iX iY HQ.out.2)
          have HA3 := Keep.mk (fun W (h : Bd W (pt kb) L) => (decide_eq_false (hSp.free 262144 (by omega))) ▸ blocked_c W _ _ h px py 262144 iX iY (by decide))
          have HA4 := Keep.mk (fun W (h : Bd W (pt kb) L) => (decide_eq_true hSp.big) ▸ blocked_c W _ _ h px py 33554432 iX iY (by decide))
          have hi1 : (i : Int) < (k : Nat) := by omega
          have hti : ((i : Nat) : Int).toNat = i := by omega
          have hwi : IntKind.i64.wrap ((i : Int) + 1) = ((i + 1 : Nat) : Int) := by rw [wi _ (by omega) (by omega)]; omega
          have hA := HA1.out _ (HB.out.kept hR.out.g)
          have HP := Keep.mk hp
          clear hSp hp iX iY HA1 t1 t2
          go_wp2_with fail
          refine hA.mono ?_
          rintro e wa ⟨rfl, ga⟩
          have HRa := Keep.mk (hR.out.grown ga)
          obtain ⟨z0, z1⟩ := HRa.out.vget HP.out
          have hA := HA2.out _ (HB.out.kept HRa.out.g)
          clear ga HA2
          go_wp2_with fail
          refine hA.mono ?_
          rintro e wb ⟨rfl, gb⟩
          have HRb := Keep.mk (HRa.out.grown gb)
          obtain ⟨z0, z1⟩ := HRb.out.vget HP.out
          have hA := HA3.out _ (HB.out.kept HRb.out.g)
          clear gb HA3 HRa
          go_wp2_with fail
          refine hA.mono ?_
          rintro e wc ⟨rfl, gc⟩
          have HRc := Keep.mk (HRb.out.grown gc)
          obtain ⟨z0, z1⟩ := HRc.out.vget HP.out
          have hA := HA4.out _ (HB.out.kept HRc.out.g)
          clear gc HA4 HRb
          go_wp2_with fail
          refine hA.mono ?_
          rintro e wd ⟨rfl, gd⟩
          have HRd := Keep.mk (HRc.out.grown gd)
          obtain ⟨z0, z1⟩ := HRd.out.vget HP.out
          clear gd HRc hA
          go_wp2_with fail
          by_cases h0 : i = 0
          · subst h0
            go_quiet (fail)
            go_wp2_with fail
            go_roundw
            case rel => exact ⟨1, by omega, rfl, ⟨HRd.out.grown (gr_drewN _ _ _)⟩⟩
            case measure => simp [intOf]; omega
          · obtain ⟨j, hj⟩ : ∃ j, i = j + 1 := ⟨i - 1, by omega⟩
            obtain ⟨q0, hq0⟩ : ∃ q, A[j]? = some q := ⟨_, List.getElem?_eq_getElem (by rw [HK.out]; omega)⟩
            obtain ⟨y0, y1'⟩ := HRd.out.vget hq0
            have hLt := HLT.out j _ _ hq0 (by rw [← hj]; exact HP.out)
            obtain ⟨rx, ry⟩ := q0
            simp only at y0 y1'
            unfold Lt at hLt
            simp only at hLt
            have hj0 : (0 : Int) < (i : Int) := by omega
            have hj6 : 0 < i := by omega
            have hj7 : decide ((0 : Int) < (i : Int)) = true := decide_eq_true hj0
            have hj3 : IntKind.i64.wrap ((i : Int) - 1) = (j : Int) := by rw [wi _ (by omega) (by omega)]; omega
            have hj4 : (j : Int) < (k : Nat) := by omega
            have hj5 : ((j : Nat) : Int).toNat = j := by omega
            clear hj
            rcases hLt with hLt | ⟨hLt, hLx⟩
            · have e1 : ¬ py < ry := by omega
              have e2 : py ≠ ry := by omega
              clear hLt
              go_quiet (fail)
              go_wp2_with fail
              go_roundw
              case rel => exact ⟨i + 1, by omega, rfl, ⟨HRd.out.grown (gr_drewN _ _ _)⟩⟩
              case measure => simp [intOf]; omega
            · subst hLt
              have e2 : ¬ px ≤ rx := by omega
              clear hLx
              go_quiet (fail)
              go_wp2_with fail
              go_roundw
              case rel => exact ⟨i + 1, by omega, rfl, ⟨HRd.out.grown (gr_drewN _ _ _)⟩⟩
              case measure => simp [intOf]; omega
        · have hik2 : (k : Int) ≤ (i : Int) := by omega
          go_wp2_with fail
          go_ret
          exact ⟨rfl, HG.out.trans hR.out.g⟩
end Go.Proofs.Ytglnmmifedlgmaa
