/- parsed; BoardReads: the walk. -/
import Derived.Test.YtglnmmifedlgmaaRP2
import Derived.Test.YtglnmmifedlgmaaL2
import Derived.OwnWalk
namespace Go.Proofs.Ytglnmmifedlgmaa
open Go Go.RowKit

set_option maxHeartbeats 8000000 in
set_option maxRecDepth 100000 in
theorem parsed_c (w : World) (s : ByteArray) (hs : s.size ≤ 1048576) : Calls Try.prog 20 #[.string s] w fun e w' => w.grownBy w' none ∧ (e = .returned (.tuple #[.pointer none, .pointer none, .bool true]) ∨ ∃ kb kk L, ev L ∧ e = .returned (.tuple #[pt kb, pt kk, .bool true]) ∧ Bd w' (pt kb) L ∧ RB w' (pt kk) L) := by
  have hP := parse_c w s
  have HR := Keep.mk (fun W => rparse_c W s hs)
  clear hs
  generalize lns s = L at *
  go_enter Try.func20, Try.ntmps20
  go_wp2_with fail
  refine hP.mono ?_
  rintro e w1 ⟨g1, h1⟩
  have HG := Keep.mk g1
  have hR := HR.out w1
  clear hP g1 HR
  rcases h1 with ⟨h1, rfl⟩ | ⟨h1, h2, rfl⟩ | ⟨h1, h2, v, rfl, hB⟩
  · go_wp2_with fail
    refine hR.mono ?_
    rintro e w2 ⟨g2, h3⟩
    have HG2 := Keep.mk (HG.out.trans g2)
    clear hR g2
    rcases h3 with ⟨_, rfl⟩ | ⟨h3, _⟩ | ⟨h3, _⟩
    · go_wp2_with fail
      go_ret3
      exact ⟨HG2.out, .inl rfl⟩
    · exact absurd h3 h1
    · exact absurd h3 h1
  · go_wp2_with fail
    refine hR.mono ?_
    rintro e w2 ⟨g2, h3⟩
    have HG2 := Keep.mk (HG.out.trans g2)
    clear hR g2
    rcases h3 with ⟨h3, _⟩ | ⟨_, _, rfl⟩ | ⟨_, h3, _⟩
    · exact absurd h1 h3
    · go_wp2_with fail
      go_ret3
      exact ⟨HG2.out, .inl rfl⟩
    · exact absurd h2 h3
  · obtain ⟨kb, _, _, hv, _⟩ := hB.o
    subst hv
    have HB := Keep.mk hB
    clear hB
    go_wp2_with fail
    refine hR.mono ?_
    rintro e w2 ⟨g2, h3⟩
    have HG2 := Keep.mk (HG.out.trans g2)
    have HB2 := Keep.mk (HB.out.kept g2)
    clear hR g2 HB
    rcases h3 with ⟨h3, _⟩ | ⟨_, h3, _⟩ | ⟨_, _, v, rfl, hB⟩
    · exact absurd h1 h3
    · exact absurd h3 h2
    · obtain ⟨kk, _, _, hv, _⟩ := hB.o
      subst hv
      have HK := Keep.mk hB
      have HE := Keep.mk h1
      clear hB h1 h2
      go_wp2_with fail
      go_ret3
      exact ⟨HG2.out, .inr ⟨_, _, L, HE.out, rfl, HB2.out, HK.out⟩⟩
set_option maxHeartbeats 16000000 in
set_option maxRecDepth 100000 in
theorem reads_w (s : ByteArray) (hs : s.size ≤ 1048576) (w : World) : Calls Try.prog 7 #[.string s] w fun e w' => e = .returned (.bool true) ∧ w.grownBy w' none := by
  have hP := parsed_c w s hs
  clear hs
  go_enter Try.func7, Try.ntmps7
  go_wp2_with fail
  refine hP.mono ?_
  rintro e w1 ⟨g1, h1⟩
  have HG1 := Keep.mk g1
  have hA := alive_c w1
  clear hP g1
  rcases h1 with rfl | ⟨kb, kk, L, he, rfl, hB, hK⟩
  · go_wp2_with fail
    refine hA.mono ?_
    rintro e w2 ⟨rfl, g2⟩
    have HG2 := Keep.mk (HG1.out.trans g2)
    clear hA g2
    go_wp2_with fail
    go_ret
    exact ⟨rfl, HG2.out⟩
  have b1 : 3 ≤ wd L ∧ wd L ≤ 64 := he.2.1
  have b2 : 3 ≤ L.length ∧ L.length ≤ 64 := he.1
  have HB := Keep.mk hB
  have HK := Keep.mk hK
  have HE := Keep.mk he
  clear hB hK he
  go_wp2_with fail
  refine hA.mono ?_
  rintro e w2 ⟨rfl, g2⟩
  have hz := size_c w2 _ L (HB.out.kept g2)
  have HG2 := Keep.mk g2
  clear hA g2
  go_wp2_with fail
  refine hz.mono ?_
  rintro e w3 ⟨rfl, g3⟩
  replace HG2 := Keep.mk (HG2.out.trans g3)
  have hz := rsize_c w3 _ L (HK.out.kept HG2.out)
  clear g3
  go_wp2_with fail
  refine hz.mono ?_
  rintro e w4 ⟨rfl, m4, hw4⟩
  replace HG2 : Keep (w1.grownBy w4 none) := ⟨by rw [hw4]; exact HG2.out.trans (gr_drewN _ _ _)⟩
  have hp1 := print_c w4 _ L (HB.out.kept HG2.out)
  have HP2 := Keep.mk (fun W (h : RB W (pt kk) L) => rprint_c W _ L h)
  obtain ⟨T, hT⟩ : ∃ T : ByteArray, ⟨(prt L).toArray⟩ = T := ⟨_, rfl⟩
  rw [hT] at hp1 HP2
  clear hz hw4 hT
  obtain ⟨m, hm⟩ : ∃ m, wd L = m := ⟨_, rfl⟩
  obtain ⟨n, hn⟩ : ∃ n, L.length = n := ⟨_, rfl⟩
  rw [hm] at b1
  rw [hn] at b2
  rw [hm, hn]
  clear hm hn
  go_wp2_with fail
  refine hp1.mono ?_
  rintro e w5 ⟨rfl, g5⟩
  replace HG2 := Keep.mk (HG2.out.trans g5)
  have hp2 := HP2.out w5 (HK.out.kept HG2.out)
  clear hp1 g5 HP2
  go_wp2_with fail
  refine hp2.mono ?_
  rintro e w6 ⟨rfl, g6⟩
  replace HG2 := Keep.mk (HG2.out.trans g6)
  clear hp2 g6
  have k1 : IntKind.i64.wrap ((n : Int) + 1) = (n : Int) + 1 := wi _ (by omega) (by omega)
  have k2 : IntKind.i64.wrap ((m : Int) + 1) = (m : Int) + 1 := wi _ (by omega) (by omega)
  go_wp2_with fail
  go_loopw [10] (fun u wr => ∃ y : Int, -2 ≤ y ∧ y ≤ (n : Int) + 2 ∧ u = iv y ∧ Keep (w1.grownBy wr none)) (fun u _ => ((n : Int) + 3 - intOf u).toNat)
  case atStart => exact ⟨-2, by omega, by omega, rfl, HG2⟩
  case round =>
    clear HG2
    obtain ⟨y, hy0, hy1, rfl, hR⟩ := hrel
    by_cases hyn : y ≤ (n : Int) + 1
    · go_wp2_with fail
      go_loopw [11] (fun u ws => ∃ x : Int, -2 ≤ x ∧ x ≤ (m : Int) + 2 ∧ u = iv x ∧ Keep (w1.grownBy ws none)) (fun u _ => ((m : Int) + 3 - intOf u).toNat)
      case atStart => exact ⟨-2, by omega, by omega, rfl, hR⟩
      case round =>
        clear hR
        obtain ⟨x, hx0, hx1, rfl, hR⟩ := hrel
        by_cases hxm : x ≤ (m : Int) + 1
        · have hC := cell_c _ _ _ (HB.out.kept hR.out) x y
          have hC2 := rcell_c _ _ _ (HK.out.kept hR.out) x y
          have hxw : IntKind.i64.wrap (x + 1) = x + 1 := wi _ (by omega) (by omega)
          generalize cel L x y = c at *
          go_wp2_with fail
          refine hC.mono ?_
          rintro e wq ⟨rfl, rfl⟩
          go_wp2_with fail
          refine hC2.mono ?_
          rintro e wp ⟨rfl, mp, hwp⟩
          have HR2 : Keep (w1.grownBy wp none) := ⟨by rw [hwp]; exact hR.out.trans (gr_drewN _ _ _)⟩
          clear hwp hC hC2
          go_wp2_with fail
          go_roundw
          case rel => exact ⟨x + 1, by omega, by omega, rfl, HR2⟩
          case measure => simp [intOf]; omega
        · have hyw : IntKind.i64.wrap (y + 1) = y + 1 := wi _ (by omega) (by omega)
          go_wp2_with fail
          go_roundw
          case rel => exact ⟨y + 1, by omega, by omega, rfl, hR⟩
          case measure => simp [intOf]; omega
    · have hs1 := spawns_c _ _ _ (HB.out.kept hR.out)
      have HSR := Keep.mk (fun W (h : RB W (pt kk) L) => rspawns_c W _ L h)
      have hl1 : (spn L).length ≤ 5000 := by
        have q1 := spA_len L L.length
        have : L.length * wd L ≤ 64 * 64 := Nat.mul_le_mul HE.out.1.2 HE.out.2.1.2
        unfold spn
        omega
      obtain ⟨A, hA⟩ : ∃ A, spn L = A := ⟨_, rfl⟩
      rw [hA] at hs1 HSR hl1
      clear hA
      obtain ⟨q, hq⟩ : ∃ q, A.length = q := ⟨_, rfl⟩
      have HQ := Keep.mk hq
      go_wp2_with fail
      refine hs1.mono ?_
      rintro e wa ⟨u, rfl, Sa⟩
      obtain ⟨aa, ca, rfl⟩ := own_slice (Sa.rowGet k0m)
      have HRa := Keep.mk (hR.out.trans Sa.g)
      have hs2 := HSR.out wa (HK.out.kept HRa.out)
      have HSa := Keep.mk Sa
      clear hs1 Sa HSR
      go_wp2_with fail
      refine hs2.mono ?_
      rintro e wb ⟨u, rfl, Sb⟩
      obtain ⟨ab, cb, rfl⟩ := own_slice (Sb.rowGet k0m)
      have HS := Keep.mk (HSa.out.seq Sb)
      clear hs2 Sb HSa HRa
      rw [hq]
      rw [hq] at hl1
      rw [show vrow (.slice aa A.length ca) A = vrow (.slice aa q ca) A by rw [hq], show vrow (.slice ab A.length cb) A = vrow (.slice ab q cb) A by rw [hq]] at HS
      clear hq
      go_wp2_with fail
      go_loopw [14] (fun u ws => ∃ i : Nat, i ≤ q ∧ u = iv i ∧ Keep (Sep wr ws [vrow (.slice ab q cb) A, vrow (.slice aa q ca) A])) (fun u _ => (q - intOf u).toNat)
      case atStart => exact ⟨0, by omega, rfl, HS⟩
      case round =>
        clear HS
        obtain ⟨i, hi, rfl, hS⟩ := hrel
        by_cases hik : i < q
        · obtain ⟨p, hp⟩ : ∃ p, A[i]? = some p := ⟨_, List.getElem?_eq_getElem (by rw [HQ.out]; exact hik)⟩
          obtain ⟨ga, ca', ea, _⟩ := own_any (hS.out.rowGet k1m) (by rw [HQ.out]; omega)
          obtain ⟨gb, cb', eb, _⟩ := own_any (hS.out.rowGet k0m) (by rw [HQ.out]; omega)
          injection ea with ea1 _ _
          injection eb with eb1 _ _
          subst ea1 eb1
          obtain ⟨x0, x1⟩ := hS.out.vget hp
          obtain ⟨y0, y1⟩ := hS.out.swap.vget hp
          have hi1 : (i : Int) < (q : Nat) := by omega
          have hti : ((i : Nat) : Int).toNat = i := by omega
          have hwi : IntKind.i64.wrap ((i : Int) + 1) = ((i + 1 : Nat) : Int) := by rw [wi _ (by omega) (by omega)]; omega
          clear hp
          go_wp2_with fail
          go_quiet (fail)
          go_wp2_with fail
          go_roundw
          case rel => exact ⟨i + 1, by omega, rfl, ⟨hS.out.grown (gr_drewN _ _ _)⟩⟩
          case measure => simp [intOf]; omega
        · have hik2 : (q : Int) ≤ (i : Int) := by omega
          go_wp2_with fail
          go_ret
          exact ⟨rfl, HG1.out.trans (hR.out.trans hS.out.g)⟩
end Go.Proofs.Ytglnmmifedlgmaa
