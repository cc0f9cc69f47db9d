/- BoardBack: the walk. -/
import Derived.Test.YtglnmmifedlgmaaA8
import Derived.Test.YtglnmmifedlgmaaP1
namespace Go.Proofs.Ytglnmmifedlgmaa
open Go Go.RowKit

theorem idx9 (l : List UInt8) (i : Int) (k : Nat) (hi : i = k) (b : UInt8) (hb : l[k]? = some b) (W : World) : (Instr.index 9 (.string ⟨l.toArray⟩) (.int .i64 i)).run Try.prog W = .ok (.int .u8 b.toNat) W := by
  obtain ⟨hk, e⟩ := List.getElem?_eq_some_iff.1 hb
  have hs : k < (⟨l.toArray⟩ : ByteArray).size := by show k < l.toArray.size; simpa using hk
  subst hi
  rw [run_index_string W 9 ⟨l.toArray⟩ .i64 k (by kernel_rfl), dif_pos ⟨by omega, by omega⟩]
  simp only [Int.toNat_natCast]
  rw [← e]
  rfl
set_option maxHeartbeats 64000000 in
set_option maxRecDepth 100000 in
theorem back_w (s : ByteArray) (w : World) : Calls Try.prog 3 #[.string s] w fun e w' => e = .returned (.bool true) ∧ w.grownBy w' none := by
  have hA := alive_c w
  go_enter Try.func3, Try.ntmps3
  go_wp2_with fail
  refine hA.mono ?_
  rintro e w1 ⟨rfl, g1⟩
  have hP := parse_c w1 s
  have HO : Keep (oks (lns s)) := ⟨rd_oks0 _⟩
  have HG1 := Keep.mk g1
  clear hA g1
  generalize lns s = L at *
  go_wp2_with fail
  refine hP.mono ?_
  rintro e w2 ⟨g2, h2⟩
  have HG2 := Keep.mk (HG1.out.trans g2)
  clear hP HG1 g2
  rcases h2 with ⟨_, rfl⟩ | ⟨_, _, rfl⟩ | ⟨he, hs, v, rfl, hB⟩
  · go_wp2_with fail
    go_ret
    exact ⟨rfl, HG2.out⟩
  · go_wp2_with fail
    go_ret
    exact ⟨rfl, HG2.out⟩
  have b1 : 3 ≤ wd L ∧ wd L ≤ 64 := he.2.1
  have b2 : 3 ≤ L.length ∧ L.length ≤ 64 := he.1
  obtain ⟨kb, _, _, hv, _⟩ := hB.o
  subst hv
  have hPr := print_c w2 _ L hB
  have HBD := Keep.mk hB
  have HE := Keep.mk he
  have HS := Keep.mk hs
  clear hB he hs
  go_wp2_with fail
  refine hPr.mono ?_
  rintro e w3 ⟨rfl, g3⟩
  have hP2 := parse_c w3 ⟨(prt L).toArray⟩
  rw [lns_prt HE.out HO.out] at hP2
  have HG3 := Keep.mk g3
  clear hPr g3
  go_wp2_with fail
  refine hP2.mono ?_
  rintro e w4 ⟨g4, h4⟩
  have HG4 := Keep.mk (HG3.out.trans g4)
  clear hP2 HG3 g4
  rcases h4 with ⟨h4, _⟩ | ⟨_, h4, _⟩ | ⟨_, _, v2, rfl, hB2⟩
  · exact absurd (can_ev HE.out) h4
  · exact absurd (by rw [can_spn HE.out] at h4; exact h4) HS.out
  obtain ⟨kb2, _, _, hv, _⟩ := hB2.o
  subst hv
  have hPr2 := print_c w4 _ _ hB2
  rw [can_prt HE.out] at hPr2
  have HBD2 := Keep.mk hB2
  clear hB2
  have hsz : ((⟨(prt L).toArray⟩ : ByteArray).size : Int) = (L.length : Int) * ((wd L : Int) + 1) := by
    show (((prt L).toArray.size : Nat) : Int) = _
    simp [prt_len]
  have HIX := Keep.mk (fun (x y : Nat) (hx : x < wd L) (hy : y < L.length) => prt_get L x y hx hy)
  have HID := Keep.mk (fun (i : Int) (k : Nat) (hi : i = k) (b : UInt8) (hb : (prt L)[k]? = some b) W => idx9 (prt L) i k hi b hb W)
  obtain ⟨S, hS⟩ : ∃ S : ByteArray, ⟨(prt L).toArray⟩ = S := ⟨_, rfl⟩
  rw [hS] at hsz hPr2 HID
  rw [hS]
  have HSS := Keep.mk hS
  clear hS
  go_wp2_with fail
  refine hPr2.mono ?_
  rintro e w5 ⟨rfl, g5⟩
  have HG5 := Keep.mk (HG4.out.trans g5)
  have hz := size_c w5 _ _ (HBD.out.kept HG5.out)
  have HBD2' := Keep.mk (HBD2.out.kept g5)
  clear hPr2 g5 HG4 HBD2
  go_wp2_with fail
  refine hz.mono ?_
  rintro e w6 ⟨rfl, g6⟩
  have HBD2 := Keep.mk (HBD2'.out.kept g6)
  have HG6 := Keep.mk (HG5.out.trans g6)
  have hz2 := size_c w6 _ _ HBD2.out
  rw [can_wd HE.out, can_len] at hz2
  clear hz g6 HG5 HBD2'
  go_wp2_with fail
  refine hz2.mono ?_
  rintro e w7 ⟨rfl, g7⟩
  have HB2 := Keep.mk (HBD2.out.kept g7)
  have HB1 := Keep.mk (HBD.out.kept (HG6.out.trans g7))
  have HG := Keep.mk (HG2.out.trans (HG6.out.trans g7))
  clear hz2 g7 HG6 HBD2 HBD HG2
  obtain ⟨m, hm⟩ : ∃ m, wd L = m := ⟨_, rfl⟩
  obtain ⟨n, hn⟩ : ∃ n, L.length = n := ⟨_, rfl⟩
  obtain ⟨K, hK⟩ : ∃ K : Nat, (n : Int) * ((m : Int) + 1) = K := ⟨n * (m + 1), by simp⟩
  rw [hm, hn, hK] at hsz
  rw [hm] at b1
  rw [hn] at b2
  rw [hm, hn]
  have hKb : K ≤ 5000 := by
    have : n * (m + 1) ≤ 64 * 65 := Nat.mul_le_mul (by omega) (by omega)
    have h2 : ((n * (m + 1) : Nat) : Int) = K := by rw [← hK]; simp
    omega
  have HM := Keep.mk hm
  have HN := Keep.mk hn
  clear hm hn
  go_wp2_with fail
  go_loopw [12] (fun u wr => ∃ y : Int, -1 ≤ y ∧ y ≤ (n : Int) + 1 ∧ u = iv y ∧ Keep (w7.grownBy wr none)) (fun u _ => ((n : Int) + 2 - intOf u).toNat)
  case atStart => exact ⟨-1, by omega, by omega, rfl, ⟨World.grownBy.refl _ _⟩⟩
  case round =>
    obtain ⟨y, hy0, hy1, rfl, hR⟩ := hrel
    by_cases hyn : y ≤ (n : Int)
    · go_wp2_with fail
      go_loopw [13] (fun u ws => ∃ x : Int, -1 ≤ x ∧ x ≤ (m : Int) + 1 ∧ u = iv x ∧ Keep (w7.grownBy ws none)) (fun u _ => ((m : Int) + 2 - intOf u).toNat)
      case atStart => exact ⟨-1, by omega, by omega, rfl, hR⟩
      case round =>
        clear hR
        obtain ⟨x, hx0, hx1, rfl, hR⟩ := hrel
        by_cases hxm : x ≤ (m : Int)
        · have hC := cell_c _ _ _ (HB1.out.kept hR.out) x y
          have hC2 := cell_c _ _ _ (HB2.out.kept hR.out) x y
          rw [can_cel HE.out] at hC2
          have hok := cel_ok HO.out HE.out x y
          have hrim : x ≤ 0 ∨ y ≤ 0 ∨ x ≥ (m : Int) - 1 ∨ y ≥ (n : Int) - 1 → cel L x y = 35 := fun q => cel_rim (by rw [HM.out, HN.out]; exact q)
          have hX1 : IntKind.i64.wrap (x * 524288) = x * 524288 := wi _ (by omega) (by omega)
          have hX2 : IntKind.i64.wrap (x * 524288 + 5) = x * 524288 + 5 := wi _ (by omega) (by omega)
          have hY1 : IntKind.i64.wrap (y * 524288) = y * 524288 := wi _ (by omega) (by omega)
          have hY2 : IntKind.i64.wrap (y * 524288 + 524288) = y * 524288 + 524288 := wi _ (by omega) (by omega)
          have hY3 : IntKind.i64.wrap (y * 524288 + 524288 - 1) = y * 524288 + 524288 - 1 := wi _ (by omega) (by omega)
          have hn1 : nm (x * 524288 + 5) = x := nm_cell hx0 (by omega) (by omega) (by omega)
          have hn2 : nm (y * 524288 + 524288 - 1) = y := by
            have := nm_cell (x := y) (k := 524287) hy0 (by omega) (by omega) (by omega)
            rw [← this]; congr 1; omega
          have hat : atL L (x * 524288 + 5, y * 524288 + 524288 - 1) = cel L x y := by unfold atL; rw [hn1, hn2]
          have hat2 : atL (can L) (x * 524288 + 5, y * 524288 + 524288 - 1) = cel L x y := by unfold atL; rw [hn1, hn2, can_cel HE.out]
          have iX : In (x * 524288 + 5) := by constructor <;> omega
          have iY : In (y * 524288 + 524288 - 1) := by constructor <;> omega
          have S0 := (Sep.start hR.out).newBox #[iv (x * 524288 + 5), iv (y * 524288 + 524288 - 1)] 32
          have Z := Has.newA wr #[iv 0, iv 0] 32
          have f2 := Z.frozen 0
          have f3 := Z.frozen 1
          have z0 := (S0.boxGet k0m).cellv 0 _ rfl
          have z1 := (S0.boxGet k0m).cellv 1 _ rfl
          have HSB := Keep.mk S0
          have hA1 := at_c _ _ _ (HB1.out.kept S0.g) _ _ iX iY
          rw [hat] at hA1
          have HA2 := Keep.mk (fun W (h : Bd W (pt kb2) (can L)) => hat2 ▸ at_c W _ _ h _ _ iX iY)
          have HA3 := Keep.mk (fun W (h : Bd W (pt kb) L) => hat ▸ solid_c W _ _ h _ _ iX iY)
          have hxw : IntKind.i64.wrap (x + 1) = x + 1 := wi _ (by omega) (by omega)
          have hok2 := okc_byte hok
          have hcc : IntKind.i32.wrap (cel L x y) = cel L x y := by unfold okc at hok; rcases hok with h | h | h | h | h <;> rw [h] <;> rfl
          clear S0 Z hn1 hn2 hat hat2 iX iY
          generalize hcv : cel L x y = c at *
          have hcs : (0 ≤ x ∧ x < (m : Int) ∧ 0 ≤ y ∧ y < (n : Int)) → ∀ W, (Instr.index 9 (.string S) (.int .i64 (y * ((m : Int) + 1) + x))).run Try.prog W = .ok (.int .u8 c) W := fun q W => by
            have h1 := HIX.out x.toNat y.toNat (by rw [HM.out]; omega) (by rw [HN.out]; omega)
            rw [show ((x.toNat : Nat) : Int) = x by omega, show ((y.toNat : Nat) : Int) = y by omega, hcv, HM.out] at h1
            have h2 := HID.out (y * ((m : Int) + 1) + x) _ (by rw [Int.natCast_add, Int.natCast_mul, Int.natCast_add]; rw [show ((x.toNat : Nat) : Int) = x by omega, show ((y.toNat : Nat) : Int) = y by omega]; rfl) _ h1 W
            rw [hok2.1] at h2
            exact h2
          have hmb : (0 ≤ x ∧ x < (m : Int) ∧ 0 ≤ y ∧ y < (n : Int)) → ∃ k : Nat, y * ((m : Int) + 1) = k ∧ k ≤ 5000 := fun q => by
            refine ⟨y.toNat * (m + 1), by rw [Int.natCast_mul, show ((y.toNat : Nat) : Int) = y by omega]; simp, ?_⟩
            have : y.toNat * (m + 1) ≤ 64 * 65 := Nat.mul_le_mul (by omega) (by omega)
            omega
          have HCV := Keep.mk hcv
          clear hcv hok hok2 hR
          by_cases q1 : x < 0
          · have hce := hrim (by omega)
            subst hce
            clear hrim hcs hmb HIX HID
            go_wp2_with fail
            refine hC.mono ?_
            rintro e wq ⟨rfl, rfl⟩
            go_wp2_with fail
            refine hC2.mono ?_
            rintro e wq ⟨rfl, rfl⟩
            go_wp2_with fail
            refine hA1.mono ?_
            rintro e wa ⟨rfl, ga⟩
            have SA := HSB.out.grown ga
            have z0 := (SA.boxGet k0m).cellv 0 _ rfl
            have z1 := (SA.boxGet k0m).cellv 1 _ rfl
            have hA2 := HA2.out _ (HB2.out.kept SA.g)
            have HSA := Keep.mk SA
            clear SA ga
            go_wp2_with fail
            refine hA2.mono ?_
            rintro e wb ⟨rfl, gb⟩
            have SB := HSA.out.grown gb
            have z0 := (SB.boxGet k0m).cellv 0 _ rfl
            have z1 := (SB.boxGet k0m).cellv 1 _ rfl
            have hA3 := HA3.out _ (HB1.out.kept SB.g)
            have HSB2 := Keep.mk SB
            clear SB gb
            go_wp2_with fail
            refine hA3.mono ?_
            rintro e wc ⟨rfl, gc⟩
            have HGC := Keep.mk (HSB2.out.g.trans gc)
            clear gc
            go_wp2_with fail
            go_roundw
            case rel => exact ⟨x + 1, by omega, by omega, rfl, HGC⟩
            case measure => simp [intOf]; omega
          by_cases q2 : (m : Int) ≤ x
          · by_cases q3 : y < 0
            · have hce := hrim (by omega)
              subst hce
              clear hrim hcs hmb HIX HID
              go_wp2_with fail
              refine hC.mono ?_
              rintro e wq ⟨rfl, rfl⟩
              go_wp2_with fail
              refine hC2.mono ?_
              rintro e wq ⟨rfl, rfl⟩
              go_wp2_with fail
              refine hA1.mono ?_
              rintro e wa ⟨rfl, ga⟩
              have SA := HSB.out.grown ga
              have z0 := (SA.boxGet k0m).cellv 0 _ rfl
              have z1 := (SA.boxGet k0m).cellv 1 _ rfl
              have hA2 := HA2.out _ (HB2.out.kept SA.g)
              have HSA := Keep.mk SA
              clear SA ga
              go_wp2_with fail
              refine hA2.mono ?_
              rintro e wb ⟨rfl, gb⟩
              have SB := HSA.out.grown gb
              have z0 := (SB.boxGet k0m).cellv 0 _ rfl
              have z1 := (SB.boxGet k0m).cellv 1 _ rfl
              have hA3 := HA3.out _ (HB1.out.kept SB.g)
              have HSB2 := Keep.mk SB
              clear SB gb
              go_wp2_with fail
              refine hA3.mono ?_
              rintro e wc ⟨rfl, gc⟩
              have HGC := Keep.mk (HSB2.out.g.trans gc)
              clear gc
              go_wp2_with fail
              go_roundw
              case rel => exact ⟨x + 1, by omega, by omega, rfl, HGC⟩
              case measure => simp [intOf]; omega
            by_cases q4 : y ≤ 0
            · have hce := hrim (by omega)
              subst hce
              clear hrim hcs hmb HIX HID
              go_wp2_with fail
              refine hC.mono ?_
              rintro e wq ⟨rfl, rfl⟩
              go_wp2_with fail
              refine hC2.mono ?_
              rintro e wq ⟨rfl, rfl⟩
              go_wp2_with fail
              refine hA1.mono ?_
              rintro e wa ⟨rfl, ga⟩
              have SA := HSB.out.grown ga
              have z0 := (SA.boxGet k0m).cellv 0 _ rfl
              have z1 := (SA.boxGet k0m).cellv 1 _ rfl
              have hA2 := HA2.out _ (HB2.out.kept SA.g)
              have HSA := Keep.mk SA
              clear SA ga
              go_wp2_with fail
              refine hA2.mono ?_
              rintro e wb ⟨rfl, gb⟩
              have SB := HSA.out.grown gb
              have z0 := (SB.boxGet k0m).cellv 0 _ rfl
              have z1 := (SB.boxGet k0m).cellv 1 _ rfl
              have hA3 := HA3.out _ (HB1.out.kept SB.g)
              have HSB2 := Keep.mk SB
              clear SB gb
              go_wp2_with fail
              refine hA3.mono ?_
              rintro e wc ⟨rfl, gc⟩
              have HGC := Keep.mk (HSB2.out.g.trans gc)
              clear gc
              go_wp2_with fail
              go_roundw
              case rel => exact ⟨x + 1, by omega, by omega, rfl, HGC⟩
              case measure => simp [intOf]; omega
            have hce := hrim (by omega)
            subst hce
            clear hrim hcs hmb HIX HID
            go_wp2_with fail
            refine hC.mono ?_
            rintro e wq ⟨rfl, rfl⟩
            go_wp2_with fail
            refine hC2.mono ?_
            rintro e wq ⟨rfl, rfl⟩
            go_wp2_with fail
            refine hA1.mono ?_
            rintro e wa ⟨rfl, ga⟩
            have SA := HSB.out.grown ga
            have z0 := (SA.boxGet k0m).cellv 0 _ rfl
            have z1 := (SA.boxGet k0m).cellv 1 _ rfl
            have hA2 := HA2.out _ (HB2.out.kept SA.g)
            have HSA := Keep.mk SA
            clear SA ga
            go_wp2_with fail
            refine hA2.mono ?_
            rintro e wb ⟨rfl, gb⟩
            have SB := HSA.out.grown gb
            have z0 := (SB.boxGet k0m).cellv 0 _ rfl
            have z1 := (SB.boxGet k0m).cellv 1 _ rfl
            have hA3 := HA3.out _ (HB1.out.kept SB.g)
            have HSB2 := Keep.mk SB
            clear SB gb
            go_wp2_with fail
            refine hA3.mono ?_
            rintro e wc ⟨rfl, gc⟩
            have HGC := Keep.mk (HSB2.out.g.trans gc)
            clear gc
            go_wp2_with fail
            go_roundw
            case rel => exact ⟨x + 1, by omega, by omega, rfl, HGC⟩
            case measure => simp [intOf]; omega
          by_cases q3 : y < 0
          · by_cases q4 : x ≤ 0
            · have hce := hrim (by omega)
              subst hce
              clear hrim hcs hmb HIX HID
              go_wp2_with fail
              refine hC.mono ?_
              rintro e wq ⟨rfl, rfl⟩
              go_wp2_with fail
              refine hC2.mono ?_
              rintro e wq ⟨rfl, rfl⟩
              go_wp2_with fail
              refine hA1.mono ?_
              rintro e wa ⟨rfl, ga⟩
              have SA := HSB.out.grown ga
              have z0 := (SA.boxGet k0m).cellv 0 _ rfl
              have z1 := (SA.boxGet k0m).cellv 1 _ rfl
              have hA2 := HA2.out _ (HB2.out.kept SA.g)
              have HSA := Keep.mk SA
              clear SA ga
              go_wp2_with fail
              refine hA2.mono ?_
              rintro e wb ⟨rfl, gb⟩
              have SB := HSA.out.grown gb
              have z0 := (SB.boxGet k0m).cellv 0 _ rfl
              have z1 := (SB.boxGet k0m).cellv 1 _ rfl
              have hA3 := HA3.out _ (HB1.out.kept SB.g)
              have HSB2 := Keep.mk SB
              clear SB gb
              go_wp2_with fail
              refine hA3.mono ?_
              rintro e wc ⟨rfl, gc⟩
              have HGC := Keep.mk (HSB2.out.g.trans gc)
              clear gc
              go_wp2_with fail
              go_roundw
              case rel => exact ⟨x + 1, by omega, by omega, rfl, HGC⟩
              case measure => simp [intOf]; omega
            have hce := hrim (by omega)
            subst hce
            clear hrim hcs hmb HIX HID
            go_wp2_with fail
            refine hC.mono ?_
            rintro e wq ⟨rfl, rfl⟩
            go_wp2_with fail
            refine hC2.mono ?_
            rintro e wq ⟨rfl, rfl⟩
            go_wp2_with fail
            refine hA1.mono ?_
            rintro e wa ⟨rfl, ga⟩
            have SA := HSB.out.grown ga
            have z0 := (SA.boxGet k0m).cellv 0 _ rfl
            have z1 := (SA.boxGet k0m).cellv 1 _ rfl
            have hA2 := HA2.out _ (HB2.out.kept SA.g)
            have HSA := Keep.mk SA
            clear SA ga
            go_wp2_with fail
            refine hA2.mono ?_
            rintro e wb ⟨rfl, gb⟩
            have SB := HSA.out.grown gb
            have z0 := (SB.boxGet k0m).cellv 0 _ rfl
            have z1 := (SB.boxGet k0m).cellv 1 _ rfl
            have hA3 := HA3.out _ (HB1.out.kept SB.g)
            have HSB2 := Keep.mk SB
            clear SB gb
            go_wp2_with fail
            refine hA3.mono ?_
            rintro e wc ⟨rfl, gc⟩
            have HGC := Keep.mk (HSB2.out.g.trans gc)
            clear gc
            go_wp2_with fail
            go_roundw
            case rel => exact ⟨x + 1, by omega, by omega, rfl, HGC⟩
            case measure => simp [intOf]; omega
          by_cases q4 : (n : Int) ≤ y
          · by_cases q5 : x ≤ 0
            · have hce := hrim (by omega)
              subst hce
              clear hrim hcs hmb HIX HID
              go_wp2_with fail
              refine hC.mono ?_
              rintro e wq ⟨rfl, rfl⟩
              go_wp2_with fail
              refine hC2.mono ?_
              rintro e wq ⟨rfl, rfl⟩
              go_wp2_with fail
              refine hA1.mono ?_
              rintro e wa ⟨rfl, ga⟩
              have SA := HSB.out.grown ga
              have z0 := (SA.boxGet k0m).cellv 0 _ rfl
              have z1 := (SA.boxGet k0m).cellv 1 _ rfl
              have hA2 := HA2.out _ (HB2.out.kept SA.g)
              have HSA := Keep.mk SA
              clear SA ga
              go_wp2_with fail
              refine hA2.mono ?_
              rintro e wb ⟨rfl, gb⟩
              have SB := HSA.out.grown gb
              have z0 := (SB.boxGet k0m).cellv 0 _ rfl
              have z1 := (SB.boxGet k0m).cellv 1 _ rfl
              have hA3 := HA3.out _ (HB1.out.kept SB.g)
              have HSB2 := Keep.mk SB
              clear SB gb
              go_wp2_with fail
              refine hA3.mono ?_
              rintro e wc ⟨rfl, gc⟩
              have HGC := Keep.mk (HSB2.out.g.trans gc)
              clear gc
              go_wp2_with fail
              go_roundw
              case rel => exact ⟨x + 1, by omega, by omega, rfl, HGC⟩
              case measure => simp [intOf]; omega
            by_cases q6 : (m : Int) - 1 ≤ x
            · have hce := hrim (by omega)
              subst hce
              clear hrim hcs hmb HIX HID
              go_wp2_with fail
              refine hC.mono ?_
              rintro e wq ⟨rfl, rfl⟩
              go_wp2_with fail
              refine hC2.mono ?_
              rintro e wq ⟨rfl, rfl⟩
              go_wp2_with fail
              refine hA1.mono ?_
              rintro e wa ⟨rfl, ga⟩
              have SA := HSB.out.grown ga
              have z0 := (SA.boxGet k0m).cellv 0 _ rfl
              have z1 := (SA.boxGet k0m).cellv 1 _ rfl
              have hA2 := HA2.out _ (HB2.out.kept SA.g)
              have HSA := Keep.mk SA
              clear SA ga
              go_wp2_with fail
              refine hA2.mono ?_
              rintro e wb ⟨rfl, gb⟩
              have SB := HSA.out.grown gb
              have z0 := (SB.boxGet k0m).cellv 0 _ rfl
              have z1 := (SB.boxGet k0m).cellv 1 _ rfl
              have hA3 := HA3.out _ (HB1.out.kept SB.g)
              have HSB2 := Keep.mk SB
              clear SB gb
              go_wp2_with fail
              refine hA3.mono ?_
              rintro e wc ⟨rfl, gc⟩
              have HGC := Keep.mk (HSB2.out.g.trans gc)
              clear gc
              go_wp2_with fail
              go_roundw
              case rel => exact ⟨x + 1, by omega, by omega, rfl, HGC⟩
              case measure => simp [intOf]; omega
            have hce := hrim (by omega)
            subst hce
            clear hrim hcs hmb HIX HID
            go_wp2_with fail
            refine hC.mono ?_
            rintro e wq ⟨rfl, rfl⟩
            go_wp2_with fail
            refine hC2.mono ?_
            rintro e wq ⟨rfl, rfl⟩
            go_wp2_with fail
            refine hA1.mono ?_
            rintro e wa ⟨rfl, ga⟩
            have SA := HSB.out.grown ga
            have z0 := (SA.boxGet k0m).cellv 0 _ rfl
            have z1 := (SA.boxGet k0m).cellv 1 _ rfl
            have hA2 := HA2.out _ (HB2.out.kept SA.g)
            have HSA := Keep.mk SA
            clear SA ga
            go_wp2_with fail
            refine hA2.mono ?_
            rintro e wb ⟨rfl, gb⟩
            have SB := HSA.out.grown gb
            have z0 := (SB.boxGet k0m).cellv 0 _ rfl
            have z1 := (SB.boxGet k0m).cellv 1 _ rfl
            have hA3 := HA3.out _ (HB1.out.kept SB.g)
            have HSB2 := Keep.mk SB
            clear SB gb
            go_wp2_with fail
            refine hA3.mono ?_
            rintro e wc ⟨rfl, gc⟩
            have HGC := Keep.mk (HSB2.out.g.trans gc)
            clear gc
            go_wp2_with fail
            go_roundw
            case rel => exact ⟨x + 1, by omega, by omega, rfl, HGC⟩
            case measure => simp [intOf]; omega
          by_cases q5 : x ≤ 0
          · obtain ⟨k, hk, hk1⟩ := hmb (by omega)
            have hidx := hcs (by omega)
            rw [hk] at hidx
            clear hcs hmb HIX HID
            have hce := hrim (by omega)
            subst hce
            clear hrim
            go_wp2_with fail
            refine hC.mono ?_
            rintro e wq ⟨rfl, rfl⟩
            go_wp2_with fail
            refine hC2.mono ?_
            rintro e wq ⟨rfl, rfl⟩
            go_wp2_with fail
            refine hA1.mono ?_
            rintro e wa ⟨rfl, ga⟩
            have SA := HSB.out.grown ga
            have z0 := (SA.boxGet k0m).cellv 0 _ rfl
            have z1 := (SA.boxGet k0m).cellv 1 _ rfl
            have hA2 := HA2.out _ (HB2.out.kept SA.g)
            have HSA := Keep.mk SA
            clear SA ga
            go_wp2_with fail
            refine hA2.mono ?_
            rintro e wb ⟨rfl, gb⟩
            have SB := HSA.out.grown gb
            have z0 := (SB.boxGet k0m).cellv 0 _ rfl
            have z1 := (SB.boxGet k0m).cellv 1 _ rfl
            have hA3 := HA3.out _ (HB1.out.kept SB.g)
            have HSB2 := Keep.mk SB
            clear SB gb
            go_wp2_with fail
            refine hA3.mono ?_
            rintro e wc ⟨rfl, gc⟩
            have HGC := Keep.mk (HSB2.out.g.trans gc)
            clear gc
            go_wp2_with fail
            go_roundw
            case rel => exact ⟨x + 1, by omega, by omega, rfl, HGC⟩
            case measure => simp [intOf]; omega
          by_cases q6 : y ≤ 0
          · obtain ⟨k, hk, hk1⟩ := hmb (by omega)
            have hidx := hcs (by omega)
            rw [hk] at hidx
            clear hcs hmb HIX HID
            have hce := hrim (by omega)
            subst hce
            clear hrim
            go_wp2_with fail
            refine hC.mono ?_
            rintro e wq ⟨rfl, rfl⟩
            go_wp2_with fail
            refine hC2.mono ?_
            rintro e wq ⟨rfl, rfl⟩
            go_wp2_with fail
            refine hA1.mono ?_
            rintro e wa ⟨rfl, ga⟩
            have SA := HSB.out.grown ga
            have z0 := (SA.boxGet k0m).cellv 0 _ rfl
            have z1 := (SA.boxGet k0m).cellv 1 _ rfl
            have hA2 := HA2.out _ (HB2.out.kept SA.g)
            have HSA := Keep.mk SA
            clear SA ga
            go_wp2_with fail
            refine hA2.mono ?_
            rintro e wb ⟨rfl, gb⟩
            have SB := HSA.out.grown gb
            have z0 := (SB.boxGet k0m).cellv 0 _ rfl
            have z1 := (SB.boxGet k0m).cellv 1 _ rfl
            have hA3 := HA3.out _ (HB1.out.kept SB.g)
            have HSB2 := Keep.mk SB
            clear SB gb
            go_wp2_with fail
            refine hA3.mono ?_
            rintro e wc ⟨rfl, gc⟩
            have HGC := Keep.mk (HSB2.out.g.trans gc)
            clear gc
            go_wp2_with fail
            go_roundw
            case rel => exact ⟨x + 1, by omega, by omega, rfl, HGC⟩
            case measure => simp [intOf]; omega
          by_cases q7 : (m : Int) - 1 ≤ x
          · obtain ⟨k, hk, hk1⟩ := hmb (by omega)
            have hidx := hcs (by omega)
            rw [hk] at hidx
            clear hcs hmb HIX HID
            have hce := hrim (by omega)
            subst hce
            clear hrim
            go_wp2_with fail
            refine hC.mono ?_
            rintro e wq ⟨rfl, rfl⟩
            go_wp2_with fail
            refine hC2.mono ?_
            rintro e wq ⟨rfl, rfl⟩
            go_wp2_with fail
            refine hA1.mono ?_
            rintro e wa ⟨rfl, ga⟩
            have SA := HSB.out.grown ga
            have z0 := (SA.boxGet k0m).cellv 0 _ rfl
            have z1 := (SA.boxGet k0m).cellv 1 _ rfl
            have hA2 := HA2.out _ (HB2.out.kept SA.g)
            have HSA := Keep.mk SA
            clear SA ga
            go_wp2_with fail
            refine hA2.mono ?_
            rintro e wb ⟨rfl, gb⟩
            have SB := HSA.out.grown gb
            have z0 := (SB.boxGet k0m).cellv 0 _ rfl
            have z1 := (SB.boxGet k0m).cellv 1 _ rfl
            have hA3 := HA3.out _ (HB1.out.kept SB.g)
            have HSB2 := Keep.mk SB
            clear SB gb
            go_wp2_with fail
            refine hA3.mono ?_
            rintro e wc ⟨rfl, gc⟩
            have HGC := Keep.mk (HSB2.out.g.trans gc)
            clear gc
            go_wp2_with fail
            go_roundw
            case rel => exact ⟨x + 1, by omega, by omega, rfl, HGC⟩
            case measure => simp [intOf]; omega
          by_cases q8 : (n : Int) - 1 ≤ y
          · obtain ⟨k, hk, hk1⟩ := hmb (by omega)
            have hidx := hcs (by omega)
            rw [hk] at hidx
            clear hcs hmb HIX HID
            have hce := hrim (by omega)
            subst hce
            clear hrim
            go_wp2_with fail
            refine hC.mono ?_
            rintro e wq ⟨rfl, rfl⟩
            go_wp2_with fail
            refine hC2.mono ?_
            rintro e wq ⟨rfl, rfl⟩
            go_wp2_with fail
            refine hA1.mono ?_
            rintro e wa ⟨rfl, ga⟩
            have SA := HSB.out.grown ga
            have z0 := (SA.boxGet k0m).cellv 0 _ rfl
            have z1 := (SA.boxGet k0m).cellv 1 _ rfl
            have hA2 := HA2.out _ (HB2.out.kept SA.g)
            have HSA := Keep.mk SA
            clear SA ga
            go_wp2_with fail
            refine hA2.mono ?_
            rintro e wb ⟨rfl, gb⟩
            have SB := HSA.out.grown gb
            have z0 := (SB.boxGet k0m).cellv 0 _ rfl
            have z1 := (SB.boxGet k0m).cellv 1 _ rfl
            have hA3 := HA3.out _ (HB1.out.kept SB.g)
            have HSB2 := Keep.mk SB
            clear SB gb
            go_wp2_with fail
            refine hA3.mono ?_
            rintro e wc ⟨rfl, gc⟩
            have HGC := Keep.mk (HSB2.out.g.trans gc)
            clear gc
            go_wp2_with fail
            go_roundw
            case rel => exact ⟨x + 1, by omega, by omega, rfl, HGC⟩
            case measure => simp [intOf]; omega
          by_cases q9 : c = 35
          · subst q9
            obtain ⟨k, hk, hk1⟩ := hmb (by omega)
            have hidx := hcs (by omega)
            rw [hk] at hidx
            clear hcs hmb HIX HID
            clear hrim
            go_wp2_with fail
            refine hC.mono ?_
            rintro e wq ⟨rfl, rfl⟩
            go_wp2_with fail
            refine hC2.mono ?_
            rintro e wq ⟨rfl, rfl⟩
            go_wp2_with fail
            refine hA1.mono ?_
            rintro e wa ⟨rfl, ga⟩
            have SA := HSB.out.grown ga
            have z0 := (SA.boxGet k0m).cellv 0 _ rfl
            have z1 := (SA.boxGet k0m).cellv 1 _ rfl
            have hA2 := HA2.out _ (HB2.out.kept SA.g)
            have HSA := Keep.mk SA
            clear SA ga
            go_wp2_with fail
            refine hA2.mono ?_
            rintro e wb ⟨rfl, gb⟩
            have SB := HSA.out.grown gb
            have z0 := (SB.boxGet k0m).cellv 0 _ rfl
            have z1 := (SB.boxGet k0m).cellv 1 _ rfl
            have hA3 := HA3.out _ (HB1.out.kept SB.g)
            have HSB2 := Keep.mk SB
            clear SB gb
            go_wp2_with fail
            refine hA3.mono ?_
            rintro e wc ⟨rfl, gc⟩
            have HGC := Keep.mk (HSB2.out.g.trans gc)
            clear gc
            go_wp2_with fail
            go_roundw
            case rel => exact ⟨x + 1, by omega, by omega, rfl, HGC⟩
            case measure => simp [intOf]; omega
          obtain ⟨k, hk, hk1⟩ := hmb (by omega)
          have hidx := hcs (by omega)
          rw [hk] at hidx
          clear hcs hmb HIX HID
          clear hrim
          go_wp2_with fail
          refine hC.mono ?_
          rintro e wq ⟨rfl, rfl⟩
          go_wp2_with fail
          refine hC2.mono ?_
          rintro e wq ⟨rfl, rfl⟩
          go_wp2_with fail
          refine hA1.mono ?_
          rintro e wa ⟨rfl, ga⟩
          have SA := HSB.out.grown ga
          have z0 := (SA.boxGet k0m).cellv 0 _ rfl
          have z1 := (SA.boxGet k0m).cellv 1 _ rfl
          have hA2 := HA2.out _ (HB2.out.kept SA.g)
          have HSA := Keep.mk SA
          clear SA ga
          go_wp2_with fail
          refine hA2.mono ?_
          rintro e wb ⟨rfl, gb⟩
          have SB := HSA.out.grown gb
          have z0 := (SB.boxGet k0m).cellv 0 _ rfl
          have z1 := (SB.boxGet k0m).cellv 1 _ rfl
          have hA3 := HA3.out _ (HB1.out.kept SB.g)
          have HSB2 := Keep.mk SB
          clear SB gb
          go_wp2_with fail
          refine hA3.mono ?_
          rintro e wc ⟨rfl, gc⟩
          have HGC := Keep.mk (HSB2.out.g.trans gc)
          clear gc
          go_wp2_with fail
          go_roundw
          case rel => exact ⟨x + 1, by omega, by omega, rfl, HGC⟩
          case measure => simp [intOf]; omega
        · have hyw : IntKind.i64.wrap (y + 1) = y + 1 := wi _ (by omega) (by omega)
          go_wp2_with fail
          go_roundw
          case rel => exact ⟨y + 1, by omega, by omega, rfl, hR⟩
          case measure => simp [intOf]; omega
    · have hS1 := spawns_c _ _ _ (HB1.out.kept hR.out)
      go_wp2_with fail
      refine hS1.mono ?_
      rintro e wa ⟨u, rfl, Sa⟩
      obtain ⟨a, c, rfl⟩ := own_slice (Sa.rowGet k0m)
      have HGA := Keep.mk (hR.out.trans Sa.g)
      have hS2 := spawns_c _ _ _ (HB2.out.kept HGA.out)
      rw [can_spn HE.out] at hS2
      clear hS1 Sa hR
      go_wp2_with fail
      refine hS2.mono ?_
      rintro e wb ⟨u, rfl, Sb⟩
      obtain ⟨a', c', rfl⟩ := own_slice (Sb.rowGet k0m)
      have HGB := Keep.mk (HG.out.trans (HGA.out.trans Sb.g))
      clear hS2 Sb HGA
      go_wp2_with fail
      go_ret
      exact ⟨rfl, HGB.out⟩
end Go.Proofs.Ytglnmmifedlgmaa
