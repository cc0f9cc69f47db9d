/- WindowSteps' walk. -/
import Derived.Test.YtollbodeafdhkaaA4
namespace Go.Proofs.Ytollbodeafdhkaa
open Go Go.RowKit
theorem chk_below {h B b : Nat} (hb : b < h) (h64 : b < 64) : chk h B (h - b) = if B.testBit b then 91 else 0 := by
  unfold chk
  rw [if_neg (by omega), if_neg (by omega), show h - (h - b) = b by omega]
theorem mkB_below {h B b : Nat} (hb : b < h) (h64 : b < 64) : mkB h B (h - b) = B ||| 2 ^ b := by
  unfold mkB
  rw [chk_below hb h64]
  by_cases q : B.testBit b = true
  · rw [if_pos q, if_neg (by omega)]
    apply Nat.eq_of_testBit_eq
    intro i
    rw [Nat.testBit_or, Nat.testBit_two_pow]
    by_cases e : b = i
    · subst e; simp [q]
    · simp [e]
  · rw [if_neg q, if_pos rfl, if_neg (by omega), show h - (h - b) = b by omega]
theorem mkH_below {h B b : Nat} : mkH h B (h - b) = h := by
  unfold mkH
  split <;> omega
theorem and_bit (B b : Nat) : B &&& 2 ^ b = if B.testBit b then 2 ^ b else 0 := by
  apply Nat.eq_of_testBit_eq
  intro i
  rw [Nat.testBit_and, Nat.testBit_two_pow]
  by_cases e : b = i
  · subst e
    by_cases q : B.testBit b = true
    · rw [if_pos q, Nat.testBit_two_pow]; simp [q]
    · rw [if_neg q]; simp [q]
  · by_cases q : B.testBit b = true
    · rw [if_pos q, Nat.testBit_two_pow]; simp [e]
    · rw [if_neg q]; simp [e]
theorem chk_self {h B : Nat} {M : List Nat} (v : Inv h B M) (hh : h ≠ 0) : chk h B h = 91 := by
  rw [v.chk_is, if_neg (by omega), if_neg (by omega), if_pos (v.top hh)]
set_option maxRecDepth 100000 in
set_option maxHeartbeats 16000000 in
theorem steps_law (a a2 : Option Addr) (n c n2 c2 : Nat) (xs ys : List Nat) (y f : Nat) (w : World) (hs : Ns .u8 w a n xs) (hs2 : Ns .u8 w a2 n2 ys) (hn2 : n2 ≤ 9223372036854775807) (hy : y < 256) (hf : f < 18446744073709551616) :
    Calls Try.prog 5 #[.agg #[.slice a n c, .slice a2 n2 c2, .int .u8 y, .int .u64 f]] w fun e w' => e = .returned (.bool true) ∧ w.grownBy w' none := by
  have HX : Keep (Ns .u8 w a n xs ∧ Ns .u8 w a2 n2 ys) := ⟨hs, hs2⟩
  clear hs hs2
  have HG : Keep (w.grownBy (w.alloc (.cells #[.slice a n c, .slice a2 n2 c2, .int .u8 y, .int .u64 f] 38)) none) := ⟨World.grownBy_alloc _ _ _⟩
  have HH : Keep (Has (w.alloc (.cells #[.slice a n c, .slice a2 n2 c2, .int .u8 y, .int .u64 f] 38)) w.heap.size [.slice a n c, .slice a2 n2 c2, .int .u8 y, .int .u64 f] 38) := ⟨Has.new w _ 38⟩
  go_enter Try.func5, Try.ntmps5
  go_wp2_with fail
  refine (alive_c _).mono ?_
  rintro e w1 ⟨rfl, g⟩
  replace HG := Keep.mk (HG.out.trans g)
  replace HH := Keep.mk (HH.out.kept g (by simp))
  clear g
  have q0 := HH.out.cellv 0 _ rfl
  have q1 := HH.out.cellv 1 _ rfl
  have q2 := HH.out.cellv 2 _ rfl
  have q3 := HH.out.cellv 3 _ rfl
  clear HH
  by_cases hn : 200 < n
  · have hni : (200 : Int) < (n : Int) := by omega
    go_wp2_with fail
    go_ret
    exact ⟨rfl, HG.out.trans (World.grownBy_alloc _ _ _)⟩
  have hni : ¬ (200 : Int) < (n : Int) := by omega
  have HM : Keep (MW w (w1.alloc (.cells #[.int .u64 0, .int .u64 0] 26)) w1.heap.size 0 0 []) := ⟨MW.new HG.out⟩
  go_wp2_with fail
  generalize w1.alloc _ = w2 at *
  generalize w1.heap.size = b at *
  clear q0 q1 q2 q3
  refine (walk_c HM.out a n c xs HX.out.1 (by omega) (by omega)).mono ?_
  rintro e w3 ⟨rfl, ⟨h, B, M, hh, hm⟩, -⟩
  replace HM := Keep.mk hm
  clear hm HG
  have hh2 : h ≤ 12800 := by omega
  clear hh
  go_wp2_with fail
  go_loopw [8] (fun s w' => ∃ (i B : Nat) (M : List Nat), i ≤ n2 ∧ s = .int .i64 (i : Nat) ∧ Keep (MW w w' b h B M)) (fun s _ => n2 - (intOf s).toNat)
  case atStart => exact ⟨0, B, M, by omega, rfl, HM⟩
  case round =>
    clear HM B M
    obtain ⟨i, B, M, i1, rfl, HM⟩ := hrel
    have z0 := HM.out.k.has.cellv 0 _ rfl
    have z1 := HM.out.k.has.cellv 1 _ rfl
    by_cases hi : i < n2
    · have hia : (i : Int) < (n2 : Int) := by omega
      obtain ⟨sb, so, x, rfl, hxi, hx, hcc⟩ := HX.out.2.step hi
      have hx256 : (x : Int) < 256 := by simpa [IntKind.bits] using hx
      have c1 := hcc wr HM.out.g
      clear hcc hxi hx
      have hwi : IntKind.i64.wrap ((i : Int) + 1) = ((i + 1 : Nat) : Int) := wi _ (by omega) (by omega)
      have hx8 : IntKind.u64.wrap (x : Int) = (x : Int) := wu _ (by omega) (by omega)
      have hmod : (x : Int).tmod 64 = ((x % 64 : Nat) : Int) := by rw [Int.tmod_eq_emod_of_nonneg (by omega)]; omega
      have hwm : IntKind.u64.wrap ((x % 64 : Nat) : Int) = ((x % 64 : Nat) : Int) := wu _ (by omega) (by omega)
      have hp64 : x % 64 < 64 := by omega
      generalize x % 64 = p at *
      go_wp2_with fail
      refine (bits_c h B _).mono ?_
      rintro e w4 ⟨rfl, g⟩
      replace HM := Keep.mk (HM.out.kept g)
      clear g z0 z1 c1
      have z0 := HM.out.k.has.cellv 0 _ rfl
      have z1 := HM.out.k.has.cellv 1 _ rfl
      go_wp2_with fail
      refine (high_c h B _).mono ?_
      rintro e w5 ⟨rfl, g⟩
      replace HM := Keep.mk (HM.out.kept g)
      clear g z0 z1
      by_cases hb : h ≤ p
      · have hbi : (h : Int) ≤ (p : Int) := by omega
        obtain ⟨S, hS, hSl, hSc⟩ : ∃ S : Nat, IntKind.u64.wrap ((h : Int) - (p : Int)) = (S : Int) ∧ S < 18446744073709551616 ∧ (chk h B S = 90 ∨ chk h B S = 92) := by
          by_cases he : h = p
          · refine ⟨0, by rw [he, Int.sub_self]; rfl, by omega, .inl ?_⟩
            unfold chk
            rw [if_neg (by omega), if_pos (by omega)]
          · refine ⟨18446744073709551616 + h - p, by simp [IntKind.wrap, IntKind.bits, IntKind.signed]; omega, by omega, .inr ?_⟩
            unfold chk
            rw [if_pos (by omega), if_pos (by omega)]
        go_wp2_with fail
        have cm := my_mark HM.out S hSl
        have hno : chk h B S ≠ 0 := by omega
        rw [mkH_no hno, mkB_no hno, show mkM h B S M = M by unfold mkM; rw [if_neg hno]] at cm
        refine cm.mono ?_
        rintro e w6 ⟨rfl, hm, -⟩
        replace HM := Keep.mk hm
        clear cm hm hno
        generalize chk h B S = k at *
        go_wp2_with fail
        refine (num_c _ _).mono ?_
        rintro e w7 ⟨rfl, rfl⟩
        have z0 := HM.out.k.has.cellv 0 _ rfl
        have z1 := HM.out.k.has.cellv 1 _ rfl
        rcases hSc with rfl | rfl
        all_goals
          go_wp2_with fail
          refine (high_c h B _).mono ?_
          rintro e w8 ⟨rfl, g⟩
          replace HM := Keep.mk (HM.out.kept g)
          clear g z0 z1
          go_wp2_with fail
          refine ⟨⟨i + 1, B, M, by omega, rfl, HM⟩, ?_⟩
          simp only [intOf]; omega
      · have hbi : ¬ (h : Int) ≤ (p : Int) := by omega
        have hS : IntKind.u64.wrap ((h : Int) - (p : Int)) = ((h - p : Nat) : Int) := by rw [wu _ (by omega) (by omega)]; omega
        have cm := my_mark HM.out (h - p) (by omega)
        rw [mkH_below, mkB_below (by omega) hp64, chk_below (by omega) hp64] at cm
        generalize mkM h B (h - p) M = M2 at *
        obtain ⟨S, hSe⟩ : ∃ S, h - p = S := ⟨_, rfl⟩
        rw [hSe] at hS cm
        clear hSe
        go_wp2_with fail
        refine cm.mono ?_
        rintro e w6 ⟨rfl, hm, -⟩
        have hBl := HM.out.k.b1
        replace HM := Keep.mk hm
        clear cm hm
        have hp : 2 ^ p < 18446744073709551616 := by
          have := Nat.pow_le_pow_right (show 0 < 2 by omega) (show p ≤ 63 by omega)
          omega
        have hb1 : IntKind.u64.wrap (2 ^ p) = ((2 ^ p : Nat) : Int) := by
          have e : ((2 : Int) ^ p) = ((2 ^ p : Nat) : Int) := by simp
          rw [e]
          generalize 2 ^ p = P at *
          exact wu _ (by omega) (by omega)
        have hor : bits .or .u64 (B : Int) ((2 ^ p : Nat) : Int) = ((B ||| 2 ^ p : Nat) : Int) := u64_or_nat B _ hBl hp
        have hand : bits .and .u64 (B : Int) ((2 ^ p : Nat) : Int) = ((B &&& 2 ^ p : Nat) : Int) := u64_and_nat B _ hBl hp
        have HP : Keep (0 < 2 ^ p) := ⟨Nat.two_pow_pos p⟩
        rw [and_bit] at hand
        have z0 := HM.out.k.has.cellv 0 _ rfl
        have z1 := HM.out.k.has.cellv 1 _ rfl
        have HQ := Keep.mk (rfl : B ||| 2 ^ p = B ||| 2 ^ p)
        generalize B ||| 2 ^ p = B2 at *
        generalize 2 ^ p = P at hb1 hor hand HP
        clear hp
        by_cases hbit : B.testBit p = true
        · rw [if_pos hbit] at hand ⊢
          have hne : ((P : Int) == 0) = false := by have := HP.out; simp; omega
          go_wp2_with fail
          refine (num_c _ _).mono ?_
          rintro e w7 ⟨rfl, rfl⟩
          go_wp2_with fail
          refine (bits_c h B2 _).mono ?_
          rintro e w8 ⟨rfl, g⟩
          replace HM := Keep.mk (HM.out.kept g)
          clear g z0 z1
          have z0 := HM.out.k.has.cellv 0 _ rfl
          have z1 := HM.out.k.has.cellv 1 _ rfl
          go_wp2_with fail
          refine (high_c h B2 _).mono ?_
          rintro e w9 ⟨rfl, g⟩
          replace HM := Keep.mk (HM.out.kept g)
          clear g z0 z1
          go_wp2_with fail
          refine ⟨⟨i + 1, _, _, by omega, rfl, HM⟩, ?_⟩
          simp only [intOf]; omega
        · rw [if_neg hbit] at hand ⊢
          go_wp2_with fail
          refine (num_c _ _).mono ?_
          rintro e w7 ⟨rfl, rfl⟩
          go_wp2_with fail
          refine (bits_c h B2 _).mono ?_
          rintro e w8 ⟨rfl, g⟩
          replace HM := Keep.mk (HM.out.kept g)
          clear g z0 z1
          have z0 := HM.out.k.has.cellv 0 _ rfl
          have z1 := HM.out.k.has.cellv 1 _ rfl
          go_wp2_with fail
          refine (high_c h B2 _).mono ?_
          rintro e w9 ⟨rfl, g⟩
          replace HM := Keep.mk (HM.out.kept g)
          clear g z0 z1
          go_wp2_with fail
          refine ⟨⟨i + 1, _, _, by omega, rfl, HM⟩, ?_⟩
          simp only [intOf]; omega
    · have hia : ¬ (i : Int) < (n2 : Int) := by omega
      have HV : Keep (MW w (wr.alloc (.cells #[uv h, uv B] 26)) wr.heap.size h B M ∧ b ≠ wr.heap.size) := ⟨HM.out.copy, by have := HM.out.k.has.lt; omega⟩
      replace HM := Keep.mk (HM.out.kept (World.grownBy_alloc wr (.cells #[uv h, uv B] 26) none))
      have hmod : (y : Int).tmod 64 = ((y % 64 : Nat) : Int) := by rw [Int.tmod_eq_emod_of_nonneg (by omega)]; omega
      have hwm : IntKind.u8.wrap ((y % 64 : Nat) : Int) = ((y % 64 : Nat) : Int) := by rw [IntKind.wrap_u8']; omega
      have hp64 : y % 64 < 64 := by omega
      generalize y % 64 = p at *
      have hwa : IntKind.u8.wrap (1 + (p : Int)) = ((1 + p : Nat) : Int) := by rw [IntKind.wrap_u8']; omega
      have hwb : IntKind.u64.wrap ((1 + p : Nat) : Int) = ((1 + p : Nat) : Int) := wu _ (by omega) (by omega)
      obtain ⟨d, hd⟩ : ∃ d, 1 + p = d := ⟨_, rfl⟩
      rw [hd] at hwa hwb
      have hd1 : 1 ≤ d := by omega
      have hd2 : d ≤ 64 := by omega
      clear hd
      have y0 := HM.out.k.has.cellv 0 _ rfl
      have y1 := HM.out.k.has.cellv 1 _ rfl
      go_wp2_with fail
      generalize wr.alloc _ = w4 at *
      generalize wr.heap.size = v at *
      clear z0 z1 y0 y1
      refine (bits_c h B _).mono ?_
      rintro e w5 ⟨rfl, g⟩
      replace HM := Keep.mk (HM.out.kept g)
      replace HV := Keep.mk (And.intro (HV.out.1.kept g) HV.out.2)
      clear g
      have z0 := HM.out.k.has.cellv 0 _ rfl
      have z1 := HM.out.k.has.cellv 1 _ rfl
      go_wp2_with fail
      refine (high_c h B _).mono ?_
      rintro e w6 ⟨rfl, g⟩
      replace HM := Keep.mk (HM.out.kept g)
      replace HV := Keep.mk (And.intro (HV.out.1.kept g) HV.out.2)
      clear g z0 z1
      have hBl := HM.out.k.b1
      have hsum : IntKind.u64.wrap ((h : Int) + (d : Int)) = ((h + d : Nat) : Int) := wu _ (by omega) (by omega)
      have hshl : IntKind.u64.wrap ((B : Int) * 2 ^ d) = ((B * 2 ^ d % 18446744073709551616 : Nat) : Int) := by
        rw [show IntKind.u64.wrap ((B : Int) * 2 ^ d) = ((B : Int) * 2 ^ d) % 18446744073709551616 by simp [IntKind.wrap, IntKind.bits, IntKind.signed]]
        simp
      have hB3 : B * 2 ^ d % 18446744073709551616 < 18446744073709551616 := Nat.mod_lt _ (by omega)
      have hor : bits .or .u64 ((B * 2 ^ d % 18446744073709551616 : Nat) : Int) 1 = ((B * 2 ^ d % 18446744073709551616 ||| 1 : Nat) : Int) := u64_or_nat _ 1 hB3 (by omega)
      have hu := up_ok (h := h) (B := B) hd1 hd2
      have HB4 : Keep (mkB h B (h + d) = B * 2 ^ d % 18446744073709551616 ||| 1) := ⟨by
        unfold mkB
        rw [if_pos hu.1, if_pos (by omega), show h + d - h = d by omega]⟩
      generalize B * 2 ^ d % 18446744073709551616 = B3 at *
      generalize B3 ||| 1 = B4 at *
      have HU : Keep (chk h B (h + d) = 0 ∧ mkH h B (h + d) = h + d ∧ h + d < 18446744073709551616 ∧ h + d ≠ 0) := ⟨hu.1, hu.2, by omega, by omega⟩
      clear hu hB3
      obtain ⟨S, hS⟩ : ∃ S, h + d = S := ⟨_, rfl⟩
      rw [hS] at hsum HB4 HU
      clear hS
      have hfar : (∃ F : Nat, IntKind.u64.wrap ((f : Int) - (h : Int)) = (F : Int) ∧ (h : Int) < (f : Int) ∧ (64 : Int) < (F : Int) ∧ chk h B f = 92) ∨ ¬ (h : Int) < (f : Int) ∨ ((h : Int) < (f : Int) ∧ ∃ F : Nat, IntKind.u64.wrap ((f : Int) - (h : Int)) = (F : Int) ∧ ¬ (64 : Int) < (F : Int)) := by
        by_cases h1 : h < f
        · have hw : IntKind.u64.wrap ((f : Int) - (h : Int)) = ((f - h : Nat) : Int) := by rw [wu _ (by omega) (by omega)]; omega
          by_cases h2 : 64 < f - h
          · exact .inl ⟨f - h, hw, by omega, by omega, by unfold chk; rw [if_pos h1, if_pos h2]⟩
          · exact .inr (.inr ⟨by omega, f - h, hw, by omega⟩)
        · exact .inr (.inl (by omega))
      rcases hfar with ⟨F, hF, hf1, hf2, hf3⟩ | hf1 | ⟨hf1, F, hF, hf2⟩
      · go_wp2_with fail
        have cm := my_mark HM.out f hf
        have hno : chk h B f ≠ 0 := by omega
        rw [mkH_no hno, mkB_no hno, show mkM h B f M = M by unfold mkM; rw [if_neg hno], hf3] at cm
        refine cm.mono ?_
        rintro e w7 ⟨rfl, hm, g⟩
        replace HV := Keep.mk (And.intro (HV.out.1.other g HM.out.lo (Ne.symm HV.out.2)) HV.out.2)
        replace HM := Keep.mk hm
        clear cm hm g hno hf3
        go_wp2_with fail
        refine (num_c _ _).mono ?_
        rintro e w8 ⟨rfl, rfl⟩
        have z0 := HM.out.k.has.cellv 0 _ rfl
        have z1 := HM.out.k.has.cellv 1 _ rfl
        go_wp2_with fail
        refine (bits_c h B _).mono ?_
        rintro e w9 ⟨rfl, g⟩
        replace HM := Keep.mk (HM.out.kept g)
        replace HV := Keep.mk (And.intro (HV.out.1.kept g) HV.out.2)
        clear g z0 z1
        have z0 := HM.out.k.has.cellv 0 _ rfl
        have z1 := HM.out.k.has.cellv 1 _ rfl
        go_wp2_with fail
        refine (high_c h B _).mono ?_
        rintro e w10 ⟨rfl, g⟩
        replace HM := Keep.mk (HM.out.kept g)
        replace HV := Keep.mk (And.intro (HV.out.1.kept g) HV.out.2)
        clear g z0 z1
        go_wp2_with fail
        have cm := my_mark HM.out S HU.out.2.2.1
        rw [HU.out.1, HU.out.2.1, HB4.out] at cm
        generalize mkM h B S M = M2 at *
        refine cm.mono ?_
        rintro e w20 ⟨rfl, hm, g⟩
        replace HV := Keep.mk (And.intro (HV.out.1.other g HM.out.lo (Ne.symm HV.out.2)) HV.out.2)
        replace HM := Keep.mk hm
        clear cm hm g
        go_wp2_with fail
        refine (num_c _ _).mono ?_
        rintro e w21 ⟨rfl, rfl⟩
        have z0 := HM.out.k.has.cellv 0 _ rfl
        have z1 := HM.out.k.has.cellv 1 _ rfl
        go_wp2_with fail
        refine (high_c S B4 _).mono ?_
        rintro e w22 ⟨rfl, g⟩
        replace HM := Keep.mk (HM.out.kept g)
        replace HV := Keep.mk (And.intro (HV.out.1.kept g) HV.out.2)
        clear g z0 z1
        have z0 := HM.out.k.has.cellv 0 _ rfl
        have z1 := HM.out.k.has.cellv 1 _ rfl
        go_wp2_with fail
        refine (bits_c S B4 _).mono ?_
        rintro e w23 ⟨rfl, g⟩
        replace HM := Keep.mk (HM.out.kept g)
        replace HV := Keep.mk (And.intro (HV.out.1.kept g) HV.out.2)
        clear g z0 z1
        have z0 := HV.out.1.k.has.cellv 0 _ rfl
        have z1 := HV.out.1.k.has.cellv 1 _ rfl
        go_wp2_with fail
        refine (high_c h B _).mono ?_
        rintro e w24 ⟨rfl, g⟩
        replace HM := Keep.mk (HM.out.kept g)
        replace HV := Keep.mk (And.intro (HV.out.1.kept g) HV.out.2)
        clear g z0 z1
        have z0 := HV.out.1.k.has.cellv 0 _ rfl
        have z1 := HV.out.1.k.has.cellv 1 _ rfl
        go_wp2_with fail
        refine (bits_c h B _).mono ?_
        rintro e w25 ⟨rfl, g⟩
        replace HM := Keep.mk (HM.out.kept g)
        replace HV := Keep.mk (And.intro (HV.out.1.kept g) HV.out.2)
        clear g z0 z1
        have z0 := HV.out.1.k.has.cellv 0 _ rfl
        have z1 := HV.out.1.k.has.cellv 1 _ rfl
        go_wp2_with fail
        refine (check_at h B S 0 _ HV.out.1.k.h1 HV.out.1.k.b1 HU.out.2.2.1 HU.out.1).mono ?_
        rintro e w26 ⟨rfl, g⟩
        replace HM := Keep.mk (HM.out.kept g)
        replace HV := Keep.mk (And.intro (HV.out.1.kept g) HV.out.2)
        clear g z0 z1
        go_wp2_with fail
        refine (num_c _ _).mono ?_
        rintro e w27 ⟨rfl, rfl⟩
        have z0 := HM.out.k.has.cellv 0 _ rfl
        have z1 := HM.out.k.has.cellv 1 _ rfl
        go_wp2_with fail
        refine (check_at S B4 S 91 _ HM.out.k.h1 HM.out.k.b1 HU.out.2.2.1 (chk_self HM.out.v HU.out.2.2.2)).mono ?_
        rintro e w28 ⟨rfl, g⟩
        replace HM := Keep.mk (HM.out.kept g)
        clear g z0 z1
        go_wp2_with fail
        refine (num_c _ _).mono ?_
        rintro e w29 ⟨rfl, rfl⟩
        go_wp2_with fail
        go_ret
        exact ⟨rfl, HM.out.g⟩
      · go_wp2_with fail
        have cm := my_mark HM.out S HU.out.2.2.1
        rw [HU.out.1, HU.out.2.1, HB4.out] at cm
        generalize mkM h B S M = M2 at *
        refine cm.mono ?_
        rintro e w20 ⟨rfl, hm, g⟩
        replace HV := Keep.mk (And.intro (HV.out.1.other g HM.out.lo (Ne.symm HV.out.2)) HV.out.2)
        replace HM := Keep.mk hm
        clear cm hm g
        go_wp2_with fail
        refine (num_c _ _).mono ?_
        rintro e w21 ⟨rfl, rfl⟩
        have z0 := HM.out.k.has.cellv 0 _ rfl
        have z1 := HM.out.k.has.cellv 1 _ rfl
        go_wp2_with fail
        refine (high_c S B4 _).mono ?_
        rintro e w22 ⟨rfl, g⟩
        replace HM := Keep.mk (HM.out.kept g)
        replace HV := Keep.mk (And.intro (HV.out.1.kept g) HV.out.2)
        clear g z0 z1
        have z0 := HM.out.k.has.cellv 0 _ rfl
        have z1 := HM.out.k.has.cellv 1 _ rfl
        go_wp2_with fail
        refine (bits_c S B4 _).mono ?_
        rintro e w23 ⟨rfl, g⟩
        replace HM := Keep.mk (HM.out.kept g)
        replace HV := Keep.mk (And.intro (HV.out.1.kept g) HV.out.2)
        clear g z0 z1
        have z0 := HV.out.1.k.has.cellv 0 _ rfl
        have z1 := HV.out.1.k.has.cellv 1 _ rfl
        go_wp2_with fail
        refine (high_c h B _).mono ?_
        rintro e w24 ⟨rfl, g⟩
        replace HM := Keep.mk (HM.out.kept g)
        replace HV := Keep.mk (And.intro (HV.out.1.kept g) HV.out.2)
        clear g z0 z1
        have z0 := HV.out.1.k.has.cellv 0 _ rfl
        have z1 := HV.out.1.k.has.cellv 1 _ rfl
        go_wp2_with fail
        refine (bits_c h B _).mono ?_
        rintro e w25 ⟨rfl, g⟩
        replace HM := Keep.mk (HM.out.kept g)
        replace HV := Keep.mk (And.intro (HV.out.1.kept g) HV.out.2)
        clear g z0 z1
        have z0 := HV.out.1.k.has.cellv 0 _ rfl
        have z1 := HV.out.1.k.has.cellv 1 _ rfl
        go_wp2_with fail
        refine (check_at h B S 0 _ HV.out.1.k.h1 HV.out.1.k.b1 HU.out.2.2.1 HU.out.1).mono ?_
        rintro e w26 ⟨rfl, g⟩
        replace HM := Keep.mk (HM.out.kept g)
        replace HV := Keep.mk (And.intro (HV.out.1.kept g) HV.out.2)
        clear g z0 z1
        go_wp2_with fail
        refine (num_c _ _).mono ?_
        rintro e w27 ⟨rfl, rfl⟩
        have z0 := HM.out.k.has.cellv 0 _ rfl
        have z1 := HM.out.k.has.cellv 1 _ rfl
        go_wp2_with fail
        refine (check_at S B4 S 91 _ HM.out.k.h1 HM.out.k.b1 HU.out.2.2.1 (chk_self HM.out.v HU.out.2.2.2)).mono ?_
        rintro e w28 ⟨rfl, g⟩
        replace HM := Keep.mk (HM.out.kept g)
        clear g z0 z1
        go_wp2_with fail
        refine (num_c _ _).mono ?_
        rintro e w29 ⟨rfl, rfl⟩
        go_wp2_with fail
        go_ret
        exact ⟨rfl, HM.out.g⟩
      · go_wp2_with fail
        have cm := my_mark HM.out S HU.out.2.2.1
        rw [HU.out.1, HU.out.2.1, HB4.out] at cm
        generalize mkM h B S M = M2 at *
        refine cm.mono ?_
        rintro e w20 ⟨rfl, hm, g⟩
        replace HV := Keep.mk (And.intro (HV.out.1.other g HM.out.lo (Ne.symm HV.out.2)) HV.out.2)
        replace HM := Keep.mk hm
        clear cm hm g
        go_wp2_with fail
        refine (num_c _ _).mono ?_
        rintro e w21 ⟨rfl, rfl⟩
        have z0 := HM.out.k.has.cellv 0 _ rfl
        have z1 := HM.out.k.has.cellv 1 _ rfl
        go_wp2_with fail
        refine (high_c S B4 _).mono ?_
        rintro e w22 ⟨rfl, g⟩
        replace HM := Keep.mk (HM.out.kept g)
        replace HV := Keep.mk (And.intro (HV.out.1.kept g) HV.out.2)
        clear g z0 z1
        have z0 := HM.out.k.has.cellv 0 _ rfl
        have z1 := HM.out.k.has.cellv 1 _ rfl
        go_wp2_with fail
        refine (bits_c S B4 _).mono ?_
        rintro e w23 ⟨rfl, g⟩
        replace HM := Keep.mk (HM.out.kept g)
        replace HV := Keep.mk (And.intro (HV.out.1.kept g) HV.out.2)
        clear g z0 z1
        have z0 := HV.out.1.k.has.cellv 0 _ rfl
        have z1 := HV.out.1.k.has.cellv 1 _ rfl
        go_wp2_with fail
        refine (high_c h B _).mono ?_
        rintro e w24 ⟨rfl, g⟩
        replace HM := Keep.mk (HM.out.kept g)
        replace HV := Keep.mk (And.intro (HV.out.1.kept g) HV.out.2)
        clear g z0 z1
        have z0 := HV.out.1.k.has.cellv 0 _ rfl
        have z1 := HV.out.1.k.has.cellv 1 _ rfl
        go_wp2_with fail
        refine (bits_c h B _).mono ?_
        rintro e w25 ⟨rfl, g⟩
        replace HM := Keep.mk (HM.out.kept g)
        replace HV := Keep.mk (And.intro (HV.out.1.kept g) HV.out.2)
        clear g z0 z1
        have z0 := HV.out.1.k.has.cellv 0 _ rfl
        have z1 := HV.out.1.k.has.cellv 1 _ rfl
        go_wp2_with fail
        refine (check_at h B S 0 _ HV.out.1.k.h1 HV.out.1.k.b1 HU.out.2.2.1 HU.out.1).mono ?_
        rintro e w26 ⟨rfl, g⟩
        replace HM := Keep.mk (HM.out.kept g)
        replace HV := Keep.mk (And.intro (HV.out.1.kept g) HV.out.2)
        clear g z0 z1
        go_wp2_with fail
        refine (num_c _ _).mono ?_
        rintro e w27 ⟨rfl, rfl⟩
        have z0 := HM.out.k.has.cellv 0 _ rfl
        have z1 := HM.out.k.has.cellv 1 _ rfl
        go_wp2_with fail
        refine (check_at S B4 S 91 _ HM.out.k.h1 HM.out.k.b1 HU.out.2.2.1 (chk_self HM.out.v HU.out.2.2.2)).mono ?_
        rintro e w28 ⟨rfl, g⟩
        replace HM := Keep.mk (HM.out.kept g)
        clear g z0 z1
        go_wp2_with fail
        refine (num_c _ _).mono ?_
        rintro e w29 ⟨rfl, rfl⟩
        go_wp2_with fail
        go_ret
        exact ⟨rfl, HM.out.g⟩
end Go.Proofs.Ytollbodeafdhkaa
