/- PackNumbers: the walk. -/
import Derived.Test.YtkddfnglonofoaaN0
namespace Go.Proofs.Ytkddfnglonofoaa
open Go Go.RowKit

set_option maxRecDepth 100000 in
set_option maxHeartbeats 8000000 in
theorem numbers_walk (u : Nat) (i sz : Int) (w : World) (hu : u < 18446744073709551616) (hi : -9223372036854775808 ≤ i ∧ i < 9223372036854775808) :
    Calls Try.prog 4 #[.int .u64 u, .int .i64 i, .int .i64 sz] w fun e w' => e = .returned (.bool true) ∧ w.grownBy w' none := by
  have HU : Keep (u < 18446744073709551616 ∧ (-9223372036854775808 ≤ i ∧ i < 9223372036854775808)) := ⟨hu, hi⟩
  go_enter Try.func4, Try.ntmps4
  go_wp2_with fail
  refine (alive_c w).mono ?_
  rintro e w1 ⟨rfl, g1⟩
  have H1 : Keep (w.grownBy w1 none) := ⟨g1⟩
  clear g1 hi hu
  go_wp2_with fail
  obtain ⟨n, hn, hn1, hn8⟩ : ∃ n : Nat, wrap64 (1 + wrap64 ((IntKind.u64.wrap sz).tmod 8)) = (n : Int) ∧ 1 ≤ n ∧ n ≤ 8 := by
    have h0 : 0 ≤ IntKind.u64.wrap sz := by rw [wu]; omega
    rw [Int.tmod_eq_emod_of_nonneg h0]
    obtain ⟨q, hq⟩ : ∃ q, IntKind.u64.wrap sz % 8 = q := ⟨_, rfl⟩
    have hq2 : 0 ≤ q ∧ q < 8 := by omega
    rw [hq]
    refine ⟨(1 + q).toNat, ?_, by omega, by omega⟩
    simp only [wrap64]; omega
  rw [hn]
  clear hn
  refine (newW_c w1).mono ?_
  rintro e w2 ⟨wb, rfl, a2, g2, hb2⟩
  have H2 : Keep (Mine w w2 ([] ++ [wO wb (.slice none 0 0) (some [])])) := ⟨Mine.newW ⟨H1.out, Sep.nil _ _⟩ a2 g2 (by omega)⟩
  clear a2 g2 hb2 H1
  go_wp2_with fail
  refine (wNumber_c wb _ _ u n w2 H2.out.w HU.out.1 (by decide)).mono ?_
  rintro e w3 ⟨rfl, v3, d3⟩
  have H3 : Keep (Mine w w3 ([] ++ [wO wb v3 (wNum (some []) u n)])) := ⟨H2.out.wdid d3⟩
  clear H2 d3
  go_wp2_with fail
  refine (wDone_c wb _ _ w3 H3.out.w).mono ?_
  rintro e w4 ⟨rfl, g4⟩
  have H4 : Keep (w.grownBy w4 none) := ⟨H3.out.g.trans g4⟩
  clear H3 g4
  obtain ⟨S, hS⟩ : ∃ S : ByteArray, (⟨((wNum (some []) u n).getD []).toArray⟩ : ByteArray) = S := ⟨_, rfl⟩
  obtain ⟨er, her⟩ : ∃ er, werr (wNum (some []) u n) = er := ⟨_, rfl⟩
  rw [hS, her]
  have hcase : (n = 8 ∧ er = 0 ∧ S = bs (be n u)) ∨ (n < 8 ∧ u < 256 ^ n ∧ er = 0 ∧ S = bs (be n u)) ∨ (n < 8 ∧ ¬ u < 256 ^ n ∧ er = 51 ∧ S = bs []) := by
    have hs : sized (n : Int) := ⟨by omega, by omega⟩
    by_cases hf : u < 256 ^ n
    · have : wNum (some []) u n = some (be n u) := by unfold wNum; rw [if_pos ⟨hs, by simpa using hf⟩]; simp
      rw [this] at hS her
      by_cases h8 : n = 8
      · exact .inl ⟨h8, her.symm, hS.symm⟩
      · exact .inr (.inl ⟨by omega, hf, her.symm, hS.symm⟩)
    · have : wNum (some []) u n = none := by unfold wNum; rw [if_neg (fun q => hf (by simpa using q.2))]
      rw [this] at hS her
      refine .inr (.inr ⟨?_, hf, her.symm, hS.symm⟩)
      rcases Nat.lt_or_ge n 8 with h | h
      · exact h
      · obtain rfl : n = 8 := by omega
        exact absurd HU.out.1 (by simpa using hf)
  clear hS her
  rcases hcase with ⟨h8, rfl, hS⟩ | hcase
  · subst h8
    have HL : Keep (Laid S u 8 ∧ S.size = 8) := ⟨by rw [hS]; exact laid_be u 8, by rw [hS, ← sl_len, sl_mk, be_len]⟩
    have hsz : S.size = 8 := HL.out.2
    rw [show ((8 : Nat) : Int) = 8 from rfl]
    clear hS
    go_wp2_with fail
    have HL : Keep (Laid S u 8) := ⟨HL.out.1⟩
    clear hsz
    go_loopw [11] (fun s11 w' => ∃ k : Nat, k ≤ S.size ∧ s11 = .int .i64 k ∧ Keep (w.grownBy w' none)) (fun s11 _ => S.size - (intOf s11).toNat)
    case atStart => exact ⟨0, by omega, rfl, H4⟩
    case round =>
      obtain ⟨k, hk, rfl, HK⟩ := hrel
      by_cases hin : k < S.size
      · have hin2 : (k : Int) < S.size := by omega
        obtain ⟨hkn, hby⟩ := HL.out.at_ k hin
        obtain ⟨y, hy⟩ : ∃ y, UInt8.ofNat (u / 256 ^ (8 - 1 - k)) = y := ⟨_, rfl⟩
        rw [hy] at hby
        have hix := idx9 S k y hin hby
        have hyn : (y.toNat : Int) = (u / 256 ^ (8 - 1 - k) % 256 : Nat) := by rw [← hy, UInt8.toNat_ofNat']
        have hpw : ∀ W : World, Calls Try.prog 23 #[.int .i64 (7 - (k : Int))] W fun e w' => e = .returned (.int .u64 (256 ^ (8 - 1 - k) : Nat)) ∧ w' = W := fun W => by
          have := power_c (8 - 1 - k) (by omega) W
          rwa [show ((8 - 1 - k : Nat) : Int) = 7 - (k : Int) by omega] at this
        have hp0 : 0 < 256 ^ (8 - 1 - k) := Nat.pos_of_ne_zero (by simp)
        obtain ⟨q, hq⟩ : ∃ q, 256 ^ (8 - 1 - k) = q := ⟨_, rfl⟩
        rw [hq] at hyn hpw hp0
        have HPW := Keep.mk hpw
        have hdv : (IntKind.u64.wrap ((u : Int) / q)).tmod 256 = y.toNat := by
          have h1 : (u : Int) / q = ((u / q : Nat) : Int) := by simp
          have h2 : u / q ≤ u := Nat.div_le_self _ _
          have h3 := HU.out.1
          have h4 : IntKind.u64.wrap ((u / q : Nat) : Int) = ((u / q : Nat) : Int) := by
            generalize u / q = m at *
            rw [wu]; omega
          rw [h1, h4, hyn]
          exact (Int.ofNat_tmod (u / q) 256).symm
        have hq0 : ¬ (q : Int) = 0 := by omega
        have hyw : IntKind.u64.wrap (y.toNat : Int) = y.toNat := by have : y.toNat < 256 := y.toNat_lt; rw [wu]; omega
        clear hyn hpw hq hby hy hp0
        go_wp2_with fail
        go_quiet ((go_at_call 23; exact Calls.quiet_of_same (HPW.out _)))
        go_wp2
        refine ⟨⟨k + 1, by omega, by simp, ⟨HK.out.trans (gr_drewN _ _ _)⟩⟩, ?_⟩
        simp only [intOf]; omega
      · have hin2 : ¬ (k : Int) < S.size := by omega
        go_wp2_with fail
        refine (newW_c wr).mono ?_
        rintro e w6 ⟨vb, rfl, a6, g6, hb6⟩
        have H6 : Keep (Mine w w6 ([] ++ [wO vb (.slice none 0 0) (some [])])) := ⟨Mine.newW ⟨HK.out, Sep.nil _ _⟩ a6 g6 (by omega)⟩
        clear a6 g6 hb6 HK H4 hin hk hin2
        go_wp2_with fail
        refine (wSigned_c vb _ _ i 8 w6 H6.out.w HU.out.2 (by decide)).mono ?_
        rintro e w7 ⟨rfl, v7, d7⟩
        have H7 : Keep (Mine w w7 ([] ++ [wO vb v7 (wSig (some []) i 8)])) := ⟨H6.out.wdid d7⟩
        clear H6 d7
        go_wp2_with fail
        refine (wDone_c vb _ _ w7 H7.out.w).mono ?_
        rintro e w8 ⟨rfl, g8⟩
        have H8 : Keep (w.grownBy w8 none) := ⟨H7.out.g.trans g8⟩
        clear H7 g8
        obtain ⟨T, hT⟩ : ∃ T : ByteArray, (⟨((wSig (some []) i 8).getD []).toArray⟩ : ByteArray) = T := ⟨_, rfl⟩
        obtain ⟨et, het⟩ : ∃ et, werr (wSig (some []) i 8) = et := ⟨_, rfl⟩
        rw [hT, het]
        have hfs : fitsS i 8 := by
          have := HU.out.2
          refine ⟨⟨by omega, by omega⟩, ?_⟩
          show -((18446744073709551616 : Nat) : Int) ≤ 2 * i ∧ 2 * i < ((18446744073709551616 : Nat) : Int)
          omega
        have hws : wSig (some []) i 8 = some (be 8 (uw i)) := wsig_fit _ _ hfs
        rw [hws] at hT het
        obtain rfl : et = 0 := het.symm
        have HT : Keep (T = bs (be 8 (uw i))) := ⟨hT.symm⟩
        clear hws hT het hfs
        go_wp2_with fail
        refine (newW_c w8).mono ?_
        rintro e w9 ⟨ub, rfl, a9, g9, hb9⟩
        have H9 : Keep (Mine w w9 ([] ++ [wO ub (.slice none 0 0) (some [])])) := ⟨Mine.newW ⟨H8.out, Sep.nil _ _⟩ a9 g9 (by omega)⟩
        clear a9 g9 hb9 H8
        obtain ⟨lo, hlo⟩ : ∃ lo, uw i = lo := ⟨_, rfl⟩
        have HLO : Keep (lo < 18446744073709551616 ∧ wNum (some []) lo 8 = some (be 8 lo) ∧ be 8 lo = be 8 (uw i)) := ⟨by rw [← hlo]; exact uw_lt i, by
            have := uw_lt i
            unfold wNum; rw [if_pos ⟨⟨by omega, by omega⟩, by rw [← hlo]; exact this⟩]; simp, by rw [hlo]⟩
        have hlw : IntKind.u64.wrap i = (lo : Int) := by rw [← hlo]; exact uw_wrap i
        clear hlo
        go_wp2_with fail
        refine (wNumber_c ub _ _ lo 8 _ H9.out.w HLO.out.1 (by decide)).mono ?_
        rintro e w10 ⟨rfl, v10, d10⟩
        have H10 : Keep (Mine w w10 ([] ++ [wO ub v10 (wNum (some []) lo 8)])) := ⟨H9.out.wdid d10⟩
        clear H9 d10
        go_wp2_with fail
        refine (wDone_c ub _ _ w10 H10.out.w).mono ?_
        rintro e w11 ⟨rfl, g11⟩
        have H11 : Keep (w.grownBy w11 none) := ⟨H10.out.g.trans g11⟩
        clear H10 g11
        have hT2 : (⟨((wNum (some []) lo 8).getD []).toArray⟩ : ByteArray) = T := by rw [HLO.out.2.1, HT.out]; exact congrArg (fun l : List UInt8 => (⟨l.toArray⟩ : ByteArray)) HLO.out.2.2
        have he2 : werr (wNum (some []) lo 8) = 0 := by rw [HLO.out.2.1]; rfl
        rw [hT2, he2]
        clear hT2 he2 HT HLO
        go_wp2_with fail
        go_ret
        exact ⟨by simp, H11.out⟩
  · have h8 : n < 8 := by rcases hcase with h | h <;> exact h.1
    have HP : Keep (∀ W : World, Calls Try.prog 23 #[.int .i64 n] W fun e w' => e = .returned (.int .u64 (256 ^ n : Nat)) ∧ w' = W) := ⟨fun W => power_c n (by omega) W⟩
    have h8' : ¬ (n : Int) = 8 := by omega
    have h8b : ((n : Int) == 8) = false := by simp; omega
    obtain ⟨h, hh, hh2⟩ : ∃ h : Int, wrap64 (2 ^ (8 * n - 1)) = h ∧ 2 * h = (256 ^ n : Nat) ∧ 0 < h ∧ h ≤ 36028797018963968 := by
      have h9 : n = 1 ∨ n = 2 ∨ n = 3 ∨ n = 4 ∨ n = 5 ∨ n = 6 ∨ n = 7 := by omega
      rcases h9 with rfl | rfl | rfl | rfl | rfl | rfl | rfl <;> exact ⟨_, rfl, by decide +kernel⟩
    have hng : wrap64 (-h) = -h := by have := hh2.2; simp only [wrap64]; omega
    have HH : Keep (2 * h = (256 ^ n : Nat) ∧ 0 < h) := ⟨hh2.1, hh2.2.1⟩
    clear hh2
    rcases hcase with ⟨_, hf, rfl, hS⟩ | ⟨_, hf, rfl, hS⟩
    · have HS : Keep (Laid S u n ∧ S.size = n) := ⟨by rw [hS]; exact laid_be u n, by rw [hS, ← sl_len, sl_mk, be_len]⟩
      obtain ⟨p, hp⟩ : ∃ p, 256 ^ n = p := ⟨_, rfl⟩
      rw [hp] at hf HP
      have hf' : (u : Int) < p := by omega
      have hsz : S.size = n := HS.out.2
      clear hS hp hf
      go_wp2_with fail
      refine (HP.out w4).mono ?_
      rintro e w5 ⟨rfl, hw5⟩
      subst hw5
      go_wp2_with fail
      have HL : Keep (Laid S u n) := ⟨HS.out.1⟩
      clear HS hsz hf' HP
      go_loopw [11] (fun s11 w' => ∃ k : Nat, k ≤ S.size ∧ s11 = .int .i64 k ∧ Keep (w.grownBy w' none)) (fun s11 _ => S.size - (intOf s11).toNat)
      case atStart => exact ⟨0, by omega, rfl, H4⟩
      case round =>
        obtain ⟨k, hk, rfl, HK⟩ := hrel
        by_cases hin : k < S.size
        · have hin2 : (k : Int) < S.size := by omega
          obtain ⟨hkn, hby⟩ := HL.out.at_ k hin
          obtain ⟨y, hy⟩ : ∃ y, UInt8.ofNat (u / 256 ^ (n - 1 - k)) = y := ⟨_, rfl⟩
          rw [hy] at hby
          have hix := idx9 S k y hin hby
          have hyn : (y.toNat : Int) = (u / 256 ^ (n - 1 - k) % 256 : Nat) := by rw [← hy, UInt8.toNat_ofNat']
          have hpw : ∀ W : World, Calls Try.prog 23 #[.int .i64 ((n : Int) - 1 - k)] W fun e w' => e = .returned (.int .u64 (256 ^ (n - 1 - k) : Nat)) ∧ w' = W := fun W => by
            have := power_c (n - 1 - k) (by omega) W
            rwa [show ((n - 1 - k : Nat) : Int) = (n : Int) - 1 - k by omega] at this
          have hp0 : 0 < 256 ^ (n - 1 - k) := Nat.pos_of_ne_zero (by simp)
          obtain ⟨q, hq⟩ : ∃ q, 256 ^ (n - 1 - k) = q := ⟨_, rfl⟩
          rw [hq] at hyn hpw hp0
          have HPW := Keep.mk hpw
          have hdv : (IntKind.u64.wrap ((u : Int) / q)).tmod 256 = y.toNat := by
            have h1 : (u : Int) / q = ((u / q : Nat) : Int) := by simp
            have h2 : u / q ≤ u := Nat.div_le_self _ _
            have h3 := HU.out.1
            have h4 : IntKind.u64.wrap ((u / q : Nat) : Int) = ((u / q : Nat) : Int) := by
              generalize u / q = m at *
              rw [wu]; omega
            rw [h1, h4, hyn]
            exact (Int.ofNat_tmod (u / q) 256).symm
          have hq0 : ¬ (q : Int) = 0 := by omega
          have hyw : IntKind.u64.wrap (y.toNat : Int) = y.toNat := by have : y.toNat < 256 := y.toNat_lt; rw [wu]; omega
          clear hyn hpw hq hby hy hp0
          go_wp2_with fail
          go_quiet ((go_at_call 23; exact Calls.quiet_of_same (HPW.out _)))
          go_wp2
          refine ⟨⟨k + 1, by omega, by simp, ⟨HK.out.trans (gr_drewN _ _ _)⟩⟩, ?_⟩
          simp only [intOf]; omega
        · have hin2 : ¬ (k : Int) < S.size := by omega
          go_wp2_with fail
          refine (newW_c wr).mono ?_
          rintro e w6 ⟨vb, rfl, a6, g6, hb6⟩
          have H6 : Keep (Mine w w6 ([] ++ [wO vb (.slice none 0 0) (some [])])) := ⟨Mine.newW ⟨HK.out, Sep.nil _ _⟩ a6 g6 (by omega)⟩
          clear a6 g6 hb6 HK H4 hin hk hin2
          go_wp2_with fail
          refine (wSigned_c vb _ _ i n w6 H6.out.w HU.out.2 (by decide)).mono ?_
          rintro e w7 ⟨rfl, v7, d7⟩
          have H7 : Keep (Mine w w7 ([] ++ [wO vb v7 (wSig (some []) i n)])) := ⟨H6.out.wdid d7⟩
          clear H6 d7
          go_wp2_with fail
          refine (wDone_c vb _ _ w7 H7.out.w).mono ?_
          rintro e w8 ⟨rfl, g8⟩
          have H8 : Keep (w.grownBy w8 none) := ⟨H7.out.g.trans g8⟩
          clear H7 g8
          obtain ⟨T, hT⟩ : ∃ T : ByteArray, (⟨((wSig (some []) i n).getD []).toArray⟩ : ByteArray) = T := ⟨_, rfl⟩
          obtain ⟨et, het⟩ : ∃ et, werr (wSig (some []) i n) = et := ⟨_, rfl⟩
          rw [hT, het]
          by_cases hfs : fitsS i n
          · have hi1 : -h ≤ i := by have := hfs.2.1; have := HH.out.1; rw [Int.toNat_natCast] at *; omega
            have hi2 : i < h := by have := hfs.2.2; have := HH.out.1; rw [Int.toNat_natCast] at *; omega
            have hws : wSig (some []) i n = some (be n (uw i)) := wsig_fit _ _ hfs
            rw [hws] at hT het
            obtain rfl : et = 0 := het.symm
            have HT : Keep (T = bs (be n (uw i))) := ⟨hT.symm⟩
            clear hws hT het hfs
            go_wp2_with fail
            refine (newW_c w8).mono ?_
            rintro e w9 ⟨ub, rfl, a9, g9, hb9⟩
            have H9 : Keep (Mine w w9 ([] ++ [wO ub (.slice none 0 0) (some [])])) := ⟨Mine.newW ⟨H8.out, Sep.nil _ _⟩ a9 g9 (by omega)⟩
            clear a9 g9 hb9 H8
            have HP : Keep (∀ W : World, Calls Try.prog 23 #[.int .i64 n] W fun e w' => e = .returned (.int .u64 (256 ^ n : Nat)) ∧ w' = W) := ⟨fun W => power_c n (by omega) W⟩
            obtain ⟨lo, hlo⟩ : ∃ lo, uw i % 256 ^ n = lo := ⟨_, rfl⟩
            have hll : lo < 256 ^ n := by rw [← hlo]; exact Nat.mod_lt _ (Nat.pos_of_ne_zero (by simp))
            have HLO : Keep (lo < 18446744073709551616 ∧ wNum (some []) lo n = some (be n lo) ∧ be n lo = be n (uw i)) := ⟨by
                have := uw_lt i
                have := Nat.mod_le (uw i) (256 ^ n)
                omega, by unfold wNum; rw [if_pos ⟨⟨by omega, by omega⟩, by simpa using hll⟩]; simp, by rw [← hlo]; exact be_mod n _ n (Nat.le_refl _)⟩
            obtain ⟨p2, hp2⟩ : ∃ p2, 256 ^ n = p2 := ⟨_, rfl⟩
            have hp20 : 0 < 256 ^ n := Nat.pos_of_ne_zero (by simp)
            rw [hp2] at hlo HP hp20
            have hlw : (IntKind.u64.wrap i).tmod p2 = lo := by
              have h1 : IntKind.u64.wrap i = ((uw i : Nat) : Int) := uw_wrap i
              rw [h1, ← hlo]
              exact (Int.ofNat_tmod _ _).symm
            have hp21 : ¬ (p2 : Int) = 0 := by omega
            have hl8 : (n : Int) < 8 := by omega
            clear hlo hll hp2 hp20
            go_wp2_with fail
            refine (HP.out w9).mono ?_
            rintro e w9' ⟨rfl, hw9⟩
            subst hw9
            go_wp2_with fail
            refine (wNumber_c ub _ _ lo n _ H9.out.w HLO.out.1 (by decide)).mono ?_
            rintro e w10 ⟨rfl, v10, d10⟩
            have H10 : Keep (Mine w w10 ([] ++ [wO ub v10 (wNum (some []) lo n)])) := ⟨H9.out.wdid d10⟩
            clear H9 d10
            go_wp2_with fail
            refine (wDone_c ub _ _ w10 H10.out.w).mono ?_
            rintro e w11 ⟨rfl, g11⟩
            have H11 : Keep (w.grownBy w11 none) := ⟨H10.out.g.trans g11⟩
            clear H10 g11
            have hT2 : (⟨((wNum (some []) lo n).getD []).toArray⟩ : ByteArray) = T := by rw [HLO.out.2.1, HT.out]; exact congrArg (fun l : List UInt8 => (⟨l.toArray⟩ : ByteArray)) HLO.out.2.2
            have he2 : werr (wNum (some []) lo n) = 0 := by rw [HLO.out.2.1]; rfl
            rw [hT2, he2]
            clear hT2 he2 HT HLO
            go_wp2_with fail
            go_ret
            exact ⟨by simp, H11.out⟩
          · have hws : wSig (some []) i n = none := by unfold wSig; rw [if_neg hfs]
            rw [hws] at hT het
            obtain rfl : et = 51 := het.symm
            obtain rfl : T = ⟨#[]⟩ := hT.symm
            have hor : ¬ (-h ≤ i ∧ i < h) := fun q => hfs ⟨⟨by omega, by omega⟩, by have := HH.out.1; rw [Int.toNat_natCast]; omega⟩
            clear hws hT het hfs
            by_cases hi1 : -h ≤ i
            · have hi2 : ¬ i < h := fun q => hor ⟨hi1, q⟩
              have hd2 : decide (i < h) = false := decide_eq_false hi2
              clear hor
              go_wp2_with fail
              go_ret
              exact ⟨by simp, H8.out⟩
            · clear hor
              go_wp2_with fail
              go_ret
              exact ⟨by simp, H8.out⟩
    · have HL : Keep (Laid S u n) := ⟨by rw [hS]; exact laid_nil u n⟩
      obtain ⟨p, hp⟩ : ∃ p, 256 ^ n = p := ⟨_, rfl⟩
      rw [hp] at hf HP
      have hf' : ¬ (u : Int) < p := by omega
      obtain rfl : S = ⟨#[]⟩ := hS
      clear hp hf
      go_wp2_with fail
      refine (HP.out w4).mono ?_
      rintro e w5 ⟨rfl, hw5⟩
      subst hw5
      go_wp2_with fail
      clear hf' HP
      obtain ⟨S, hS⟩ : ∃ S : ByteArray, ⟨#[]⟩ = S := ⟨_, rfl⟩
      rw [hS] at HL ⊢
      clear hS
      go_loopw [11] (fun s11 w' => ∃ k : Nat, k ≤ S.size ∧ s11 = .int .i64 k ∧ Keep (w.grownBy w' none)) (fun s11 _ => S.size - (intOf s11).toNat)
      case atStart => exact ⟨0, by omega, rfl, H4⟩
      case round =>
        obtain ⟨k, hk, rfl, HK⟩ := hrel
        by_cases hin : k < S.size
        · have hin2 : (k : Int) < S.size := by omega
          obtain ⟨hkn, hby⟩ := HL.out.at_ k hin
          obtain ⟨y, hy⟩ : ∃ y, UInt8.ofNat (u / 256 ^ (n - 1 - k)) = y := ⟨_, rfl⟩
          rw [hy] at hby
          have hix := idx9 S k y hin hby
          have hyn : (y.toNat : Int) = (u / 256 ^ (n - 1 - k) % 256 : Nat) := by rw [← hy, UInt8.toNat_ofNat']
          have hpw : ∀ W : World, Calls Try.prog 23 #[.int .i64 ((n : Int) - 1 - k)] W fun e w' => e = .returned (.int .u64 (256 ^ (n - 1 - k) : Nat)) ∧ w' = W := fun W => by
            have := power_c (n - 1 - k) (by omega) W
            rwa [show ((n - 1 - k : Nat) : Int) = (n : Int) - 1 - k by omega] at this
          have hp0 : 0 < 256 ^ (n - 1 - k) := Nat.pos_of_ne_zero (by simp)
          obtain ⟨q, hq⟩ : ∃ q, 256 ^ (n - 1 - k) = q := ⟨_, rfl⟩
          rw [hq] at hyn hpw hp0
          have HPW := Keep.mk hpw
          have hdv : (IntKind.u64.wrap ((u : Int) / q)).tmod 256 = y.toNat := by
            have h1 : (u : Int) / q = ((u / q : Nat) : Int) := by simp
            have h2 : u / q ≤ u := Nat.div_le_self _ _
            have h3 := HU.out.1
            have h4 : IntKind.u64.wrap ((u / q : Nat) : Int) = ((u / q : Nat) : Int) := by
              generalize u / q = m at *
              rw [wu]; omega
            rw [h1, h4, hyn]
            exact (Int.ofNat_tmod (u / q) 256).symm
          have hq0 : ¬ (q : Int) = 0 := by omega
          have hyw : IntKind.u64.wrap (y.toNat : Int) = y.toNat := by have : y.toNat < 256 := y.toNat_lt; rw [wu]; omega
          clear hyn hpw hq hby hy hp0
          go_wp2_with fail
          go_quiet ((go_at_call 23; exact Calls.quiet_of_same (HPW.out _)))
          go_wp2
          refine ⟨⟨k + 1, by omega, by simp, ⟨HK.out.trans (gr_drewN _ _ _)⟩⟩, ?_⟩
          simp only [intOf]; omega
        · have hin2 : ¬ (k : Int) < S.size := by omega
          go_wp2_with fail
          refine (newW_c wr).mono ?_
          rintro e w6 ⟨vb, rfl, a6, g6, hb6⟩
          have H6 : Keep (Mine w w6 ([] ++ [wO vb (.slice none 0 0) (some [])])) := ⟨Mine.newW ⟨HK.out, Sep.nil _ _⟩ a6 g6 (by omega)⟩
          clear a6 g6 hb6 HK H4 hin hk hin2
          go_wp2_with fail
          refine (wSigned_c vb _ _ i n w6 H6.out.w HU.out.2 (by decide)).mono ?_
          rintro e w7 ⟨rfl, v7, d7⟩
          have H7 : Keep (Mine w w7 ([] ++ [wO vb v7 (wSig (some []) i n)])) := ⟨H6.out.wdid d7⟩
          clear H6 d7
          go_wp2_with fail
          refine (wDone_c vb _ _ w7 H7.out.w).mono ?_
          rintro e w8 ⟨rfl, g8⟩
          have H8 : Keep (w.grownBy w8 none) := ⟨H7.out.g.trans g8⟩
          clear H7 g8
          obtain ⟨T, hT⟩ : ∃ T : ByteArray, (⟨((wSig (some []) i n).getD []).toArray⟩ : ByteArray) = T := ⟨_, rfl⟩
          obtain ⟨et, het⟩ : ∃ et, werr (wSig (some []) i n) = et := ⟨_, rfl⟩
          rw [hT, het]
          by_cases hfs : fitsS i n
          · have hi1 : -h ≤ i := by have := hfs.2.1; have := HH.out.1; rw [Int.toNat_natCast] at *; omega
            have hi2 : i < h := by have := hfs.2.2; have := HH.out.1; rw [Int.toNat_natCast] at *; omega
            have hws : wSig (some []) i n = some (be n (uw i)) := wsig_fit _ _ hfs
            rw [hws] at hT het
            obtain rfl : et = 0 := het.symm
            have HT : Keep (T = bs (be n (uw i))) := ⟨hT.symm⟩
            clear hws hT het hfs
            go_wp2_with fail
            refine (newW_c w8).mono ?_
            rintro e w9 ⟨ub, rfl, a9, g9, hb9⟩
            have H9 : Keep (Mine w w9 ([] ++ [wO ub (.slice none 0 0) (some [])])) := ⟨Mine.newW ⟨H8.out, Sep.nil _ _⟩ a9 g9 (by omega)⟩
            clear a9 g9 hb9 H8
            have HP : Keep (∀ W : World, Calls Try.prog 23 #[.int .i64 n] W fun e w' => e = .returned (.int .u64 (256 ^ n : Nat)) ∧ w' = W) := ⟨fun W => power_c n (by omega) W⟩
            obtain ⟨lo, hlo⟩ : ∃ lo, uw i % 256 ^ n = lo := ⟨_, rfl⟩
            have hll : lo < 256 ^ n := by rw [← hlo]; exact Nat.mod_lt _ (Nat.pos_of_ne_zero (by simp))
            have HLO : Keep (lo < 18446744073709551616 ∧ wNum (some []) lo n = some (be n lo) ∧ be n lo = be n (uw i)) := ⟨by
                have := uw_lt i
                have := Nat.mod_le (uw i) (256 ^ n)
                omega, by unfold wNum; rw [if_pos ⟨⟨by omega, by omega⟩, by simpa using hll⟩]; simp, by rw [← hlo]; exact be_mod n _ n (Nat.le_refl _)⟩
            obtain ⟨p2, hp2⟩ : ∃ p2, 256 ^ n = p2 := ⟨_, rfl⟩
            have hp20 : 0 < 256 ^ n := Nat.pos_of_ne_zero (by simp)
            rw [hp2] at hlo HP hp20
            have hlw : (IntKind.u64.wrap i).tmod p2 = lo := by
              have h1 : IntKind.u64.wrap i = ((uw i : Nat) : Int) := uw_wrap i
              rw [h1, ← hlo]
              exact (Int.ofNat_tmod _ _).symm
            have hp21 : ¬ (p2 : Int) = 0 := by omega
            have hl8 : (n : Int) < 8 := by omega
            clear hlo hll hp2 hp20
            go_wp2_with fail
            refine (HP.out w9).mono ?_
            rintro e w9' ⟨rfl, hw9⟩
            subst hw9
            go_wp2_with fail
            refine (wNumber_c ub _ _ lo n _ H9.out.w HLO.out.1 (by decide)).mono ?_
            rintro e w10 ⟨rfl, v10, d10⟩
            have H10 : Keep (Mine w w10 ([] ++ [wO ub v10 (wNum (some []) lo n)])) := ⟨H9.out.wdid d10⟩
            clear H9 d10
            go_wp2_with fail
            refine (wDone_c ub _ _ w10 H10.out.w).mono ?_
            rintro e w11 ⟨rfl, g11⟩
            have H11 : Keep (w.grownBy w11 none) := ⟨H10.out.g.trans g11⟩
            clear H10 g11
            have hT2 : (⟨((wNum (some []) lo n).getD []).toArray⟩ : ByteArray) = T := by rw [HLO.out.2.1, HT.out]; exact congrArg (fun l : List UInt8 => (⟨l.toArray⟩ : ByteArray)) HLO.out.2.2
            have he2 : werr (wNum (some []) lo n) = 0 := by rw [HLO.out.2.1]; rfl
            rw [hT2, he2]
            clear hT2 he2 HT HLO
            go_wp2_with fail
            go_ret
            exact ⟨by simp, H11.out⟩
          · have hws : wSig (some []) i n = none := by unfold wSig; rw [if_neg hfs]
            rw [hws] at hT het
            obtain rfl : et = 51 := het.symm
            obtain rfl : T = ⟨#[]⟩ := hT.symm
            have hor : ¬ (-h ≤ i ∧ i < h) := fun q => hfs ⟨⟨by omega, by omega⟩, by have := HH.out.1; rw [Int.toNat_natCast]; omega⟩
            clear hws hT het hfs
            by_cases hi1 : -h ≤ i
            · have hi2 : ¬ i < h := fun q => hor ⟨hi1, q⟩
              have hd2 : decide (i < h) = false := decide_eq_false hi2
              clear hor
              go_wp2_with fail
              go_ret
              exact ⟨by simp, H8.out⟩
            · clear hor
              go_wp2_with fail
              go_ret
              exact ⟨by simp, H8.out⟩
end Go.Proofs.Ytkddfnglonofoaa
