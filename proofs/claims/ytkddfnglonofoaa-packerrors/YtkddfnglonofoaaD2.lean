/- PackErrors: the walk. -/
import Derived.Test.YtkddfnglonofoaaD1
namespace Go.Proofs.Ytkddfnglonofoaa
open Go Go.RowKit

theorem bad1 (l : List UInt8) : wNum (some l) 1 9 = none := rfl
theorem bad2 (l : List UInt8) : wSig (some l) 128 1 = none := rfl
theorem bad3 (l : List UInt8) (n : Int) (h : n = (l.length : Int) + 1) : (rTake (l, 0) n).2 = ([], 50) := by
  unfold rTake
  rw [if_neg (by omega), if_pos (by show (l.length : Int) < n; omega)]; rfl
theorem bad4 (l : List UInt8) : (rNum (l, 0) 0).2 = ([], 51) := rfl
set_option maxRecDepth 100000 in
set_option maxHeartbeats 8000000 in
theorem errors_walk (s : ByteArray) (a : Option Addr) (n c : Nat) (xs : List OpT) (bad : Int) (w : World) (hx : Scr w a n xs) (hs : s.size ≤ 140737488351232) (hn : n * 48 ≤ 140737488355328) (hos : ∀ o ∈ xs, o.s.size ≤ 140737488351232) :
    Calls Try.prog 6 #[.string s, .slice a n c, .int .i64 bad] w fun e w' => e = .returned (.bool true) ∧ w.grownBy w' none := by
  have HX : Keep (Scr w a n xs) := ⟨hx⟩
  have HOS : Keep (∀ o ∈ xs, o.s.size ≤ 140737488351232) := ⟨hos⟩
  clear hx hos
  go_enter Try.func6, Try.ntmps6
  go_wp2_with fail
  refine (alive_c w).mono ?_
  rintro e w1 ⟨rfl, g1⟩
  go_wp2_with fail
  refine (newW_c w1).mono ?_
  rintro e w2 ⟨wb, rfl, a2, g2, hb2⟩
  have H2 : Keep (Mine w w2 [wO wb (.slice none 0 0) (some [])]) := ⟨Mine.newW ⟨g1, Sep.nil _ _⟩ a2 g2 (by omega)⟩
  clear a2 g2 hb2 g1
  go_wp2_with fail
  refine (newR_c s w2).mono ?_
  rintro e w3 ⟨rb, B, rfl, a3, g3, hr3, hB3⟩
  have H3 : Keep (Mine w w3 ([rO rb B (sl s, 0)] ++ [wO wb (.slice none 0 0) (some [])])) := ⟨H2.out.newR a3 g3 hr3 hB3⟩
  clear a3 g3 hr3 hB3 H2
  go_wp2_with fail
  refine (wBytes_c wb _ _ s w3 H3.out.w (by simp; omega)).mono ?_
  rintro e w4 ⟨rfl, v4, d4⟩
  have H4 : Keep (Mine w w4 ([rO rb B (sl s, 0)] ++ [wO wb v4 (some (sl s))])) := ⟨H3.out.wdid d4⟩
  clear d4 H3
  by_cases hb : Int.tmod bad 2 = 0
  · go_wp2_with fail
    refine (wNumber_c wb _ _ 1 9 w4 H4.out.w (by decide) (by simp [sl_len]; omega)).mono ?_
    rintro e w5 ⟨rfl, v5, d5⟩
    rw [bad1] at d5
    have H5 : Keep (Mine w w5 ([] ++ rO rb B (sl s, 0) :: [wO wb v5 none])) := ⟨H4.out.wdid d5⟩
    clear d5 H4
    have hw1 : IntKind.i64.wrap ((s.size : Int) + 1) = (s.size : Int) + 1 := wi _ (by omega) (by omega)
    go_wp2_with fail
    refine (rBytes_c rb B _ ((s.size : Int) + 1) w5 H5.out.r).mono ?_
    rintro e w6 ⟨rfl, d6⟩
    rw [bad3 (sl s) _ (by rw [sl_len])] at d6
    have H6 : Keep (Mine w w6 ([] ++ rO rb B ([], 50) :: [wO wb v5 none])) := ⟨H5.out.rdid d6⟩
    clear d6 H5 hw1
    have he : (50 : Int) ≠ 0 := by decide
    have HE : Keep ((50 : Int) ≠ 0) := ⟨he⟩
    clear he
    go_wp2_with fail
    refine (rDone_c rb B _ w6 H6.out.r).mono ?_
    rintro e w7 ⟨rfl, h7⟩
    subst h7
    have hd : rDone ([], 50) = 50 := rfl
    rw [hd]
    clear hd
    go_wp2_with fail
    go_loopw [10] (fun t w' => ∃ i : Nat, i ≤ n ∧ t = .int .i64 i ∧ Keep (∃ v, Mine w w' ([] ++ rO rb B ([], 50) :: [wO wb v none]))) (fun t _ => n - (intOf t).toNat)
    case atStart => exact ⟨0, Nat.zero_le _, rfl, ⟨_, H6.out⟩⟩
    case round =>
      obtain ⟨i, hi, rfl, HI⟩ := hrel
      clear H6
      by_cases hlt : i < n
      · have hlt2 : (i : Int) < n := by omega
        obtain ⟨Bx, kx, o, rfl, hoi, hok, hat⟩ := HX.out.get hlt
        obtain ⟨v, HM⟩ := HI.out
        have hso : o.s.size ≤ 140737488351232 := HOS.out o (List.mem_of_getElem? hoi)
        have HOK : Keep o.Ok := ⟨hok⟩
        obtain ⟨q0, q1, q2, q3, q4⟩ := hat.kept HM.g
        have hwi : IntKind.i64.wrap ((i : Int) + 1) = ((i + 1 : Nat) : Int) := by rw [wi _ (by omega) (by omega)]; omega
        have HM1 : Keep (Mine w (wr.alloc (.cells #[.int .i64 o.kind, .int .u64 o.u, .int .i64 o.i, .int .i64 o.size, .string o.s] 30)) ([hO wr.heap.size (ocs o) 30, rO rb B ([], 50)] ++ [wO wb v none])) := ⟨HM.newH _ 30⟩
        clear HI HM hat hok hoi
        go_wp2_with fail
        obtain ⟨w8, hw8⟩ : ∃ q, wr.alloc (.cells #[.int .i64 o.kind, .int .u64 o.u, .int .i64 o.i, .int .i64 o.size, .string o.s] 30) = q := ⟨_, rfl⟩
        obtain ⟨ob, hob⟩ : ∃ q, wr.heap.size = q := ⟨_, rfl⟩
        rw [hw8, hob] at HM1
        rw [hw8]
        simp only [hob]
        clear hw8 hob q0 q1 q2 q3 q4
        refine (lay_c wb v none o w8 HM1.out.w HOK.out (by simp; omega)).mono ?_
        rintro e w9 ⟨rfl, v9, d9⟩
        rw [wLay_none] at d9
        have H9 : Keep (Mine w w9 ([hO ob (ocs o) 30] ++ rO rb B ([], 50) :: [wO wb v9 none])) := ⟨HM1.out.wdid d9⟩
        have c3 : w9.cell? ⟨ob, 3, none⟩ = some (.int .i64 o.size) := (Mine.h (A := []) H9.out).cellv 3 _ rfl
        clear d9 HM1
        go_wp2_with fail
        refine (rNumber_c rb B _ o.size w9 H9.out.r).mono ?_
        rintro e w10 ⟨rfl, d10⟩
        rw [rNum_dead _ _ HE.out] at d10 ⊢
        have H10 : Keep (Mine w w10 ([hO ob (ocs o) 30] ++ rO rb B ([], 50) :: [wO wb v9 none])) := ⟨H9.out.rdid d10⟩
        have c3 : w10.cell? ⟨ob, 3, none⟩ = some (.int .i64 o.size) := (Mine.h (A := []) H10.out).cellv 3 _ rfl
        clear d10 H9
        go_wp2_with fail
        refine (rSigned_c rb B _ o.size w10 H10.out.r).mono ?_
        rintro e w11 ⟨rfl, d11⟩
        rw [rSig_dead _ _ HE.out] at d11 ⊢
        have H11 : Keep (Mine w w11 ([hO ob (ocs o) 30] ++ rO rb B ([], 50) :: [wO wb v9 none])) := ⟨H10.out.rdid d11⟩
        have c3 : w11.cell? ⟨ob, 3, none⟩ = some (.int .i64 o.size) := (Mine.h (A := []) H11.out).cellv 3 _ rfl
        clear d11 H10
        go_wp2_with fail
        refine (rBytes_c rb B _ o.size w11 H11.out.r).mono ?_
        rintro e w12 ⟨rfl, d12⟩
        rw [rTake_dead _ _ HE.out] at d12 ⊢
        have H12 : Keep (Mine w w12 ([hO ob (ocs o) 30] ++ rO rb B ([], 50) :: [wO wb v9 none])) := ⟨H11.out.rdid d12⟩
        clear d12 H11
        go_wp2_with fail
        refine (rText_c rb B _ w12 H12.out.r).mono ?_
        rintro e w13 ⟨rfl, d13⟩
        rw [rText_dead _ HE.out] at d13 ⊢
        have H13 : Keep (Mine w w13 ([hO ob (ocs o) 30] ++ rO rb B ([], 50) :: [wO wb v9 none])) := ⟨H12.out.rdid d13⟩
        clear d13 H12
        go_wp2_with fail
        refine (rRest_c rb B _ w13 H13.out.r).mono ?_
        rintro e w14 ⟨rfl, d14⟩
        have H14 : Keep (Mine w w14 ([hO ob (ocs o) 30] ++ rO rb B ([], 50) :: [wO wb v9 none])) := ⟨H13.out.rdid d14⟩
        clear d14 H13
        go_wp2_with fail
        refine (rLeft_c rb B _ w14 H14.out.r).mono ?_
        rintro e w15 ⟨rfl, h15⟩
        subst h15
        have hl0 : (([] : List UInt8).length : Nat) = 0 := rfl
        simp only [hl0]
        go_wp2_with fail
        refine (rDone_c rb B _ w15 H14.out.r).mono ?_
        rintro e w16 ⟨rfl, h16⟩
        subst h16
        have hd : rDone ([], 50) = 50 := rfl
        rw [hd]
        clear hd
        have HF : Keep (∃ v, Mine w w16 ([] ++ rO rb B ([], 50) :: [wO wb v none])) := ⟨v9, H14.out.sub (List.sublist_cons_self _ _)⟩
        clear H14
        go_wp2_with fail
        exact ⟨⟨i + 1, by omega, by simp, HF⟩, by simp only [intOf]; omega⟩
      · have hlt2 : ¬ ((i : Int) < n) := by omega
        obtain ⟨v, HM⟩ := HI.out
        have HM1 : Keep (Mine w wr ([rO rb B ([], 50)] ++ wO wb v none :: [])) := ⟨HM⟩
        clear HI HM
        go_wp2_with fail
        refine (wDone_c wb v none wr HM1.out.w).mono ?_
        rintro e w17 ⟨rfl, g17⟩
        have HG : Keep (w.grownBy w17 none) := ⟨HM1.out.g.trans g17⟩
        clear g17 HM1
        have e1 : (⟨((none : WS).getD []).toArray⟩ : ByteArray) = ⟨#[]⟩ := rfl
        have e2 : werr none = 51 := rfl
        rw [e1, e2]
        clear e1 e2
        go_wp2_with fail
        go_ret
        exact ⟨rfl, HG.out⟩
  · have hbb : (bad.tmod 2 == 0) = false := by simp [hb]
    go_wp2_with fail
    refine (wSigned_c wb _ _ 128 1 w4 H4.out.w (by decide) (by simp [sl_len]; omega)).mono ?_
    rintro e w5 ⟨rfl, v5, d5⟩
    rw [bad2] at d5
    have H5 : Keep (Mine w w5 ([] ++ rO rb B (sl s, 0) :: [wO wb v5 none])) := ⟨H4.out.wdid d5⟩
    clear d5 H4
    go_wp2_with fail
    refine (rNumber_c rb B _ 0 w5 H5.out.r).mono ?_
    rintro e w6 ⟨rfl, d6⟩
    rw [bad4] at d6
    have H6 : Keep (Mine w w6 ([] ++ rO rb B ([], 51) :: [wO wb v5 none])) := ⟨H5.out.rdid d6⟩
    clear d6 H5
    have he : (51 : Int) ≠ 0 := by decide
    have HE : Keep ((51 : Int) ≠ 0) := ⟨he⟩
    clear he
    go_wp2_with fail
    refine (rDone_c rb B _ w6 H6.out.r).mono ?_
    rintro e w7 ⟨rfl, h7⟩
    subst h7
    have hd : rDone ([], 51) = 51 := rfl
    rw [hd]
    clear hd
    go_wp2_with fail
    go_loopw [10] (fun t w' => ∃ i : Nat, i ≤ n ∧ t = .int .i64 i ∧ Keep (∃ v, Mine w w' ([] ++ rO rb B ([], 51) :: [wO wb v none]))) (fun t _ => n - (intOf t).toNat)
    case atStart => exact ⟨0, Nat.zero_le _, rfl, ⟨_, H6.out⟩⟩
    case round =>
      obtain ⟨i, hi, rfl, HI⟩ := hrel
      clear H6
      by_cases hlt : i < n
      · have hlt2 : (i : Int) < n := by omega
        obtain ⟨Bx, kx, o, rfl, hoi, hok, hat⟩ := HX.out.get hlt
        obtain ⟨v, HM⟩ := HI.out
        have hso : o.s.size ≤ 140737488351232 := HOS.out o (List.mem_of_getElem? hoi)
        have HOK : Keep o.Ok := ⟨hok⟩
        obtain ⟨q0, q1, q2, q3, q4⟩ := hat.kept HM.g
        have hwi : IntKind.i64.wrap ((i : Int) + 1) = ((i + 1 : Nat) : Int) := by rw [wi _ (by omega) (by omega)]; omega
        have HM1 : Keep (Mine w (wr.alloc (.cells #[.int .i64 o.kind, .int .u64 o.u, .int .i64 o.i, .int .i64 o.size, .string o.s] 30)) ([hO wr.heap.size (ocs o) 30, rO rb B ([], 51)] ++ [wO wb v none])) := ⟨HM.newH _ 30⟩
        clear HI HM hat hok hoi
        go_wp2_with fail
        obtain ⟨w8, hw8⟩ : ∃ q, wr.alloc (.cells #[.int .i64 o.kind, .int .u64 o.u, .int .i64 o.i, .int .i64 o.size, .string o.s] 30) = q := ⟨_, rfl⟩
        obtain ⟨ob, hob⟩ : ∃ q, wr.heap.size = q := ⟨_, rfl⟩
        rw [hw8, hob] at HM1
        rw [hw8]
        simp only [hob]
        clear hw8 hob q0 q1 q2 q3 q4
        refine (lay_c wb v none o w8 HM1.out.w HOK.out (by simp; omega)).mono ?_
        rintro e w9 ⟨rfl, v9, d9⟩
        rw [wLay_none] at d9
        have H9 : Keep (Mine w w9 ([hO ob (ocs o) 30] ++ rO rb B ([], 51) :: [wO wb v9 none])) := ⟨HM1.out.wdid d9⟩
        have c3 : w9.cell? ⟨ob, 3, none⟩ = some (.int .i64 o.size) := (Mine.h (A := []) H9.out).cellv 3 _ rfl
        clear d9 HM1
        go_wp2_with fail
        refine (rNumber_c rb B _ o.size w9 H9.out.r).mono ?_
        rintro e w10 ⟨rfl, d10⟩
        rw [rNum_dead _ _ HE.out] at d10 ⊢
        have H10 : Keep (Mine w w10 ([hO ob (ocs o) 30] ++ rO rb B ([], 51) :: [wO wb v9 none])) := ⟨H9.out.rdid d10⟩
        have c3 : w10.cell? ⟨ob, 3, none⟩ = some (.int .i64 o.size) := (Mine.h (A := []) H10.out).cellv 3 _ rfl
        clear d10 H9
        go_wp2_with fail
        refine (rSigned_c rb B _ o.size w10 H10.out.r).mono ?_
        rintro e w11 ⟨rfl, d11⟩
        rw [rSig_dead _ _ HE.out] at d11 ⊢
        have H11 : Keep (Mine w w11 ([hO ob (ocs o) 30] ++ rO rb B ([], 51) :: [wO wb v9 none])) := ⟨H10.out.rdid d11⟩
        have c3 : w11.cell? ⟨ob, 3, none⟩ = some (.int .i64 o.size) := (Mine.h (A := []) H11.out).cellv 3 _ rfl
        clear d11 H10
        go_wp2_with fail
        refine (rBytes_c rb B _ o.size w11 H11.out.r).mono ?_
        rintro e w12 ⟨rfl, d12⟩
        rw [rTake_dead _ _ HE.out] at d12 ⊢
        have H12 : Keep (Mine w w12 ([hO ob (ocs o) 30] ++ rO rb B ([], 51) :: [wO wb v9 none])) := ⟨H11.out.rdid d12⟩
        clear d12 H11
        go_wp2_with fail
        refine (rText_c rb B _ w12 H12.out.r).mono ?_
        rintro e w13 ⟨rfl, d13⟩
        rw [rText_dead _ HE.out] at d13 ⊢
        have H13 : Keep (Mine w w13 ([hO ob (ocs o) 30] ++ rO rb B ([], 51) :: [wO wb v9 none])) := ⟨H12.out.rdid d13⟩
        clear d13 H12
        go_wp2_with fail
        refine (rRest_c rb B _ w13 H13.out.r).mono ?_
        rintro e w14 ⟨rfl, d14⟩
        have H14 : Keep (Mine w w14 ([hO ob (ocs o) 30] ++ rO rb B ([], 51) :: [wO wb v9 none])) := ⟨H13.out.rdid d14⟩
        clear d14 H13
        go_wp2_with fail
        refine (rLeft_c rb B _ w14 H14.out.r).mono ?_
        rintro e w15 ⟨rfl, h15⟩
        subst h15
        have hl0 : (([] : List UInt8).length : Nat) = 0 := rfl
        simp only [hl0]
        go_wp2_with fail
        refine (rDone_c rb B _ w15 H14.out.r).mono ?_
        rintro e w16 ⟨rfl, h16⟩
        subst h16
        have hd : rDone ([], 51) = 51 := rfl
        rw [hd]
        clear hd
        have HF : Keep (∃ v, Mine w w16 ([] ++ rO rb B ([], 51) :: [wO wb v none])) := ⟨v9, H14.out.sub (List.sublist_cons_self _ _)⟩
        clear H14
        go_wp2_with fail
        exact ⟨⟨i + 1, by omega, by simp, HF⟩, by simp only [intOf]; omega⟩
      · have hlt2 : ¬ ((i : Int) < n) := by omega
        obtain ⟨v, HM⟩ := HI.out
        have HM1 : Keep (Mine w wr ([rO rb B ([], 51)] ++ wO wb v none :: [])) := ⟨HM⟩
        clear HI HM
        go_wp2_with fail
        refine (wDone_c wb v none wr HM1.out.w).mono ?_
        rintro e w17 ⟨rfl, g17⟩
        have HG : Keep (w.grownBy w17 none) := ⟨HM1.out.g.trans g17⟩
        clear g17 HM1
        have e1 : (⟨((none : WS).getD []).toArray⟩ : ByteArray) = ⟨#[]⟩ := rfl
        have e2 : werr none = 51 := rfl
        rw [e1, e2]
        clear e1 e2
        go_wp2_with fail
        go_ret
        exact ⟨rfl, HG.out⟩
end Go.Proofs.Ytkddfnglonofoaa
