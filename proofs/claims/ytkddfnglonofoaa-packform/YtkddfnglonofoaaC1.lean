/- the laws' alive and lay. -/
import Derived.Test.YtkddfnglonofoaaS1
namespace Go.Proofs.Ytkddfnglonofoaa
open Go Go.RowKit

/-- the string of a list -/
abbrev bs (l : List UInt8) : ByteArray := ⟨l.toArray⟩
theorem st1 : wNum (some []) 258 2 = some [1, 2] := by decide
theorem st2 : wSig (some [1, 2]) (-2) 1 = some [1, 2, 254] := by decide
theorem st3 : wText (some [1, 2, 254]) (sl ⟨#[97, 98]⟩) = some [1, 2, 254, 2, 97, 98] := by decide
theorem st4 : wBytes (some [1, 2, 254, 2, 97, 98]) (sl ⟨#[99]⟩) = some [1, 2, 254, 2, 97, 98, 99] := by decide
theorem rt1 : rNum ([1, 2, 254, 2, 97, 98, 99], 0) 2 = (258, ([254, 2, 97, 98, 99], 0)) := by decide
theorem rt2 : rSig ([254, 2, 97, 98, 99], 0) 1 = (-2, ([2, 97, 98, 99], 0)) := by decide
theorem rt3 : rText ([2, 97, 98, 99], 0) = ([97, 98], ([99], 0)) := by decide

set_option maxRecDepth 100000 in
set_option maxHeartbeats 4000000 in
theorem alive_c (w : World) :
    Calls Try.prog 9 #[] w fun e w' => e = .returned (.bool true) ∧ w.grownBy w' none := by
  go_enter Try.func9, Try.ntmps9
  go_wp2_with fail
  refine (newW_c w).mono ?_
  rintro e w1 ⟨wb, rfl, a1, g1, hb1⟩
  have H1 : Keep (Mine w w1 ([] ++ [wO wb (.slice none 0 0) (some [])])) := ⟨(Mine.start w).newW a1 g1 (by omega)⟩
  clear a1 g1 hb1
  go_wp2_with fail
  refine (wNumber_c wb _ _ 258 2 w1 H1.out.w (by decide) (by decide)).mono ?_
  rintro e w2 ⟨rfl, v2, d2⟩
  rw [st1] at d2
  have H2 : Keep (Mine w w2 ([] ++ [wO wb v2 (some [1, 2])])) := ⟨H1.out.wdid d2⟩
  clear H1 d2
  go_wp2_with fail
  refine (wSigned_c wb _ _ (-2) 1 w2 H2.out.w (by decide) (by decide)).mono ?_
  rintro e w3 ⟨rfl, v3, d3⟩
  rw [st2] at d3
  have H3 : Keep (Mine w w3 ([] ++ [wO wb v3 (some [1, 2, 254])])) := ⟨H2.out.wdid d3⟩
  clear H2 d3
  go_wp2_with fail
  refine (wText_c wb _ _ ⟨#[97, 98]⟩ w3 H3.out.w (by decide)).mono ?_
  rintro e w4 ⟨rfl, v4, d4⟩
  rw [st3] at d4
  have H4 : Keep (Mine w w4 ([] ++ [wO wb v4 (some [1, 2, 254, 2, 97, 98])])) := ⟨H3.out.wdid d4⟩
  clear H3 d4
  go_wp2_with fail
  refine (wBytes_c wb _ _ ⟨#[99]⟩ w4 H4.out.w (by decide)).mono ?_
  rintro e w5 ⟨rfl, v5, d5⟩
  rw [st4] at d5
  have H5 : Keep (Mine w w5 ([] ++ [wO wb v5 (some [1, 2, 254, 2, 97, 98, 99])])) := ⟨H4.out.wdid d5⟩
  clear H4 d5
  go_wp2_with fail
  refine (wDone_c wb _ _ w5 H5.out.w).mono ?_
  rintro e w6 ⟨rfl, g6⟩
  have H6 : Keep (w.grownBy w6 none) := ⟨H5.out.g.trans g6⟩
  clear H5 g6
  have hs : (⟨((some [1, 2, 254, 2, 97, 98, 99] : WS).getD []).toArray⟩ : ByteArray) = ⟨#[1, 2, 254, 2, 97, 98, 99]⟩ := rfl
  have he : werr (some [1, 2, 254, 2, 97, 98, 99]) = 0 := rfl
  rw [hs, he]
  clear hs he
  go_wp2_with fail
  refine (newR_c _ w6).mono ?_
  rintro e w7 ⟨rb, B, rfl, a7, g7, hr7, hB7⟩
  have hsl : sl ⟨#[1, 2, 254, 2, 97, 98, 99]⟩ = [1, 2, 254, 2, 97, 98, 99] := rfl
  rw [hsl] at a7
  have H7 : Keep (Mine w w7 ([] ++ [rO rb B ([1, 2, 254, 2, 97, 98, 99], 0)])) := ⟨Mine.newR ⟨H6.out, Sep.nil _ _⟩ a7 g7 hr7 hB7⟩
  clear a7 g7 hr7 hB7 hsl H6
  go_wp2_with fail
  refine (rNumber_c rb B _ 2 w7 H7.out.r).mono ?_
  rintro e w8 ⟨rfl, d8⟩
  rw [rt1] at d8 ⊢
  have H8 : Keep (Mine w w8 ([] ++ [rO rb B ([254, 2, 97, 98, 99], 0)])) := ⟨H7.out.rdid d8⟩
  clear H7 d8
  go_wp2_with fail
  refine (rSigned_c rb B _ 1 w8 H8.out.r).mono ?_
  rintro e w9 ⟨rfl, d9⟩
  rw [rt2] at d9 ⊢
  have H9 : Keep (Mine w w9 ([] ++ [rO rb B ([2, 97, 98, 99], 0)])) := ⟨H8.out.rdid d9⟩
  clear H8 d9
  go_wp2_with fail
  refine (rText_c rb B _ w9 H9.out.r).mono ?_
  rintro e w10 ⟨rfl, d10⟩
  rw [rt3] at d10 ⊢
  have H10 : Keep (Mine w w10 ([] ++ [rO rb B ([99], 0)])) := ⟨H9.out.rdid d10⟩
  clear H9 d10
  go_wp2_with fail
  refine (rLeft_c rb B _ w10 H10.out.r).mono ?_
  rintro e w11 ⟨rfl, h11⟩
  subst h11
  go_wp2_with fail
  refine (rDone_c rb B _ w11 H10.out.r).mono ?_
  rintro e w12 ⟨rfl, h12⟩
  subst h12
  have hd : rDone ([99], 0) = 51 := rfl
  rw [hd]
  clear hd
  go_wp2_with fail
  refine (rRest_c rb B _ w12 H10.out.r).mono ?_
  rintro e w13 ⟨rfl, d13⟩
  have H13 : Keep (Mine w w13 ([] ++ [rO rb B ([], 0)])) := ⟨H10.out.rdid d13⟩
  clear d13 H10
  go_wp2_with fail
  refine (rDone_c rb B _ w13 H13.out.r).mono ?_
  rintro e w14 ⟨rfl, h14⟩
  subst h14
  have hd : rDone ([], 0) = 0 := rfl
  rw [hd]
  clear hd
  go_wp2_with fail
  go_ret
  exact ⟨rfl, H13.out.g⟩

/-- one call -/
structure OpT where
  kind : Int
  u : Nat
  i : Int
  size : Int
  s : ByteArray
structure OpT.Ok (o : OpT) : Prop where
  u : o.u < 18446744073709551616
  i : -9223372036854775808 ≤ o.i ∧ o.i < 9223372036854775808
def wLay (st : WS) (o : OpT) : WS := if o.kind = 1 then wNum st o.u o.size else if o.kind = 2 then wSig st o.i o.size else if o.kind = 3 then wBytes st (sl o.s) else if o.kind = 4 then wText st (sl o.s) else st
abbrev ov (o : OpT) : Value := .agg #[.int .i64 o.kind, .int .u64 o.u, .int .i64 o.i, .int .i64 o.size, .string o.s]
set_option maxRecDepth 100000 in
set_option maxHeartbeats 4000000 in
theorem lay_c (wb : Nat) (v : Value) (st : WS) (o : OpT) (w : World) (h : WAt w wb v st) (ho : o.Ok) (hl : (st.getD []).length + o.s.size ≤ 140737488355312) :
    Calls Try.prog 24 #[.pointer (some ⟨wb, 0, none⟩), ov o] w fun e w' => e = .returned (.tuple #[]) ∧ ∃ v', WDid w w' wb v (wLay st o) v' := by
  obtain ⟨kind, u, i, size, s⟩ := o
  have HH : Keep (WAt w wb v st) := ⟨h⟩
  have HO : Keep (u < 18446744073709551616 ∧ (-9223372036854775808 ≤ i ∧ i < 9223372036854775808)) := ⟨ho.u, ho.i⟩
  have HL : Keep ((st.getD []).length + s.size ≤ 140737488355312) := ⟨hl⟩
  clear h ho hl
  go_enter Try.func24, Try.ntmps24
  unfold wLay
  by_cases h1 : kind = 1
  · subst h1
    simp only [if_true]
    go_wp2_with fail
    obtain ⟨w1, hw1⟩ : ∃ w1, w.alloc (.cells #[.int .i64 1, .int .u64 u, .int .i64 i, .int .i64 size, .string s] 30) = w1 := ⟨_, rfl⟩
    rw [hw1]
    have HG : Keep (w.grownBy w1 none) := ⟨by rw [← hw1]; exact World.grownBy_alloc _ _ _⟩
    clear hw1
    refine (wNumber_c wb v st u size w1 (HH.out.kept HG.out) HO.out.1 (by have := HL.out; omega)).mono ?_
    rintro e w2 ⟨rfl, v2, d2⟩
    have HD := Keep.mk (d2.ahead HG.out)
    clear d2
    go_wp2_with fail
    go_end0
    exact ⟨rfl, v2, HD.out⟩
  · rw [if_neg h1]
    by_cases h2 : kind = 2
    · subst h2
      simp only [if_true]
      go_wp2_with fail
      obtain ⟨w1, hw1⟩ : ∃ w1, w.alloc (.cells #[.int .i64 2, .int .u64 u, .int .i64 i, .int .i64 size, .string s] 30) = w1 := ⟨_, rfl⟩
      rw [hw1]
      have HG : Keep (w.grownBy w1 none) := ⟨by rw [← hw1]; exact World.grownBy_alloc _ _ _⟩
      clear hw1
      refine (wSigned_c wb v st i size w1 (HH.out.kept HG.out) HO.out.2 (by have := HL.out; omega)).mono ?_
      rintro e w2 ⟨rfl, v2, d2⟩
      have HD := Keep.mk (d2.ahead HG.out)
      clear d2
      go_wp2_with fail
      go_end0
      exact ⟨rfl, v2, HD.out⟩
    · rw [if_neg h2]
      by_cases h3 : kind = 3
      · subst h3
        simp only [if_true]
        go_wp2_with fail
        obtain ⟨w1, hw1⟩ : ∃ w1, w.alloc (.cells #[.int .i64 3, .int .u64 u, .int .i64 i, .int .i64 size, .string s] 30) = w1 := ⟨_, rfl⟩
        rw [hw1]
        have HG : Keep (w.grownBy w1 none) := ⟨by rw [← hw1]; exact World.grownBy_alloc _ _ _⟩
        clear hw1
        refine (wBytes_c wb v st s w1 (HH.out.kept HG.out) (by have := HL.out; omega)).mono ?_
        rintro e w2 ⟨rfl, v2, d2⟩
        have HD := Keep.mk (d2.ahead HG.out)
        clear d2
        go_wp2_with fail
        go_end0
        exact ⟨rfl, v2, HD.out⟩
      · rw [if_neg h3]
        by_cases h4 : kind = 4
        · subst h4
          simp only [if_true]
          go_wp2_with fail
          obtain ⟨w1, hw1⟩ : ∃ w1, w.alloc (.cells #[.int .i64 4, .int .u64 u, .int .i64 i, .int .i64 size, .string s] 30) = w1 := ⟨_, rfl⟩
          rw [hw1]
          have HG : Keep (w.grownBy w1 none) := ⟨by rw [← hw1]; exact World.grownBy_alloc _ _ _⟩
          clear hw1
          refine (wText_c wb v st s w1 (HH.out.kept HG.out) (by have := HL.out; omega)).mono ?_
          rintro e w2 ⟨rfl, v2, d2⟩
          have HD := Keep.mk (d2.ahead HG.out)
          clear d2
          go_wp2_with fail
          go_end0
          exact ⟨rfl, v2, HD.out⟩
        · rw [if_neg h4]
          go_wp2_with fail
          go_end0
          exact ⟨rfl, v, (WDid.refl HH.out).grown (World.grownBy_alloc _ _ _)⟩
end Go.Proofs.Ytkddfnglonofoaa
