/- window: Mark, in a row of cells. -/
import Derived.Test.YtollbodeafdhkaaA3
namespace Go.Proofs.Ytollbodeafdhkaa
open Go Go.RowKit
/-- the window at place o of block b -/
structure WO (w : World) (b o : Nat) (cs : List Value) (h B : Nat) : Prop where
  has : Has w b cs 41
  c0 : cs[o]? = some (uv h)
  c1 : cs[o + 1]? = some (uv B)
  h1 : h < 18446744073709551616
  b1 : B < 18446744073709551616
theorem omark_no (b o : Nat) (cs : List Value) (h B s : Nat) (w : World) (k : WO w b o cs h B) (hs : s < 18446744073709551616) (hc : chk h B s ≠ 0) :
    Calls Try.prog 9 #[.pointer (some ⟨b, o, none⟩), uv s] w fun e w' => e = .returned (.int .i64 (chk h B s : Nat)) ∧ w.grownBy w' none := by
  have c0 := k.has.cellv o _ k.c0
  have c1 := k.has.cellv (o + 1) _ k.c1
  have HC : Keep (∀ w, Calls Try.prog 11 #[.agg #[uv h, uv B], uv s] w fun e w' => e = .returned (.int .i64 (chk h B s : Nat)) ∧ w.grownBy w' none) := ⟨fun w => check_c h B s w k.h1 k.b1 hs⟩
  clear k
  generalize chk h B s = c at *
  have hci : ((c : Int) == 0) = false := by simp; omega
  go_enter Try.func9, Try.ntmps9
  go_wp2_with fail
  refine (HC.out _).mono ?_
  rintro e w1 ⟨rfl, g⟩
  clear HC
  go_wp2_with fail
  go_ret
  exact ⟨rfl, g⟩
theorem omark_up (b o : Nat) (cs : List Value) (h B s : Nat) (w : World) (k : WO w b o cs h B) (hs : s < 18446744073709551616) (hc : chk h B s = 0) (hu : h < s) :
    Calls Try.prog 9 #[.pointer (some ⟨b, o, none⟩), uv s] w fun e w' => e = .returned (.int .i64 0) ∧ Has w' b ((cs.set o (uv s)).set (o + 1) (uv ((B * 2 ^ (s - h)) % 18446744073709551616 ||| 1))) 41 ∧ w.grownBy w' (some b) := by
  have c0 := k.has.cellv o _ k.c0
  have c1 := k.has.cellv (o + 1) _ k.c1
  have HC : Keep (∀ w, Calls Try.prog 11 #[.agg #[uv h, uv B], uv s] w fun e w' => e = .returned (.int .i64 (chk h B s : Nat)) ∧ w.grownBy w' none) := ⟨fun w => check_c h B s w k.h1 k.b1 hs⟩
  rw [hc] at HC
  have hd1 : s - h ≤ 64 := by
    unfold chk at hc
    rw [if_pos hu] at hc
    split at hc
    · cases hc
    · omega
  have hw : IntKind.u64.wrap ((s : Int) - (h : Int)) = ((s - h : Nat) : Int) := by rw [wu _ (by omega) (by omega)]; omega
  have HK := Keep.mk k.has
  have HCC : Keep (cs[o]? = some (uv h) ∧ cs[o + 1]? = some (uv B)) := ⟨k.c0, k.c1⟩
  have hh := k.h1
  clear k hc
  obtain ⟨d, hd⟩ : ∃ d, s - h = d := ⟨_, rfl⟩
  rw [hd] at hw hd1
  have HD := Keep.mk hd
  have hsi : (h : Int) < (s : Int) := by omega
  clear hd
  go_enter Try.func9, Try.ntmps9
  go_wp2_with fail
  refine (HC.out _).mono ?_
  rintro e w1 ⟨rfl, g⟩
  have HG := Keep.mk g
  replace HK := Keep.mk (HK.out.kept g (by simp))
  clear HC c0 c1 g
  have c0 := HK.out.cellv o _ HCC.out.1
  have c1 := HK.out.cellv (o + 1) _ HCC.out.2
  have z1 := HK.out.frozen (o + 1)
  have z0 := HK.out.frozen o
  go_wp2_with fail
  have hb1 : IntKind.u64.wrap ((B : Int) * 2 ^ d) = ((B * 2 ^ d % 18446744073709551616 : Nat) : Int) := by
    rw [show IntKind.u64.wrap ((B : Int) * 2 ^ d) = ((B : Int) * 2 ^ d) % 18446744073709551616 by simp [IntKind.wrap, IntKind.bits, IntKind.signed]]
    simp
  have HB1 : Keep (B * 2 ^ d % 18446744073709551616 < 18446744073709551616) := ⟨Nat.mod_lt _ (by omega)⟩
  have HBe : Keep (B * 2 ^ (s - h) % 18446744073709551616 = B * 2 ^ d % 18446744073709551616) := ⟨by rw [HD.out]⟩
  generalize B * 2 ^ d % 18446744073709551616 = B1 at *
  go_region
  clear hb1
  have H2 : Keep (Has (w1.setCell { block := b, off := o + 1 } (Value.int IntKind.u64 B1)).drew b (cs.set (o + 1) (uv B1)) 41 ∧ w.grownBy (w1.setCell { block := b, off := o + 1 } (Value.int IntKind.u64 B1)).drew (some b)) := ⟨HK.out.setCell (o + 1) (uv B1), ((HG.out.but _).trans (gr_set w1 b (o + 1) (uv B1))).trans (gr_drew _ _)⟩
  clear HK HG c0 c1 z1 z0 hw HD hd1
  generalize (w1.setCell { block := b, off := o + 1 } (Value.int IntKind.u64 B1)).drew = w2 at *
  have z0 := H2.out.1.frozen o
  have c0 := H2.out.1.cellv o (uv h) (by rw [List.getElem?_set_ne (by omega)]; exact HCC.out.1)
  have H3 : Keep (Has (w2.setCell { block := b, off := o } (uv s)) b ((cs.set (o + 1) (uv B1)).set o (uv s)) 41 ∧ w.grownBy (w2.setCell { block := b, off := o } (uv s)) (some b)) := ⟨H2.out.1.setCell o (uv s), H2.out.2.trans (gr_set w2 b o (uv s))⟩
  clear H2
  have hws : IntKind.u64.wrap ((s : Int) - (s : Int)) = 0 := by rw [Int.sub_self]; rfl
  have hor : bits .or .u64 (B1 : Int) 1 = ((B1 ||| 1 : Nat) : Int) := u64_or_nat B1 1 HB1.out (by omega)
  go_wp2_with fail
  generalize w2.setCell { block := b, off := o } (uv s) = w3 at *
  clear z0 c0
  have c0 := H3.out.1.cellv o (uv s) (by rw [List.getElem?_set_self (by simp; exact (List.getElem?_eq_some_iff.1 HCC.out.1).1)])
  have c1 := H3.out.1.cellv (o + 1) (uv B1) (by rw [List.getElem?_set_ne (by omega), List.getElem?_set_self ((List.getElem?_eq_some_iff.1 HCC.out.2).1)])
  have z1 := H3.out.1.frozen (o + 1)
  have H4 : Keep (Has (w3.setCell { block := b, off := o + 1 } (Value.int IntKind.u64 (B1 ||| 1 : Nat))).drew b ((cs.set o (uv s)).set (o + 1) (uv (B1 ||| 1))) 41 ∧ w.grownBy (w3.setCell { block := b, off := o + 1 } (Value.int IntKind.u64 (B1 ||| 1 : Nat))).drew (some b)) := ⟨by have q := H3.out.1.setCell (o + 1) (uv (B1 ||| 1)); rw [List.set_comm _ _ (by omega), List.set_set, List.set_comm _ _ (by omega)] at q; exact q, (H3.out.2.trans (gr_set w3 b (o + 1) (uv (B1 ||| 1)))).trans (gr_drew _ _)⟩
  go_region
  go_wp2_with fail
  go_ret
  exact ⟨rfl, by rw [HBe.out]; exact H4.out.1, H4.out.2⟩
theorem omark_in (b o : Nat) (cs : List Value) (h B s : Nat) (w : World) (k : WO w b o cs h B) (hs : s < 18446744073709551616) (hc : chk h B s = 0) (hu : ¬ h < s) :
    Calls Try.prog 9 #[.pointer (some ⟨b, o, none⟩), uv s] w fun e w' => e = .returned (.int .i64 0) ∧ Has w' b (cs.set (o + 1) (uv (B ||| 2 ^ (h - s)))) 41 ∧ w.grownBy w' (some b) := by
  have c0 := k.has.cellv o _ k.c0
  have c1 := k.has.cellv (o + 1) _ k.c1
  have HC : Keep (∀ w, Calls Try.prog 11 #[.agg #[uv h, uv B], uv s] w fun e w' => e = .returned (.int .i64 (chk h B s : Nat)) ∧ w.grownBy w' none) := ⟨fun w => check_c h B s w k.h1 k.b1 hs⟩
  rw [hc] at HC
  have hd1 : h - s < 64 := by
    unfold chk at hc
    rw [if_neg hu] at hc
    split at hc
    · cases hc
    · omega
  have hw : IntKind.u64.wrap ((h : Int) - (s : Int)) = ((h - s : Nat) : Int) := by have := k.h1; rw [wu _ (by omega) (by omega)]; omega
  have HK := Keep.mk k.has
  have HCC : Keep (cs[o]? = some (uv h) ∧ cs[o + 1]? = some (uv B)) := ⟨k.c0, k.c1⟩
  have hh := k.h1
  have hB := k.b1
  clear k hc
  obtain ⟨d, hd⟩ : ∃ d, h - s = d := ⟨_, rfl⟩
  rw [hd] at hw hd1
  have HD := Keep.mk hd
  have hsi : ¬ (h : Int) < (s : Int) := by omega
  clear hd
  have hp : 2 ^ d < 18446744073709551616 := by
    have := Nat.pow_le_pow_right (show 0 < 2 by omega) (show d ≤ 63 by omega)
    omega
  have hb1 : IntKind.u64.wrap (2 ^ d) = ((2 ^ d : Nat) : Int) := by
    have e : ((2 : Int) ^ d) = ((2 ^ d : Nat) : Int) := by simp
    rw [e]
    generalize 2 ^ d = P at *
    exact wu _ (by omega) (by omega)
  have hor : bits .or .u64 (B : Int) ((2 ^ d : Nat) : Int) = ((B ||| 2 ^ d : Nat) : Int) := u64_or_nat B _ hB hp
  have HBe : Keep (B ||| 2 ^ (h - s) = B ||| 2 ^ d) := ⟨by rw [HD.out]⟩
  generalize B ||| 2 ^ d = B2 at *
  generalize 2 ^ d = P at hb1 hor
  clear hp
  go_enter Try.func9, Try.ntmps9
  go_wp2_with fail
  refine (HC.out _).mono ?_
  rintro e w1 ⟨rfl, g⟩
  have HG := Keep.mk g
  replace HK := Keep.mk (HK.out.kept g (by simp))
  clear HC c0 c1 g
  have c0 := HK.out.cellv o _ HCC.out.1
  have c1 := HK.out.cellv (o + 1) _ HCC.out.2
  have z1 := HK.out.frozen (o + 1)
  have H4 : Keep (Has (w1.setCell { block := b, off := o + 1 } (uv B2)).drew b (cs.set (o + 1) (uv B2)) 41 ∧ w.grownBy (w1.setCell { block := b, off := o + 1 } (uv B2)).drew (some b)) := ⟨HK.out.setCell (o + 1) (uv B2), ((HG.out.but _).trans (gr_set w1 b (o + 1) (uv B2))).trans (gr_drew _ _)⟩
  go_wp2_with fail
  go_region
  go_wp2_with fail
  go_ret
  exact ⟨rfl, by rw [HBe.out]; exact H4.out.1, H4.out.2⟩
theorem set_same {cs : List Value} {o : Nat} {v : Value} (h : cs[o]? = some v) : cs.set o v = cs := by
  apply List.ext_getElem?
  intro i
  rw [List.getElem?_set]
  by_cases e : o = i
  · subst e
    have := (List.getElem?_eq_some_iff.1 h).1
    simpa [h] using this
  · simp [e]
theorem omark_c (b o : Nat) (cs : List Value) (h B s : Nat) (w : World) (k : WO w b o cs h B) (hs : s < 18446744073709551616) :
    Calls Try.prog 9 #[.pointer (some ⟨b, o, none⟩), uv s] w fun e w' => e = .returned (.int .i64 (chk h B s : Nat)) ∧ Has w' b ((cs.set o (uv (mkH h B s))).set (o + 1) (uv (mkB h B s))) 41 ∧ w.grownBy w' (some b) := by
  by_cases hc : chk h B s = 0
  · by_cases hu : h < s
    · refine (omark_up b o cs h B s w k hs hc hu).mono ?_
      rintro e w1 ⟨rfl, hh, g⟩
      refine ⟨by rw [hc]; rfl, ?_, g⟩
      unfold mkH mkB
      rw [if_pos hc, if_pos hc, if_pos hu, show max h s = s by omega]
      exact hh
    · refine (omark_in b o cs h B s w k hs hc hu).mono ?_
      rintro e w1 ⟨rfl, hh, g⟩
      refine ⟨by rw [hc]; rfl, ?_, g⟩
      unfold mkH mkB
      rw [if_pos hc, if_pos hc, if_neg hu, show max h s = h by omega, set_same k.c0]
      exact hh
  · refine (omark_no b o cs h B s w k hs hc).mono ?_
    rintro e w1 ⟨rfl, g⟩
    refine ⟨rfl, ?_, g.but _⟩
    rw [mkH_no hc, mkB_no hc, set_same k.c0, set_same k.c1]
    exact k.has.kept g (by simp)
end Go.Proofs.Ytollbodeafdhkaa
