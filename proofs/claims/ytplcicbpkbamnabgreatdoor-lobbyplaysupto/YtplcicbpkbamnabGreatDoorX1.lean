import Derived.Laws.BitsAllLaws
import Derived.Test.YtplcicbpkbamnabGreatDoorX0
import Derived.Deep.RegionHeld
import Derived.RegionTactic
import Derived.ChangeAlike
/- windows over numbers: which were marked. -/
namespace Go.Proofs.YtplcicbpkbamnabGreatDoor.Lo.Wi



/-- what Check answers -/
def chk (h B s : Nat) : Nat := if h < s then (if 64 < s - h then 92 else 0) else if s = 0 ∨ 64 ≤ h - s then 90 else if B.testBit (h - s) then 91 else 0
/-- the highest one behind a Mark -/
def mkH (h B s : Nat) : Nat := if chk h B s = 0 then max h s else h
/-- the bits behind a Mark -/
def mkB (h B s : Nat) : Nat := if chk h B s = 0 then (if h < s then (B * 2 ^ (s - h)) % 18446744073709551616 ||| 1 else B ||| 2 ^ (h - s)) else B

/-- M is what was marked, and h and B know it -/
structure Inv (h B : Nat) (M : List Nat) : Prop where
  bit : ∀ i, B.testBit i = true ↔ i < 64 ∧ i < h ∧ (h - i) ∈ M
  le : ∀ m ∈ M, 0 < m ∧ m ≤ h
  top : h ≠ 0 → h ∈ M
set_option maxRecDepth 100000 in
theorem Inv.lt {h B : Nat} {M : List Nat} (v : Inv h B M) : B < 18446744073709551616 := by
  apply Nat.lt_pow_two_of_testBit (n := 64)
  intro i hi
  have := v.bit i
  cases e : B.testBit i
  · rfl
  · have := this.1 e; omega
set_option maxRecDepth 100000 in
theorem Inv.zero : Inv 0 0 [] := ⟨fun i => by simp, fun m hm => by simp at hm, fun h => absurd rfl h⟩
set_option maxRecDepth 100000 in
theorem Inv.same {h B h' B' : Nat} {M M' : List Nat} (v : Inv h B M) (v' : Inv h' B' M') (e : ∀ x, x ∈ M ↔ x ∈ M') : h = h' ∧ B = B' := by
  have e1 : h = h' := by
    rcases Nat.eq_zero_or_pos h with q | q
    · rcases Nat.eq_zero_or_pos h' with q' | q'
      · omega
      · have := (v.le h' ((e _).2 (v'.top (by omega)))).2; omega
    · have a := (v'.le h ((e _).1 (v.top (by omega)))).2
      have b := (v.le h' ((e _).2 (v'.top (by omega)))).2
      omega
  subst e1
  refine ⟨rfl, Nat.eq_of_testBit_eq fun i => ?_⟩
  have a := v.bit i
  have b := v'.bit i
  rw [← e] at b
  cases x : B.testBit i <;> cases y : B'.testBit i <;> simp_all
/-- Check by what was marked -/
theorem Inv.chk_is {h B : Nat} {M : List Nat} (v : Inv h B M) (s : Nat) : chk h B s = if h < s then (if 64 < s - h then 92 else 0) else if s = 0 ∨ 64 ≤ h - s then 90 else if s ∈ M then 91 else 0 := by
  unfold chk
  by_cases h1 : h < s
  · rw [if_pos h1, if_pos h1]
  · rw [if_neg h1, if_neg h1]
    by_cases h2 : s = 0 ∨ 64 ≤ h - s
    · rw [if_pos h2, if_pos h2]
    · rw [if_neg h2, if_neg h2]
      have := v.bit (h - s)
      rw [show h - (h - s) = s by omega] at this
      by_cases h3 : s ∈ M
      · rw [if_pos h3, if_pos (this.2 ⟨by omega, by omega, h3⟩)]
      · rw [if_neg h3, if_neg (fun q => h3 (this.1 q).2.2)]
set_option maxRecDepth 100000 in
theorem Inv.chk_zero {h B : Nat} {M : List Nat} (v : Inv h B M) (s : Nat) : chk h B s = 0 ↔ (h < s ∧ s - h ≤ 64 ∨ s ≤ h ∧ 0 < s ∧ h - s < 64) ∧ s ∉ M := by
  rw [v.chk_is]
  constructor
  · intro q
    by_cases h1 : h < s
    · rw [if_pos h1] at q
      split at q
      · cases q
      · exact ⟨.inl ⟨h1, by omega⟩, fun e => by have := (v.le s e).2; omega⟩
    · rw [if_neg h1] at q
      split at q
      · cases q
      · split at q
        · cases q
        · exact ⟨.inr ⟨by omega, by omega, by omega⟩, by assumption⟩
  · rintro ⟨q, r⟩
    rcases q with ⟨a, b⟩ | ⟨a, b, c⟩
    · rw [if_pos a, if_neg (by omega)]
    · rw [if_neg (by omega), if_neg (by omega), if_neg r]
set_option maxRecDepth 100000 in
theorem Inv.yes {h B : Nat} {M : List Nat} (v : Inv h B M) {s : Nat} (hs : chk h B s = 0) : Inv (mkH h B s) (mkB h B s) (s :: M) := by
  have q := (v.chk_zero s).1 hs
  unfold mkH mkB
  rw [if_pos hs, if_pos hs]
  obtain ⟨q, r⟩ := q
  refine ⟨fun i => ?_, fun m hm => ?_, fun hh => ?_⟩
  · by_cases h1 : h < s
    · rw [if_pos h1, show max h s = s by omega, Nat.testBit_or, show 18446744073709551616 = 2 ^ 64 by rfl, Nat.testBit_mod_two_pow, ← Nat.shiftLeft_eq, Nat.testBit_shiftLeft]
      have hb := v.bit (i - (s - h))
      have h01 : Nat.testBit 1 i = true ↔ i = 0 := Nat.testBit_one_eq_true_iff_self_eq_zero
      simp only [Bool.or_eq_true, Bool.and_eq_true, decide_eq_true_eq, h01, hb, List.mem_cons]
      constructor
      · rintro (⟨a, b, c, d, e⟩ | rfl)
        · exact ⟨a, by omega, .inr (by rw [show s - i = h - (i - (s - h)) by omega]; exact e)⟩
        · exact ⟨by omega, by omega, .inl (by omega)⟩
      · rintro ⟨a, b, c⟩
        rcases c with c | c
        · exact .inr (by omega)
        · have := v.le _ c
          exact .inl ⟨a, by omega, by omega, by omega, by rw [show h - (i - (s - h)) = s - i by omega]; exact c⟩
    · rw [if_neg h1, show max h s = h by omega, Nat.testBit_or, Nat.testBit_two_pow]
      have hb := v.bit i
      simp only [Bool.or_eq_true, decide_eq_true_eq, hb, List.mem_cons]
      constructor
      · rintro (⟨a, b, c⟩ | rfl)
        · exact ⟨a, b, .inr c⟩
        · exact ⟨by omega, by omega, .inl (by omega)⟩
      · rintro ⟨a, b, c⟩
        rcases c with c | c
        · exact .inr (by omega)
        · exact .inl ⟨a, b, c⟩
  · rcases List.mem_cons.1 hm with rfl | hm
    · omega
    · have := v.le m hm; omega
  · by_cases h1 : h < s
    · rw [show max h s = s by omega]; exact List.mem_cons_self
    · rw [show max h s = h by omega]
      exact List.mem_cons_of_mem _ (v.top (by omega))
set_option maxRecDepth 100000 in
theorem mkH_no {h B s : Nat} (hs : chk h B s ≠ 0) : mkH h B s = h := by unfold mkH; rw [if_neg hs]
set_option maxRecDepth 100000 in
theorem mkB_no {h B s : Nat} (hs : chk h B s ≠ 0) : mkB h B s = B := by unfold mkB; rw [if_neg hs]
/-- the list behind a Mark -/
def mkM (h B s : Nat) (M : List Nat) : List Nat := if chk h B s = 0 then s :: M else M
set_option maxRecDepth 100000 in
theorem Inv.mark {h B : Nat} {M : List Nat} (v : Inv h B M) (s : Nat) : Inv (mkH h B s) (mkB h B s) (mkM h B s M) := by
  unfold mkM
  by_cases hs : chk h B s = 0
  · rw [if_pos hs]; exact v.yes hs
  · rw [if_neg hs, mkH_no hs, mkB_no hs]; exact v
set_option maxRecDepth 100000 in
theorem chk_cases (h B s : Nat) : chk h B s = 0 ∨ chk h B s = 90 ∨ chk h B s = 91 ∨ chk h B s = 92 := by
  unfold chk
  repeat' split
  all_goals omega
set_option maxRecDepth 100000 in
theorem mkH_lt {h B s : Nat} (hh : h < 18446744073709551616) (hs : s < 18446744073709551616) : mkH h B s < 18446744073709551616 := by unfold mkH; split <;> omega
set_option maxRecDepth 100000 in
theorem mkH_le {h B s : Nat} : h ≤ mkH h B s ∧ mkH h B s ≤ h + 64 := by
  unfold mkH
  split
  · rename_i q
    unfold chk at q
    by_cases h1 : h < s
    · rw [if_pos h1] at q
      split at q
      · cases q
      · omega
    · omega
  · omega
end Go.Proofs.YtplcicbpkbamnabGreatDoor.Lo.Wi

/- window: above, within, Check, High, Bits. -/
namespace Go.Proofs.YtplcicbpkbamnabGreatDoor.Lo.Wi
open Go Go.RowKit

abbrev uv (x : Nat) : Value := .int .u64 (x : Nat)
abbrev wv (h B : Nat) : List Value := [uv h, uv B]
set_option maxRecDepth 100000 in
theorem wu (x : Int) (h : 0 ≤ x) (h2 : x < 18446744073709551616) : IntKind.u64.wrap x = x := by
  simp [IntKind.wrap, IntKind.bits, IntKind.signed]; omega
set_option maxRecDepth 100000 in
theorem wi (x : Int) (h : -9223372036854775808 ≤ x) (h2 : x ≤ 9223372036854775807) : IntKind.i64.wrap x = x := by
  rw [IntKind.wrap_i64]; omega
set_option maxRecDepth 100000 in
theorem above_c (h B s : Nat) (w : World) (hs : s < 18446744073709551616) (h1 : h < s) :
    Calls Tryz.prog 105 #[.agg #[uv h, uv B], uv s] w fun e w' => e = .returned (.int .i64 (chk h B s : Nat)) ∧ w.grownBy w' none := by
  have hw : IntKind.u64.wrap ((s : Int) - (h : Int)) = ((s - h : Nat) : Int) := by rw [wu _ (by omega) (by omega)]; omega
  have HC : Keep (chk h B s = if 64 < s - h then 92 else 0) := ⟨by unfold chk; rw [if_pos h1]⟩
  generalize chk h B s = c at *
  obtain ⟨d, hd⟩ : ∃ d, s - h = d := ⟨_, rfl⟩
  rw [hd] at hw HC
  clear hd
  go_enter Tryz.func105, Tryz.ntmps105
  go_wp2_with fail
  · go_ret
    rename_i q
    exact ⟨by rw [HC.out, if_pos (by omega)]; rfl, World.grownBy_alloc _ _ _⟩
  · go_ret
    rename_i q
    exact ⟨by rw [HC.out, if_neg (by omega)]; rfl, World.grownBy_alloc _ _ _⟩
set_option maxRecDepth 100000 in
theorem bit_is (B d : Nat) (hB : B < 18446744073709551616) : (bits BinOp.and IntKind.u64 ((B : Int) / 2 ^ d) 1 == 1) = B.testBit d := by
  have e1 : ((B : Int) / 2 ^ d) = ((B / 2 ^ d : Nat) : Int) := by simp
  have e2 : B / 2 ^ d < 18446744073709551616 := Nat.lt_of_le_of_lt (Nat.div_le_self _ _) hB
  have := u64_and_nat (B / 2 ^ d) 1 e2 (by omega)
  rw [e1]
  rw [show ((1 : Nat) : Int) = 1 by rfl] at this
  rw [this, nat_mask1, Nat.testBit_eq_decide_div_mod_eq]
  rw [Bool.eq_iff_iff]
  simp only [beq_iff_eq, decide_eq_true_eq]
  omega
set_option maxRecDepth 100000 in
theorem within_c (h B s : Nat) (w : World) (hh : h < 18446744073709551616) (hB : B < 18446744073709551616) (h1 : ¬ h < s) :
    Calls Tryz.prog 106 #[.agg #[uv h, uv B], uv s] w fun e w' => e = .returned (.int .i64 (chk h B s : Nat)) ∧ w.grownBy w' none := by
  have hw : IntKind.u64.wrap ((h : Int) - (s : Int)) = ((h - s : Nat) : Int) := by rw [wu _ (by omega) (by omega)]; omega
  have HC : Keep (chk h B s = if s = 0 ∨ 64 ≤ h - s then 90 else if B.testBit (h - s) then 91 else 0) := ⟨by unfold chk; rw [if_neg h1]⟩
  generalize chk h B s = c at *
  obtain ⟨d, hd⟩ : ∃ d, h - s = d := ⟨_, rfl⟩
  rw [hd] at hw HC
  have HB := Keep.mk (bit_is B d hB)
  clear hd
  go_enter Tryz.func106, Tryz.ntmps106
  go_wp2_with fail
  · go_ret
    have q : ((s : Int) == 0) = true := by assumption
    exact ⟨by rw [HC.out, if_pos (by simp at q; omega)]; rfl, World.grownBy_alloc _ _ _⟩
  · go_ret
    have q : (64 : Int) ≤ (d : Int) := by assumption
    exact ⟨by rw [HC.out, if_pos (by omega)]; rfl, World.grownBy_alloc _ _ _⟩
  · have q1 : ((s : Int) == 0) = false := by assumption
    have q2 : (d : Int) < 64 := by assumption
    have q3 : (bits BinOp.and IntKind.u64 ((B : Int) / 2 ^ d) 1 == 1) = true := by assumption
    rw [HB.out] at q3
    go_ret
    exact ⟨by rw [HC.out, if_neg (by simp at q1; omega), if_pos q3]; rfl, World.grownBy_alloc _ _ _⟩
  · have q1 : ((s : Int) == 0) = false := by assumption
    have q2 : (d : Int) < 64 := by assumption
    have q3 : (bits BinOp.and IntKind.u64 ((B : Int) / 2 ^ d) 1 == 1) = false := by assumption
    rw [HB.out] at q3
    go_ret
    exact ⟨by rw [HC.out, if_neg (by simp at q1; omega), if_neg (by simp [q3])]; rfl, World.grownBy_alloc _ _ _⟩
set_option maxRecDepth 100000 in
theorem check_c (h B s : Nat) (w : World) (hh : h < 18446744073709551616) (hB : B < 18446744073709551616) (hs : s < 18446744073709551616) :
    Calls Tryz.prog 79 #[.agg #[uv h, uv B], uv s] w fun e w' => e = .returned (.int .i64 (chk h B s : Nat)) ∧ w.grownBy w' none := by
  have HA : Keep (h < s → ∀ w, Calls Tryz.prog 105 #[.agg #[uv h, uv B], uv s] w fun e w' => e = .returned (.int .i64 (chk h B s : Nat)) ∧ w.grownBy w' none) := ⟨fun q w => above_c h B s w hs q⟩
  have HW : Keep (¬ h < s → ∀ w, Calls Tryz.prog 106 #[.agg #[uv h, uv B], uv s] w fun e w' => e = .returned (.int .i64 (chk h B s : Nat)) ∧ w.grownBy w' none) := ⟨fun q w => within_c h B s w hh hB q⟩
  generalize chk h B s = c at *
  by_cases h1 : h < s
  · have h1i : (h : Int) < (s : Int) := by omega
    go_enter Tryz.func79, Tryz.ntmps79
    go_wp2_with fail
    refine (HA.out h1 _).mono ?_
    rintro e w1 ⟨rfl, g⟩
    go_wp2_with fail
    go_ret
    exact ⟨rfl, (World.grownBy_alloc _ _ _).trans g⟩
  · have h1i : ¬ (h : Int) < (s : Int) := by omega
    go_enter Tryz.func79, Tryz.ntmps79
    go_wp2_with fail
    refine (HW.out h1 _).mono ?_
    rintro e w1 ⟨rfl, g⟩
    go_wp2_with fail
    go_ret
    exact ⟨rfl, (World.grownBy_alloc _ _ _).trans g⟩
set_option maxRecDepth 100000 in
theorem high_c (h B : Nat) (w : World) : Calls Tryz.prog 95 #[.agg #[uv h, uv B]] w fun e w' => e = .returned (uv h) ∧ w.grownBy w' none := by
  go_enter Tryz.func95, Tryz.ntmps95
  go_wp2_with fail
  go_ret
  exact ⟨rfl, World.grownBy_alloc _ _ _⟩
end Go.Proofs.YtplcicbpkbamnabGreatDoor.Lo.Wi

/- window: Mark. -/
namespace Go.Proofs.YtplcicbpkbamnabGreatDoor.Lo.Wi
open Go Go.RowKit
/-- the window in block b -/
structure WK (w : World) (b : Nat) (h B : Nat) : Prop where
  has : Has w b (wv h B) 107
  h1 : h < 18446744073709551616
  b1 : B < 18446744073709551616
set_option maxRecDepth 100000 in
theorem mark_no (b h B s : Nat) (w : World) (k : WK w b h B) (hs : s < 18446744073709551616) (hc : chk h B s ≠ 0) :
    Calls Tryz.prog 94 #[.pointer (some ⟨b, 0, none⟩), uv s] w fun e w' => e = .returned (.int .i64 (chk h B s : Nat)) ∧ w.grownBy w' none := by
  have c0 := k.has.cellv 0 _ rfl
  have c1 := k.has.cellv 1 _ rfl
  have HC : Keep (∀ w, Calls Tryz.prog 79 #[.agg #[uv h, uv B], uv s] w fun e w' => e = .returned (.int .i64 (chk h B s : Nat)) ∧ w.grownBy w' none) := ⟨fun w => check_c h B s w k.h1 k.b1 hs⟩
  clear k
  generalize chk h B s = c at *
  have hci : ((c : Int) == 0) = false := by simp; omega
  go_enter Tryz.func94, Tryz.ntmps94
  go_wp2_with fail
  refine (HC.out _).mono ?_
  rintro e w1 ⟨rfl, g⟩
  clear HC
  go_wp2_with fail
  go_ret
  exact ⟨rfl, g⟩
set_option maxRecDepth 100000 in
theorem mark_up (b h B s : Nat) (w : World) (k : WK w b h B) (hs : s < 18446744073709551616) (hc : chk h B s = 0) (hu : h < s) :
    Calls Tryz.prog 94 #[.pointer (some ⟨b, 0, none⟩), uv s] w fun e w' => e = .returned (.int .i64 0) ∧ Has w' b (wv s ((B * 2 ^ (s - h)) % 18446744073709551616 ||| 1)) 107 ∧ w.grownBy w' (some b) := by
  have c0 := k.has.cellv 0 _ rfl
  have c1 := k.has.cellv 1 _ rfl
  have HC : Keep (∀ w, Calls Tryz.prog 79 #[.agg #[uv h, uv B], uv s] w fun e w' => e = .returned (.int .i64 (chk h B s : Nat)) ∧ w.grownBy w' none) := ⟨fun w => check_c h B s w k.h1 k.b1 hs⟩
  rw [hc] at HC
  have hd1 : s - h ≤ 64 := by
    unfold chk at hc
    rw [if_pos hu] at hc
    split at hc
    · cases hc
    · omega
  have hw : IntKind.u64.wrap ((s : Int) - (h : Int)) = ((s - h : Nat) : Int) := by rw [wu _ (by omega) (by omega)]; omega
  have HK := Keep.mk k.has
  have hh := k.h1
  clear k hc
  obtain ⟨d, hd⟩ : ∃ d, s - h = d := ⟨_, rfl⟩
  rw [hd] at hw hd1
  have HD := Keep.mk hd
  have hsi : (h : Int) < (s : Int) := by omega
  clear hd
  go_enter Tryz.func94, Tryz.ntmps94
  go_wp2_with fail
  refine (HC.out _).mono ?_
  rintro e w1 ⟨rfl, g⟩
  have HG := Keep.mk g
  replace HK := Keep.mk (HK.out.kept g (by simp))
  clear HC c0 c1 g
  have c0 := HK.out.cellv 0 _ rfl
  have c1 := HK.out.cellv 1 _ rfl
  have z1 := HK.out.frozen 1
  have z0 := HK.out.frozen 0
  go_wp2_with fail
  have hb1 : IntKind.u64.wrap ((B : Int) * 2 ^ d) = ((B * 2 ^ d % 18446744073709551616 : Nat) : Int) := by
    rw [show IntKind.u64.wrap ((B : Int) * 2 ^ d) = ((B : Int) * 2 ^ d) % 18446744073709551616 by simp [IntKind.wrap, IntKind.bits, IntKind.signed]]
    simp
  have HB1 : Keep (B * 2 ^ d % 18446744073709551616 < 18446744073709551616) := ⟨Nat.mod_lt _ (by omega)⟩
  have HBe : Keep (B * 2 ^ (s - h) % 18446744073709551616 = B * 2 ^ d % 18446744073709551616) := ⟨by rw [HD.out]⟩
  generalize B * 2 ^ d % 18446744073709551616 = B1 at *
  go_region
  clear hb1
  have H2 : Keep (Has (w1.setCell { block := b, off := 1 } (Value.int IntKind.u64 B1)).drew b (wv h B1) 107 ∧ w.grownBy (w1.setCell { block := b, off := 1 } (Value.int IntKind.u64 B1)).drew (some b)) := ⟨HK.out.setCell 1 (uv B1), ((HG.out.but _).trans (gr_set w1 b 1 (uv B1))).trans (gr_drew _ _)⟩
  clear HK HG c0 c1 z1 z0 hw HD hd1
  generalize (w1.setCell { block := b, off := 1 } (Value.int IntKind.u64 B1)).drew = w2 at *
  have z0 := H2.out.1.frozen 0
  have c0 := H2.out.1.cellv 0 _ rfl
  have H3 : Keep (Has (w2.setCell { block := b, off := 0 } (uv s)) b (wv s B1) 107 ∧ w.grownBy (w2.setCell { block := b, off := 0 } (uv s)) (some b)) := ⟨H2.out.1.setCell 0 (uv s), H2.out.2.trans (gr_set w2 b 0 (uv s))⟩
  clear H2
  have hws : IntKind.u64.wrap ((s : Int) - (s : Int)) = 0 := by rw [Int.sub_self]; rfl
  have hor : bits .or .u64 (B1 : Int) 1 = ((B1 ||| 1 : Nat) : Int) := u64_or_nat B1 1 HB1.out (by omega)
  go_wp2_with fail
  generalize w2.setCell { block := b, off := 0 } (uv s) = w3 at *
  clear z0 c0
  have c0 := H3.out.1.cellv 0 _ rfl
  have c1 := H3.out.1.cellv 1 _ rfl
  have z1 := H3.out.1.frozen 1
  have H4 : Keep (Has (w3.setCell { block := b, off := 1 } (Value.int IntKind.u64 (B1 ||| 1 : Nat))).drew b (wv s (B1 ||| 1)) 107 ∧ w.grownBy (w3.setCell { block := b, off := 1 } (Value.int IntKind.u64 (B1 ||| 1 : Nat))).drew (some b)) := ⟨H3.out.1.setCell 1 (uv (B1 ||| 1)), (H3.out.2.trans (gr_set w3 b 1 (uv (B1 ||| 1)))).trans (gr_drew _ _)⟩
  go_region
  go_wp2_with fail
  go_ret
  exact ⟨rfl, by rw [HBe.out]; exact H4.out.1, H4.out.2⟩
set_option maxRecDepth 100000 in
theorem mark_in (b h B s : Nat) (w : World) (k : WK w b h B) (hs : s < 18446744073709551616) (hc : chk h B s = 0) (hu : ¬ h < s) :
    Calls Tryz.prog 94 #[.pointer (some ⟨b, 0, none⟩), uv s] w fun e w' => e = .returned (.int .i64 0) ∧ Has w' b (wv h (B ||| 2 ^ (h - s))) 107 ∧ w.grownBy w' (some b) := by
  have c0 := k.has.cellv 0 _ rfl
  have c1 := k.has.cellv 1 _ rfl
  have HC : Keep (∀ w, Calls Tryz.prog 79 #[.agg #[uv h, uv B], uv s] w fun e w' => e = .returned (.int .i64 (chk h B s : Nat)) ∧ w.grownBy w' none) := ⟨fun w => check_c h B s w k.h1 k.b1 hs⟩
  rw [hc] at HC
  have hd1 : h - s < 64 := by
    unfold chk at hc
    rw [if_neg hu] at hc
    split at hc
    · cases hc
    · omega
  have hw : IntKind.u64.wrap ((h : Int) - (s : Int)) = ((h - s : Nat) : Int) := by have := k.h1; rw [wu _ (by omega) (by omega)]; omega
  have HK := Keep.mk k.has
  have hh := k.h1
  have hB := k.b1
  clear k hc
  obtain ⟨d, hd⟩ : ∃ d, h - s = d := ⟨_, rfl⟩
  rw [hd] at hw hd1
  have HD := Keep.mk hd
  have hsi : ¬ (h : Int) < (s : Int) := by omega
  clear hd
  have hp : 2 ^ d < 18446744073709551616 := by
    have := Nat.pow_le_pow_right (show 0 < 2 by omega) (show d ≤ 63 by omega)
    omega
  have hb1 : IntKind.u64.wrap (2 ^ d) = ((2 ^ d : Nat) : Int) := by
    have e : ((2 : Int) ^ d) = ((2 ^ d : Nat) : Int) := by simp
    rw [e]
    generalize 2 ^ d = P at *
    exact wu _ (by omega) (by omega)
  have hor : bits .or .u64 (B : Int) ((2 ^ d : Nat) : Int) = ((B ||| 2 ^ d : Nat) : Int) := u64_or_nat B _ hB hp
  have HBe : Keep (B ||| 2 ^ (h - s) = B ||| 2 ^ d) := ⟨by rw [HD.out]⟩
  generalize B ||| 2 ^ d = B2 at *
  generalize 2 ^ d = P at hb1 hor
  clear hp
  go_enter Tryz.func94, Tryz.ntmps94
  go_wp2_with fail
  refine (HC.out _).mono ?_
  rintro e w1 ⟨rfl, g⟩
  have HG := Keep.mk g
  replace HK := Keep.mk (HK.out.kept g (by simp))
  clear HC c0 c1 g
  have c0 := HK.out.cellv 0 _ rfl
  have c1 := HK.out.cellv 1 _ rfl
  have z1 := HK.out.frozen 1
  have H4 : Keep (Has (w1.setCell { block := b, off := 1 } (uv B2)).drew b (wv h B2) 107 ∧ w.grownBy (w1.setCell { block := b, off := 1 } (uv B2)).drew (some b)) := ⟨HK.out.setCell 1 (uv B2), ((HG.out.but _).trans (gr_set w1 b 1 (uv B2))).trans (gr_drew _ _)⟩
  go_wp2_with fail
  go_region
  go_wp2_with fail
  go_ret
  exact ⟨rfl, by rw [HBe.out]; exact H4.out.1, H4.out.2⟩
set_option maxRecDepth 100000 in
theorem mkB_lt {h B s : Nat} (hB : B < 18446744073709551616) : mkB h B s < 18446744073709551616 := by
  unfold mkB
  split
  · rename_i q
    split
    · have e : (18446744073709551616 : Nat) = 2 ^ 64 := by rfl
      rw [e]
      exact Nat.or_lt_two_pow (Nat.mod_lt _ (by omega)) (by omega)
    · rename_i hu
      have hd1 : h - s < 64 := by
        unfold chk at q
        rw [if_neg hu] at q
        split at q
        · cases q
        · omega
      have e : (18446744073709551616 : Nat) = 2 ^ 64 := by rfl
      rw [e] at hB ⊢
      exact Nat.or_lt_two_pow hB (Nat.pow_lt_pow_right (by omega) hd1)
  · exact hB
set_option maxRecDepth 100000 in
theorem mark_c (b h B s : Nat) (w : World) (k : WK w b h B) (hs : s < 18446744073709551616) :
    Calls Tryz.prog 94 #[.pointer (some ⟨b, 0, none⟩), uv s] w fun e w' => e = .returned (.int .i64 (chk h B s : Nat)) ∧ WK w' b (mkH h B s) (mkB h B s) ∧ w.grownBy w' (some b) := by
  by_cases hc : chk h B s = 0
  · by_cases hu : h < s
    · refine (mark_up b h B s w k hs hc hu).mono ?_
      rintro e w1 ⟨rfl, hh, g⟩
      refine ⟨by rw [hc]; rfl, ⟨?_, mkH_lt k.h1 hs, mkB_lt k.b1⟩, g⟩
      unfold mkH mkB
      rw [if_pos hc, if_pos hc, if_pos hu, show max h s = s by omega]
      exact hh
    · refine (mark_in b h B s w k hs hc hu).mono ?_
      rintro e w1 ⟨rfl, hh, g⟩
      refine ⟨by rw [hc]; rfl, ⟨?_, mkH_lt k.h1 hs, mkB_lt k.b1⟩, g⟩
      unfold mkH mkB
      rw [if_pos hc, if_pos hc, if_neg hu, show max h s = h by omega]
      exact hh
  · refine (mark_no b h B s w k hs hc).mono ?_
    rintro e w1 ⟨rfl, g⟩
    refine ⟨rfl, ?_, g.but _⟩
    rw [mkH_no hc, mkB_no hc]
    exact ⟨k.has.kept g (by simp), k.h1, k.b1⟩
end Go.Proofs.YtplcicbpkbamnabGreatDoor.Lo.Wi

/- window: Mark, in a row of cells. -/
namespace Go.Proofs.YtplcicbpkbamnabGreatDoor.Lo.Wi
open Go Go.RowKit
/-- the window at place o of block b -/
structure WO (w : World) (b o : Nat) (cs : List Value) (h B : Nat) : Prop where
  has : Has w b cs 109
  c0 : cs[o]? = some (uv h)
  c1 : cs[o + 1]? = some (uv B)
  h1 : h < 18446744073709551616
  b1 : B < 18446744073709551616
set_option maxRecDepth 100000 in
theorem omark_no (b o : Nat) (cs : List Value) (h B s : Nat) (w : World) (k : WO w b o cs h B) (hs : s < 18446744073709551616) (hc : chk h B s ≠ 0) :
    Calls Tryz.prog 94 #[.pointer (some ⟨b, o, none⟩), uv s] w fun e w' => e = .returned (.int .i64 (chk h B s : Nat)) ∧ w.grownBy w' none := by
  have c0 := k.has.cellv o _ k.c0
  have c1 := k.has.cellv (o + 1) _ k.c1
  have HC : Keep (∀ w, Calls Tryz.prog 79 #[.agg #[uv h, uv B], uv s] w fun e w' => e = .returned (.int .i64 (chk h B s : Nat)) ∧ w.grownBy w' none) := ⟨fun w => check_c h B s w k.h1 k.b1 hs⟩
  clear k
  generalize chk h B s = c at *
  have hci : ((c : Int) == 0) = false := by simp; omega
  go_enter Tryz.func94, Tryz.ntmps94
  go_wp2_with fail
  refine (HC.out _).mono ?_
  rintro e w1 ⟨rfl, g⟩
  clear HC
  go_wp2_with fail
  go_ret
  exact ⟨rfl, g⟩
set_option maxRecDepth 100000 in
theorem omark_up (b o : Nat) (cs : List Value) (h B s : Nat) (w : World) (k : WO w b o cs h B) (hs : s < 18446744073709551616) (hc : chk h B s = 0) (hu : h < s) :
    Calls Tryz.prog 94 #[.pointer (some ⟨b, o, none⟩), uv s] w fun e w' => e = .returned (.int .i64 0) ∧ Has w' b ((cs.set o (uv s)).set (o + 1) (uv ((B * 2 ^ (s - h)) % 18446744073709551616 ||| 1))) 109 ∧ w.grownBy w' (some b) := by
  have c0 := k.has.cellv o _ k.c0
  have c1 := k.has.cellv (o + 1) _ k.c1
  have HC : Keep (∀ w, Calls Tryz.prog 79 #[.agg #[uv h, uv B], uv s] w fun e w' => e = .returned (.int .i64 (chk h B s : Nat)) ∧ w.grownBy w' none) := ⟨fun w => check_c h B s w k.h1 k.b1 hs⟩
  rw [hc] at HC
  have hd1 : s - h ≤ 64 := by
    unfold chk at hc
    rw [if_pos hu] at hc
    split at hc
    · cases hc
    · omega
  have hw : IntKind.u64.wrap ((s : Int) - (h : Int)) = ((s - h : Nat) : Int) := by rw [wu _ (by omega) (by omega)]; omega
  have HK := Keep.mk k.has
  have HCC : Keep (cs[o]? = some (uv h) ∧ cs[o + 1]? = some (uv B)) := ⟨k.c0, k.c1⟩
  have hh := k.h1
  clear k hc
  obtain ⟨d, hd⟩ : ∃ d, s - h = d := ⟨_, rfl⟩
  rw [hd] at hw hd1
  have HD := Keep.mk hd
  have hsi : (h : Int) < (s : Int) := by omega
  clear hd
  go_enter Tryz.func94, Tryz.ntmps94
  go_wp2_with fail
  refine (HC.out _).mono ?_
  rintro e w1 ⟨rfl, g⟩
  have HG := Keep.mk g
  replace HK := Keep.mk (HK.out.kept g (by simp))
  clear HC c0 c1 g
  have c0 := HK.out.cellv o _ HCC.out.1
  have c1 := HK.out.cellv (o + 1) _ HCC.out.2
  have z1 := HK.out.frozen (o + 1)
  have z0 := HK.out.frozen o
  go_wp2_with fail
  have hb1 : IntKind.u64.wrap ((B : Int) * 2 ^ d) = ((B * 2 ^ d % 18446744073709551616 : Nat) : Int) := by
    rw [show IntKind.u64.wrap ((B : Int) * 2 ^ d) = ((B : Int) * 2 ^ d) % 18446744073709551616 by simp [IntKind.wrap, IntKind.bits, IntKind.signed]]
    simp
  have HB1 : Keep (B * 2 ^ d % 18446744073709551616 < 18446744073709551616) := ⟨Nat.mod_lt _ (by omega)⟩
  have HBe : Keep (B * 2 ^ (s - h) % 18446744073709551616 = B * 2 ^ d % 18446744073709551616) := ⟨by rw [HD.out]⟩
  generalize B * 2 ^ d % 18446744073709551616 = B1 at *
  go_region
  clear hb1
  have H2 : Keep (Has (w1.setCell { block := b, off := o + 1 } (Value.int IntKind.u64 B1)).drew b (cs.set (o + 1) (uv B1)) 109 ∧ w.grownBy (w1.setCell { block := b, off := o + 1 } (Value.int IntKind.u64 B1)).drew (some b)) := ⟨HK.out.setCell (o + 1) (uv B1), ((HG.out.but _).trans (gr_set w1 b (o + 1) (uv B1))).trans (gr_drew _ _)⟩
  clear HK HG c0 c1 z1 z0 hw HD hd1
  generalize (w1.setCell { block := b, off := o + 1 } (Value.int IntKind.u64 B1)).drew = w2 at *
  have z0 := H2.out.1.frozen o
  have c0 := H2.out.1.cellv o (uv h) (by rw [List.getElem?_set_ne (by omega)]; exact HCC.out.1)
  have H3 : Keep (Has (w2.setCell { block := b, off := o } (uv s)) b ((cs.set (o + 1) (uv B1)).set o (uv s)) 109 ∧ w.grownBy (w2.setCell { block := b, off := o } (uv s)) (some b)) := ⟨H2.out.1.setCell o (uv s), H2.out.2.trans (gr_set w2 b o (uv s))⟩
  clear H2
  have hws : IntKind.u64.wrap ((s : Int) - (s : Int)) = 0 := by rw [Int.sub_self]; rfl
  have hor : bits .or .u64 (B1 : Int) 1 = ((B1 ||| 1 : Nat) : Int) := u64_or_nat B1 1 HB1.out (by omega)
  go_wp2_with fail
  generalize w2.setCell { block := b, off := o } (uv s) = w3 at *
  clear z0 c0
  have c0 := H3.out.1.cellv o (uv s) (by rw [List.getElem?_set_self (by simp; exact (List.getElem?_eq_some_iff.1 HCC.out.1).1)])
  have c1 := H3.out.1.cellv (o + 1) (uv B1) (by rw [List.getElem?_set_ne (by omega), List.getElem?_set_self ((List.getElem?_eq_some_iff.1 HCC.out.2).1)])
  have z1 := H3.out.1.frozen (o + 1)
  have H4 : Keep (Has (w3.setCell { block := b, off := o + 1 } (Value.int IntKind.u64 (B1 ||| 1 : Nat))).drew b ((cs.set o (uv s)).set (o + 1) (uv (B1 ||| 1))) 109 ∧ w.grownBy (w3.setCell { block := b, off := o + 1 } (Value.int IntKind.u64 (B1 ||| 1 : Nat))).drew (some b)) := ⟨by have q := H3.out.1.setCell (o + 1) (uv (B1 ||| 1)); rw [List.set_comm _ _ (by omega), List.set_set, List.set_comm _ _ (by omega)] at q; exact q, (H3.out.2.trans (gr_set w3 b (o + 1) (uv (B1 ||| 1)))).trans (gr_drew _ _)⟩
  go_region
  go_wp2_with fail
  go_ret
  exact ⟨rfl, by rw [HBe.out]; exact H4.out.1, H4.out.2⟩
set_option maxRecDepth 100000 in
theorem omark_in (b o : Nat) (cs : List Value) (h B s : Nat) (w : World) (k : WO w b o cs h B) (hs : s < 18446744073709551616) (hc : chk h B s = 0) (hu : ¬ h < s) :
    Calls Tryz.prog 94 #[.pointer (some ⟨b, o, none⟩), uv s] w fun e w' => e = .returned (.int .i64 0) ∧ Has w' b (cs.set (o + 1) (uv (B ||| 2 ^ (h - s)))) 109 ∧ w.grownBy w' (some b) := by
  have c0 := k.has.cellv o _ k.c0
  have c1 := k.has.cellv (o + 1) _ k.c1
  have HC : Keep (∀ w, Calls Tryz.prog 79 #[.agg #[uv h, uv B], uv s] w fun e w' => e = .returned (.int .i64 (chk h B s : Nat)) ∧ w.grownBy w' none) := ⟨fun w => check_c h B s w k.h1 k.b1 hs⟩
  rw [hc] at HC
  have hd1 : h - s < 64 := by
    unfold chk at hc
    rw [if_neg hu] at hc
    split at hc
    · cases hc
    · omega
  have hw : IntKind.u64.wrap ((h : Int) - (s : Int)) = ((h - s : Nat) : Int) := by have := k.h1; rw [wu _ (by omega) (by omega)]; omega
  have HK := Keep.mk k.has
  have HCC : Keep (cs[o]? = some (uv h) ∧ cs[o + 1]? = some (uv B)) := ⟨k.c0, k.c1⟩
  have hh := k.h1
  have hB := k.b1
  clear k hc
  obtain ⟨d, hd⟩ : ∃ d, h - s = d := ⟨_, rfl⟩
  rw [hd] at hw hd1
  have HD := Keep.mk hd
  have hsi : ¬ (h : Int) < (s : Int) := by omega
  clear hd
  have hp : 2 ^ d < 18446744073709551616 := by
    have := Nat.pow_le_pow_right (show 0 < 2 by omega) (show d ≤ 63 by omega)
    omega
  have hb1 : IntKind.u64.wrap (2 ^ d) = ((2 ^ d : Nat) : Int) := by
    have e : ((2 : Int) ^ d) = ((2 ^ d : Nat) : Int) := by simp
    rw [e]
    generalize 2 ^ d = P at *
    exact wu _ (by omega) (by omega)
  have hor : bits .or .u64 (B : Int) ((2 ^ d : Nat) : Int) = ((B ||| 2 ^ d : Nat) : Int) := u64_or_nat B _ hB hp
  have HBe : Keep (B ||| 2 ^ (h - s) = B ||| 2 ^ d) := ⟨by rw [HD.out]⟩
  generalize B ||| 2 ^ d = B2 at *
  generalize 2 ^ d = P at hb1 hor
  clear hp
  go_enter Tryz.func94, Tryz.ntmps94
  go_wp2_with fail
  refine (HC.out _).mono ?_
  rintro e w1 ⟨rfl, g⟩
  have HG := Keep.mk g
  replace HK := Keep.mk (HK.out.kept g (by simp))
  clear HC c0 c1 g
  have c0 := HK.out.cellv o _ HCC.out.1
  have c1 := HK.out.cellv (o + 1) _ HCC.out.2
  have z1 := HK.out.frozen (o + 1)
  have H4 : Keep (Has (w1.setCell { block := b, off := o + 1 } (uv B2)).drew b (cs.set (o + 1) (uv B2)) 109 ∧ w.grownBy (w1.setCell { block := b, off := o + 1 } (uv B2)).drew (some b)) := ⟨HK.out.setCell (o + 1) (uv B2), ((HG.out.but _).trans (gr_set w1 b (o + 1) (uv B2))).trans (gr_drew _ _)⟩
  go_wp2_with fail
  go_region
  go_wp2_with fail
  go_ret
  exact ⟨rfl, by rw [HBe.out]; exact H4.out.1, H4.out.2⟩
set_option maxRecDepth 100000 in
theorem set_same {cs : List Value} {o : Nat} {v : Value} (h : cs[o]? = some v) : cs.set o v = cs := by
  apply List.ext_getElem?
  intro i
  rw [List.getElem?_set]
  by_cases e : o = i
  · subst e
    have := (List.getElem?_eq_some_iff.1 h).1
    simpa [h] using this
  · simp [e]
set_option maxRecDepth 100000 in
theorem omark_c (b o : Nat) (cs : List Value) (h B s : Nat) (w : World) (k : WO w b o cs h B) (hs : s < 18446744073709551616) :
    Calls Tryz.prog 94 #[.pointer (some ⟨b, o, none⟩), uv s] w fun e w' => e = .returned (.int .i64 (chk h B s : Nat)) ∧ Has w' b ((cs.set o (uv (mkH h B s))).set (o + 1) (uv (mkB h B s))) 109 ∧ w.grownBy w' (some b) := by
  by_cases hc : chk h B s = 0
  · by_cases hu : h < s
    · refine (omark_up b o cs h B s w k hs hc hu).mono ?_
      rintro e w1 ⟨rfl, hh, g⟩
      refine ⟨by rw [hc]; rfl, ?_, g⟩
      unfold mkH mkB
      rw [if_pos hc, if_pos hc, if_pos hu, show max h s = s by omega]
      exact hh
    · refine (omark_in b o cs h B s w k hs hc hu).mono ?_
      rintro e w1 ⟨rfl, hh, g⟩
      refine ⟨by rw [hc]; rfl, ?_, g⟩
      unfold mkH mkB
      rw [if_pos hc, if_pos hc, if_neg hu, show max h s = h by omega, set_same k.c0]
      exact hh
  · refine (omark_no b o cs h B s w k hs hc).mono ?_
    rintro e w1 ⟨rfl, g⟩
    refine ⟨rfl, ?_, g.but _⟩
    rw [mkH_no hc, mkB_no hc, set_same k.c0, set_same k.c1]
    exact k.has.kept g (by simp)
end Go.Proofs.YtplcicbpkbamnabGreatDoor.Lo.Wi

/- a call that only reads may be taken first in a region that draws its order. -/
namespace Go.Proofs.YtplcicbpkbamnabGreatDoor.Lo.Wi
open Go
section
variable {P : Program} {ops : Array Oper} {Q : Exit → Act → World → Prop} {md : Region.Mode} {S : World → Prop}
/-- in every world of S the call gives v and leaves the world -/
structure Reads (P : Program) (ops : Array Oper) (S : World → Prop) (o : Oper) (v : Value) (a : Act) : Prop where
  want : Region.wanted o (yielded ops a.tmps) = true
  call : ∃ f args, (∀ w, (execOp a.eval o).run P w = .ok (.enter f args) w) ∧ ∀ w, S w → Calls P f args w fun e w' => e = .returned v ∧ w' = w
set_option maxRecDepth 100000 in
theorem Reads.like {o : Oper} {v : Value} {a b : Act} (h : Reads P ops S o v a) (he : execOp b.eval o = execOp a.eval o) (hw : Region.wanted o (yielded ops b.tmps) = Region.wanted o (yielded ops a.tmps)) : Reads P ops S o v b :=
  ⟨hw.trans h.want, by rw [he]; exact h.call⟩
set_option maxRecDepth 100000 in
theorem Reads.now {i : Nat} {o : Oper} {v : Value} {a : Act} (hi : ops[i]? = some o) (h : Reads P ops S o v a) {K : Act → World → Prop} {w : World} (hS : S w) (hK : K (a.put o.dst v) w) : wpOp P ops Q i K a w := by
  obtain ⟨f, args, he, hc⟩ := h.call
  unfold wpOp
  rw [hi]
  show (if _ then _ else _)
  rw [if_pos h.want]
  refine .inl ?_
  unfold Oper.wp
  rw [he w]
  refine (hc w hS).mono ?_
  rintro e w' ⟨rfl, rfl⟩
  exact hK
/-- what one operation does is the same whether or not the other's value is there already -/
theorem beside {j : Nat} {oi oj : Oper} {v : Value} (hj : ops[j]? = some oj) (hap : oi.apart ops oj = true) (hsi : ∀ cs b, oi.op ≠ .select cs b) (hsj : ∀ cs b, oj.op ≠ .select cs b)
    (hQ : ∀ c a w, Q (.panic c) (a.put oi.dst v) w → Q (.panic c) a w) {K : Act → World → Prop} {a : Act} {w : World} (hr : Reads P ops S oi v a) (h : wpOp P ops Q j K (a.put oi.dst v) w) :
    wpOp P ops Q j (fun b w' => Reads P ops S oi v b ∧ K (b.put oi.dst v) w') a w := by
  obtain ⟨d1, d2, d3⟩ := Oper.apart_spec hap
  have stay : ∀ b : Act, Reads P ops S oi v b → ∀ x, Reads P ops S oi v (b.put oj.dst x) := fun b hb x => hb.like (execOp_put oi hsi b oj.dst x d3) (wanted_put oi b oj.dst x d3)
  have eqE := execOp_put oj hsj a oi.dst v d1
  have eqW := wanted_put oj a oi.dst v d1
  have sw : ∀ x, (a.put oi.dst v).put oj.dst x = (a.put oj.dst x).put oi.dst v := fun x => Act.put_comm a v x d2
  unfold wpOp at h ⊢
  rw [hj] at h ⊢
  change (if _ then _ else _) at h
  show (if _ then _ else _)
  rw [eqW] at h
  by_cases hw : Region.wanted oj (yielded ops a.tmps) = true
  · rw [if_pos hw] at h ⊢
    rcases h with h | ⟨h1, h2⟩
    · left
      unfold Oper.wp at h ⊢
      rw [eqE] at h
      revert h
      generalize (execOp a.eval oj).run P w = res
      intro h
      match res, h with
      | .ok (.value x) w', h => exact ⟨stay a hr x, by rw [← sw x]; exact h⟩
      | .ok .skip w', h => exact ⟨stay a hr undef, by rw [← sw undef]; exact h⟩
      | .ok (.defer d) w', h =>
        refine ⟨stay { a with defers := d :: a.defers } (hr.like rfl rfl) undef, ?_⟩
        rw [← Act.put_comm _ v undef d2, ← Act.put_defers]
        exact h
      | .ok (.enter f args) w', h =>
        refine Calls.mono h ?_
        intro e w2 he
        match e, he with
        | .returned x, he => exact ⟨stay a hr x, by rw [← sw x]; exact he⟩
        | .panicked c, he => exact hQ _ _ _ he
        | .outgrown, he => exact he
      | .ok (.row r args) w', h => exact Rows.mono h fun x w2 he => ⟨stay a hr x, by rw [← sw x]; exact he⟩
      | .halt x w', h =>
        cases x
        case panic c => exact hQ _ _ _ h
        all_goals exact h
    · refine .inr ⟨?_, h2⟩
      unfold Oper.asks at h1 ⊢
      rw [eqE] at h1
      exact h1
  · rw [if_neg hw] at h ⊢
    exact ⟨stay a hr undef, by rw [← sw undef]; exact h⟩
set_option maxRecDepth 100000 in
theorem call_core {i : Nat} {oi : Oper} {v : Value} (hi : ops[i]? = some oi) (hsel : ∀ (j : Nat) (o : Oper) cs b, ops[j]? = some o → o.op ≠ .select cs b) (hQ : ∀ c a w, Q (.panic c) (a.put oi.dst v) w → Q (.panic c) a w) :
    ∀ (n : Nat) (L : Array Bool) (a : Act) (w : World), (∀ j oj, ops[j]? = some oj → j ≠ i → L.getD j true = false → (∀ e ∈ oj.after, Region.binds md e = true → e.on ≠ i) → oi.apart ops oj = true) →
      i ∈ Region.ready md ops L → Reads P ops S oi v a → S w → wpAnyH P md ops Q S n (L.setIfInBounds i true) (a.put oi.dst v) w → wpAnyH P md ops Q S (n + 1) L a w
  | n, L, a, w, hfree, hri, hr, hS, H => by
    refine ⟨fun h => (by rw [h] at hri; cases hri), fun j hj => ?_⟩
    by_cases hji : j = i
    · subst hji
      exact hr.now hi hS ⟨hS, H⟩
    have hj2 := ready_mono hj hji
    match n, H with
    | 0, H => rw [H.1] at hj2; cases hj2
    | n + 1, H =>
      obtain ⟨hjl, oj, hoj, hedge⟩ := mem_ready.1 hj
      have hno : ∀ e ∈ oj.after, Region.binds md e = true → e.on ≠ i := by
        intro e he hb heq
        have x1 := hedge e he hb
        have x0 := (mem_ready.1 hri).1
        rw [heq] at x1
        by_cases hlt : i < L.size
        · simp [hlt] at x0 x1
          rw [x0] at x1
          cases x1
        · simp [Array.getElem?_eq_none (Nat.le_of_not_lt hlt)] at x1
      have x2 := beside hoj (hfree j oj hoj hji hjl hno) (fun cs b => hsel i oi cs b hi) (fun cs b => hsel j oj cs b hoj) hQ hr (H.2 j hj2)
      refine wpOp_mono (fun b w' hb => ⟨hb.2.1, call_core hi hsel hQ n (L.setIfInBounds j true) b w' ?_ (ready_mono hri (Ne.symm hji)) hb.1 hb.2.1 ?_⟩) x2
      · intro k ok hk hki hun hnk
        refine hfree k ok hk hki ?_ hnk
        by_cases hjk : j = k
        · subst hjk; exact hjl
        · rwa [getD_set_ne true hjk] at hun
      · rw [Array.setIfInBounds_comm _ _ hji]
        exact hb.2.2
/-- the call comes first -/
theorem wpAnyH_call {i : Nat} {oi : Oper} {v : Value} {n : Nat} {L : Array Bool} {a : Act} {w : World} (hi : ops[i]? = some oi) (hs : Region.noSelect ops = true) (hf : Region.free md ops L i = true) (hri : (Region.ready md ops L).contains i = true)
    (hQ : ∀ c a w, Q (.panic c) (a.put oi.dst v) w → Q (.panic c) a w) (hr : Reads P ops S oi v a) (hS : S w) (h : wpAnyH P md ops Q S n (L.setIfInBounds i true) (a.put oi.dst v) w) : wpAnyH P md ops Q S (n + 1) L a w :=
  call_core hi (Region.noSelect_spec hs) hQ n L a w (Region.free_spec hi hf) (by simpa using hri) hr hS h
end
end Go.Proofs.YtplcicbpkbamnabGreatDoor.Lo.Wi

/- the reference: marked, Check, Bits; same. -/
namespace Go.Proofs.YtplcicbpkbamnabGreatDoor.Lo.Wi
open Go Go.RowKit
/-- numbers as they are handed in -/
structure Ns (k : IntKind) (w : World) (a : Option Addr) (n : Nat) (xs : List Nat) : Prop where
  len : xs.length = n
  at_ : 0 < n → ∃ B o, a = some ⟨B, o, none⟩ ∧ ∀ (j : Nat) x, xs[j]? = some x → w.cell? ⟨B, o + j, none⟩ = some (.int k (x : Nat)) ∧ (x : Int) < 2 ^ k.bits
set_option maxRecDepth 100000 in
theorem cell_kept {w w' : World} {x : Addr} {v : Value} (hg : w.grownBy w' none) (h : w.cell? x = some v) : w'.cell? x = some v := by
  have hb : x.block < w.heap.size := World.block_lt_of_cell? w x h
  rw [← h]
  simp only [World.cell?]
  rw [hg.block x.block hb (by simp)]
set_option maxRecDepth 100000 in
theorem Ns.step {k : IntKind} {w : World} {a : Option Addr} {n : Nat} {xs : List Nat} (h : Ns k w a n xs) {i : Nat} (hi : i < n) : ∃ B o x, a = some ⟨B, o, none⟩ ∧ xs[i]? = some x ∧ (x : Int) < 2 ^ k.bits ∧ ∀ w', w.grownBy w' none → w'.cell? ⟨B, o + i, none⟩ = some (.int k (x : Nat)) := by
  obtain ⟨B, o, e, hc⟩ := h.at_ (by omega)
  have hl := h.len
  obtain ⟨x, hx⟩ : ∃ x, xs[i]? = some x := ⟨_, List.getElem?_eq_getElem (by omega)⟩
  obtain ⟨c1, c2⟩ := hc i x hx
  exact ⟨B, o, x, e, hx, c2, fun w' g => cell_kept g c1⟩
/-- the reference's window, as it reads -/
structure RW (w : World) (p : Nat) (a : Option Addr) (n c : Nat) (L : List Nat) (h : Nat) : Prop where
  has : Has w p [.slice a n c, uv h] 135
  ns : Ns .u64 w a n L
  n0 : n ≤ 1000
set_option maxRecDepth 100000 in
set_option maxHeartbeats 4000000 in
theorem marked_c {w : World} {p : Nat} {a : Option Addr} {n c : Nat} {L : List Nat} {h : Nat} (r : RW w p a n c L h) (s : Nat) :
    Calls Tryz.prog 104 #[.pointer (some ⟨p, 0, none⟩), uv s] w fun e w' => e = .returned (.bool (decide (s ∈ L))) ∧ w' = w := by
  have HR := Keep.mk r
  have hn := r.n0
  have c0 := r.has.cellv 0 _ rfl
  clear r
  obtain ⟨D, hD⟩ : ∃ D, decide (s ∈ L) = D := ⟨_, rfl⟩
  rw [hD]
  have HD := Keep.mk hD
  clear hD
  go_enter Tryz.func104, Tryz.ntmps104
  go_wp2_with fail
  go_loopw [5] (fun x w' => ∃ i : Nat, i ≤ n ∧ x = .int .i64 (i : Nat) ∧ Keep (w' = w) ∧ Keep (∀ j y, j < i → L[j]? = some y → y ≠ s)) (fun x _ => n - (intOf x).toNat)
  case atStart => exact ⟨0, by omega, rfl, ⟨rfl⟩, ⟨fun j y hj _ => by omega⟩⟩
  case round =>
    obtain ⟨i, i1, rfl, HW, HL⟩ := hrel
    obtain rfl := HW.out
    clear HW
    by_cases hi : i < n
    · have hia : (i : Int) < (n : Int) := by omega
      obtain ⟨sb, so, x, rfl, hxi, hx, hcc⟩ := HR.out.ns.step hi
      have c1 := hcc wr (World.grownBy.refl _ _)
      have hwi : IntKind.i64.wrap ((i : Int) + 1) = ((i + 1 : Nat) : Int) := wi _ (by omega) (by omega)
      have HXI := Keep.mk hxi
      clear hcc hx hxi
      by_cases he : x = s
      · subst he
        have HDt : D = true := by rw [← HD.out]; exact decide_eq_true (List.mem_of_getElem? HXI.out)
        subst HDt
        go_wp2_with fail
        go_ret
        exact ⟨rfl, rfl⟩
      · have hb : ((x : Int) == (s : Int)) = false := by simp; omega
        go_wp2_with fail
        refine ⟨⟨i + 1, by omega, rfl, ⟨by trivial⟩, ⟨fun j y hj hy => ?_⟩⟩, ?_⟩
        · by_cases hji : j = i
          · subst hji
            rw [HXI.out] at hy
            cases hy; exact he
          · exact HL.out j y (by omega) hy
        · simp only [intOf]; omega
    · have hia : ¬ (i : Int) < (n : Int) := by omega
      have HDt : D = false := by
        rw [← HD.out]
        refine decide_eq_false fun hm => ?_
        obtain ⟨j, hj⟩ := List.getElem?_of_mem hm
        have := (List.getElem?_eq_some_iff.1 hj).1
        exact HL.out j s (by have := HR.out.ns.len; omega) hj rfl
      subst HDt
      go_wp2_with fail
      go_ret
      exact ⟨rfl, rfl⟩
set_option maxRecDepth 100000 in
set_option maxHeartbeats 4000000 in
theorem rcheck_c {w : World} {p : Nat} {a : Option Addr} {n c : Nat} {L : List Nat} {h B : Nat} (r : RW w p a n c L h) (v : Inv h B L) (hh : h < 18446744073709551616) (s : Nat) (hs : s < 18446744073709551616) :
    Calls Tryz.prog 76 #[.pointer (some ⟨p, 0, none⟩), uv s] w fun e w' => e = .returned (.int .i64 (chk h B s : Nat)) ∧ w' = w := by
  have c1 := r.has.cellv 1 _ rfl
  have HC := Keep.mk (v.chk_is s)
  have HK := Keep.mk (marked_c r s)
  clear v r
  generalize chk h B s = k at *
  by_cases hu : h < s
  · have hui : (h : Int) < (s : Int) := by omega
    have hw : IntKind.u64.wrap ((s : Int) - (h : Int)) = ((s - h : Nat) : Int) := by rw [wu _ (by omega) (by omega)]; omega
    replace HC : Keep (k = if 64 < s - h then 92 else 0) := ⟨by rw [HC.out, if_pos hu]⟩
    generalize s - h = d at *
    by_cases hd : 64 < d
    · have hdi : (64 : Int) < (d : Int) := by omega
      obtain rfl : k = 92 := by rw [HC.out, if_pos hd]
      go_enter Tryz.func76, Tryz.ntmps76
      go_wp2_with fail
      go_ret
      exact ⟨rfl, rfl⟩
    · have hdi : ¬ (64 : Int) < (d : Int) := by omega
      obtain rfl : k = 0 := by rw [HC.out, if_neg hd]
      go_enter Tryz.func76, Tryz.ntmps76
      go_wp2_with fail
      go_ret
      exact ⟨rfl, rfl⟩
  · have hui : ¬ (h : Int) < (s : Int) := by omega
    have hw : IntKind.u64.wrap ((h : Int) - (s : Int)) = ((h - s : Nat) : Int) := by rw [wu _ (by omega) (by omega)]; omega
    replace HC : Keep (k = if s = 0 ∨ 64 ≤ h - s then 90 else if s ∈ L then 91 else 0) := ⟨by rw [HC.out, if_neg hu]⟩
    generalize h - s = d at *
    by_cases hz : s = 0
    · have hzb : ((s : Int) == 0) = true := by simp [hz]
      obtain rfl : k = 90 := by rw [HC.out, if_pos (.inl hz)]
      clear hz
      go_enter Tryz.func76, Tryz.ntmps76
      go_wp2_with fail
      go_ret
      exact ⟨rfl, rfl⟩
    have hzb : ((s : Int) == 0) = false := by simp [hz]
    by_cases hd : 64 ≤ d
    · have hdi : (64 : Int) ≤ (d : Int) := by omega
      obtain rfl : k = 90 := by rw [HC.out, if_pos (.inr hd)]
      go_enter Tryz.func76, Tryz.ntmps76
      go_wp2_with fail
      go_ret
      exact ⟨rfl, rfl⟩
    have hdi : ¬ (64 : Int) ≤ (d : Int) := by omega
    replace HC : Keep (k = if s ∈ L then 91 else 0) := ⟨by rw [HC.out, if_neg (by omega)]⟩
    go_enter Tryz.func76, Tryz.ntmps76
    go_wp2_with fail
    refine HK.out.mono ?_
    rintro e w1 ⟨rfl, rfl⟩
    by_cases hm : s ∈ L
    · obtain rfl : k = 91 := by rw [HC.out, if_pos hm]
      rw [decide_eq_true hm]
      go_wp2_with fail
      go_ret
      exact ⟨rfl, rfl⟩
    · obtain rfl : k = 0 := by rw [HC.out, if_neg hm]
      rw [decide_eq_false hm]
      go_wp2_with fail
      go_ret
      exact ⟨rfl, rfl⟩
end Go.Proofs.YtplcicbpkbamnabGreatDoor.Lo.Wi

