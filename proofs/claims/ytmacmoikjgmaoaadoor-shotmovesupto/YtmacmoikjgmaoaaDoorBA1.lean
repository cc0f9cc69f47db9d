/- board: a board in memory; Cell, Size, number, middle, holds, fits, meant. -/
import Derived.Test.YtmacmoikjgmaoaaDoorBP0
import Derived.Test.YtmacmoikjgmaoaaDoorBS2
namespace Go.Proofs.YtmacmoikjgmaoaaDoor.Bo
open Go Go.RowKit

set_option maxRecDepth 100000 in
theorem wi (x : Int) (h : -9223372036854775808 ≤ x) (h2 : x ≤ 9223372036854775807) : IntKind.i64.wrap x = x := by
  unfold IntKind.wrap; simp [IntKind.signed, IntKind.bits]; omega
abbrev In (x : Int) : Prop := -9223372036854775808 ≤ x ∧ x ≤ 9223372036854775807
/-- a board as it lies in memory -/
structure Bd (w : World) (v : Value) (L : Bo) : Prop where
  sh : ev L
  ok : oks L
  o : ∃ kb kr cr, v = .pointer (some ⟨kb, 0, none⟩) ∧ w.cell? ⟨kb, 0, none⟩ = some (iv (wd L)) ∧ w.cell? ⟨kb, 1, none⟩ = some (iv L.length) ∧ w.cell? ⟨kb, 2, none⟩ = some (.slice (some ⟨kr, 0, none⟩) L.length cr) ∧
    ∀ (y : Nat) (l : List Int), L[y]? = some l → ∃ k c, w.cell? ⟨kr, y, none⟩ = some (.slice (some ⟨k, 0, none⟩) l.length c) ∧ ∀ (x : Nat) (u : Int), l[x]? = some u → w.cell? ⟨k, x, none⟩ = some (.int .u8 u)
set_option maxRecDepth 100000 in
theorem Bd.kept {w w' : World} {v : Value} {L : Bo} (h : Bd w v L) (g : w.grownBy w' none) : Bd w' v L := by
  obtain ⟨kb, kr, cr, rfl, c0, c1, c2, hr⟩ := h.o
  refine ⟨h.sh, h.ok, kb, kr, cr, rfl, g.cell c0 (by simp), g.cell c1 (by simp), g.cell c2 (by simp), fun y l hl => ?_⟩
  obtain ⟨k, c, q1, q2⟩ := hr y l hl
  exact ⟨k, c, g.cell q1 (by simp), fun x u hu => g.cell (q2 x u hu) (by simp)⟩
set_option maxRecDepth 100000 in
set_option maxHeartbeats 4000000 in
theorem cell_c (w : World) (v : Value) (L : Bo) (h : Bd w v L) (x y : Int) : Calls Tryd.prog 47 #[v, iv x, iv y] w fun e w' => e = .returned (.int .i32 (cel L x y)) ∧ w' = w := by
  obtain ⟨kb, kr, cr, rfl, c0, c1, c2, hr⟩ := h.o
  have he := h.sh
  have hwl := he.1
  have hww := he.2.1
  have e1 : IntKind.i64.wrap ((wd L : Int) - 1) = (wd L : Int) - 1 := wi _ (by omega) (by omega)
  have e2 : IntKind.i64.wrap ((L.length : Int) - 1) = (L.length : Int) - 1 := wi _ (by omega) (by omega)
  by_cases hx1 : x < 1
  · have hv : cel L x y = 35 := by unfold cel; rw [if_pos (by omega)]
    rw [hv]
    clear hr he hwl hww hv e1 e2
    go_enter Tryd.func47, Tryd.ntmps47
    go_wp2_with fail
    go_ret
    exact ⟨rfl, rfl⟩
  by_cases hy1 : y < 1
  · have hv : cel L x y = 35 := by unfold cel; rw [if_pos (by omega)]
    rw [hv]
    clear hr he hwl hww hv e1 e2
    go_enter Tryd.func47, Tryd.ntmps47
    go_wp2_with fail
    go_ret
    exact ⟨rfl, rfl⟩
  by_cases hx2 : x ≥ (wd L : Int) - 1
  · have hv : cel L x y = 35 := by unfold cel; rw [if_pos (by omega)]
    rw [hv]
    generalize wd L = q at *
    clear hr he hv e2 h
    go_enter Tryd.func47, Tryd.ntmps47
    go_wp2_with fail
    go_ret
    exact ⟨rfl, rfl⟩
  by_cases hy2 : y ≥ (L.length : Int) - 1
  · have hv : cel L x y = 35 := by unfold cel; rw [if_pos (by omega)]
    rw [hv]
    generalize wd L = q at *
    generalize L.length = p at *
    clear hr he hv h
    go_enter Tryd.func47, Tryd.ntmps47
    go_wp2_with fail
    go_ret
    exact ⟨rfl, rfl⟩
  obtain ⟨X, rfl⟩ : ∃ X : Nat, x = X := ⟨x.toNat, by omega⟩
  obtain ⟨Y, rfl⟩ : ∃ Y : Nat, y = Y := ⟨y.toNat, by omega⟩
  have hY : Y < L.length := by omega
  have hl := he.2.2 _ (List.getElem_mem hY)
  have hX : X < L[Y].length := by omega
  obtain ⟨k, c, q1, q2⟩ := hr Y _ (List.getElem?_eq_getElem hY)
  have q3 := q2 X _ (List.getElem?_eq_getElem hX)
  have hv : cel L X Y = L[Y][X] := by
    unfold cel
    rw [if_neg (by omega), show (Y : Int).toNat = Y by omega, show (X : Int).toNat = X by omega, show L.getD Y [] = L[Y] by simp [List.getD_eq_getElem?_getD, hY], show L[Y].getD X 0 = L[Y][X] by simp [List.getD_eq_getElem?_getD, hX]]
  have hok := h.ok _ (List.getElem_mem hY) _ (List.getElem_mem hX)
  unfold okc at hok
  rw [hv]
  rw [hl] at q1
  have hX2 : (X : Int) < (wd L : Nat) := by omega
  have hY2 : (Y : Int) < (L.length : Nat) := by omega
  generalize L[Y][X] = u at *
  have hu : IntKind.i32.wrap u = u := by rcases hok with rfl | rfl | rfl | rfl | rfl <;> rfl
  clear hr he hl hv q2 hX hok h
  generalize wd L = q at *
  clear hY
  generalize L.length = p at *
  go_enter Tryd.func47, Tryd.ntmps47
  go_wp2_with fail
  go_ret
  exact ⟨rfl, rfl⟩
set_option maxRecDepth 100000 in
set_option maxHeartbeats 4000000 in
theorem number_c (w : World) (p : Int) (hp : In p) : Calls Tryd.prog 52 #[iv p] w fun e w' => e = .returned (iv (nm p)) ∧ w' = w := by
  unfold nm
  by_cases h : p < 0
  · rw [if_pos h]
    go_enter Tryd.func52, Tryd.ntmps52
    go_wp2_with fail
    go_ret
    exact ⟨rfl, rfl⟩
  · rw [if_neg h]
    have e : IntKind.i64.wrap (p.tdiv 524288) = p / 524288 := by
      rw [Int.tdiv_eq_ediv_of_nonneg (by omega)]; exact wi _ (by omega) (by omega)
    by_cases h2 : p / 524288 ≤ 64
    · rw [show min (p / 524288) 64 = p / 524288 by omega]
      go_enter Tryd.func52, Tryd.ntmps52
      go_wp2_with fail
      all_goals go_ret
      all_goals first | exact ⟨rfl, rfl⟩ | (refine ⟨?_, rfl⟩; show Ending.returned (iv _) = _; congr 2; omega)
    · rw [show min (p / 524288) 64 = 64 by omega]
      go_enter Tryd.func52, Tryd.ntmps52
      go_wp2_with fail
      all_goals go_ret
      all_goals first | exact ⟨rfl, rfl⟩ | (refine ⟨?_, rfl⟩; show Ending.returned (iv _) = _; congr 2; omega)
set_option maxRecDepth 100000 in
set_option maxHeartbeats 4000000 in
theorem middle_c (w : World) (n : Nat) (hn : n ≤ 64) : Calls Tryd.prog 48 #[iv n] w fun e w' => e = .returned (iv (mid n)) ∧ w' = w := by
  have e1 : IntKind.i64.wrap ((n : Int) * 524288) = (n : Int) * 524288 := wi _ (by omega) (by omega)
  have e2 : IntKind.i64.wrap ((n : Int) * 524288 + 262144) = mid n := wi _ (by omega) (by omega)
  go_enter Tryd.func48, Tryd.ntmps48
  go_wp2_with fail
  go_ret
  exact ⟨rfl, rfl⟩
set_option maxRecDepth 100000 in
set_option maxHeartbeats 4000000 in
theorem fits_c (w : World) (n : Nat) : Calls Tryd.prog 46 #[iv n] w fun e w' => e = .returned (.bool (decide (3 ≤ n ∧ n ≤ 64))) ∧ w' = w := by
  by_cases h1 : (n : Int) ≥ 3
  · have e3 : decide (3 ≤ n ∧ n ≤ 64) = decide ((n : Int) ≤ 64) := by
      by_cases h2 : n ≤ 64
      · rw [decide_eq_true (by omega), decide_eq_true (by omega)]
      · rw [decide_eq_false (by omega), decide_eq_false (by omega)]
    rw [e3]
    go_enter Tryd.func46, Tryd.ntmps46
    go_wp2_with fail
    go_ret
    exact ⟨rfl, rfl⟩
  · have e3 : decide (3 ≤ n ∧ n ≤ 64) = false := decide_eq_false (by omega)
    rw [e3]
    go_enter Tryd.func46, Tryd.ntmps46
    go_wp2_with fail
    go_ret
    exact ⟨rfl, rfl⟩
end Go.Proofs.YtmacmoikjgmaoaaDoor.Bo
