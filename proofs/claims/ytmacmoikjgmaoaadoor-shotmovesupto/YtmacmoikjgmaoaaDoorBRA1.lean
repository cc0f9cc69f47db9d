/- the reference: a board in memory; Size, Cell, floor, cell, At, Solid. -/
import Derived.Test.YtmacmoikjgmaoaaDoorBP3
namespace Go.Proofs.YtmacmoikjgmaoaaDoor.Bo
open Go Go.RowKit

/-- the reference's board -/
structure RB (w : World) (v : Value) (L : Bo) : Prop where
  sh : ev L
  ok : oks L
  o : ∃ kb kr cr, v = pt kb ∧ w.cell? ⟨kb, 0, none⟩ = some (.slice (some ⟨kr, 0, none⟩) L.length cr) ∧
    ∀ (y : Nat), y < L.length → ∃ k c, wd L ≤ c ∧ w.cell? ⟨kr, y, none⟩ = some (.slice (some ⟨k, 0, none⟩) (wd L) c) ∧ ∀ (x : Nat), x < wd L → w.cell? ⟨k, x, none⟩ = some (.int .i32 (cel L x y))
set_option maxRecDepth 100000 in
theorem RB.kept {w w' : World} {v : Value} {L : Bo} (h : RB w v L) (g : w.grownBy w' none) : RB w' v L := by
  obtain ⟨kb, kr, cr, rfl, c0, hr⟩ := h.o
  refine ⟨h.sh, h.ok, kb, kr, cr, rfl, g.cell c0 (by simp), fun y hy => ?_⟩
  obtain ⟨k, c, q0, q1, q2⟩ := hr y hy
  exact ⟨k, c, q0, g.cell q1 (by simp), fun x hx => g.cell (q2 x hx) (by simp)⟩
set_option maxRecDepth 100000 in
set_option maxHeartbeats 4000000 in
theorem rsize_c (w : World) (v : Value) (L : Bo) (h : RB w v L) : Calls Tryd.prog 71 #[v] w fun e w' => e = .returned (.tuple #[iv (wd L), iv L.length]) ∧ ∃ m, w' = w.drewN m := by
  obtain ⟨kb, kr, cr, rfl, c0, hr⟩ := h.o
  have h3 := h.sh.1.1
  obtain ⟨k, c, _, q1, _⟩ := hr 0 (by omega)
  have h4 : (0 : Int) < (L.length : Nat) := by omega
  clear hr h h3
  generalize wd L = p at *
  generalize L.length = n at *
  go_enter Tryd.func71, Tryd.ntmps71
  go_wp2_with fail
  go_quiet (fail)
  go_wp2_with fail
  go_ret2
  exact ⟨rfl, _, rfl⟩
set_option maxRecDepth 100000 in
theorem cel_out {L : Bo} (he : ev L) {x y : Int} (h : x < 0 ∨ y < 0 ∨ x ≥ (wd L : Int) ∨ y ≥ (L.length : Int)) : cel L x y = 35 := by
  unfold cel
  have := he.1.1
  have := he.2.1.1
  rw [if_pos (by omega)]
set_option maxRecDepth 100000 in
set_option maxHeartbeats 4000000 in
theorem rcell_c (w : World) (v : Value) (L : Bo) (h : RB w v L) (x y : Int) : Calls Tryd.prog 67 #[v, iv x, iv y] w fun e w' => e = .returned (.int .i32 (cel L x y)) ∧ ∃ m, w' = w.drewN m := by
  have hz := rsize_c w v L h
  obtain ⟨kb, kr, cr, rfl, c0, hr⟩ := h.o
  have b1 : 3 ≤ wd L ∧ wd L ≤ 64 := h.sh.2.1
  have b2 : 3 ≤ L.length ∧ L.length ≤ 64 := h.sh.1
  have hout := fun q => cel_out (L := L) h.sh (x := x) (y := y) q
  by_cases hx0 : x < 0
  · rw [hout (by omega)]
    clear hr hout h c0
    generalize wd L = p at *
    generalize L.length = n at *
    go_enter Tryd.func67, Tryd.ntmps67
    go_wp2_with fail
    refine hz.mono ?_
    rintro e w1 ⟨rfl, m, rfl⟩
    go_wp2_with fail
    go_ret
    exact ⟨rfl, _, rfl⟩
  by_cases hy0 : y < 0
  · rw [hout (by omega)]
    clear hr hout h c0
    generalize wd L = p at *
    generalize L.length = n at *
    go_enter Tryd.func67, Tryd.ntmps67
    go_wp2_with fail
    refine hz.mono ?_
    rintro e w1 ⟨rfl, m, rfl⟩
    go_wp2_with fail
    go_ret
    exact ⟨rfl, _, rfl⟩
  by_cases hx1 : x ≥ (wd L : Int)
  · rw [hout (by omega)]
    clear hr hout h c0
    generalize wd L = p at *
    generalize L.length = n at *
    go_enter Tryd.func67, Tryd.ntmps67
    go_wp2_with fail
    refine hz.mono ?_
    rintro e w1 ⟨rfl, m, rfl⟩
    go_wp2_with fail
    go_ret
    exact ⟨rfl, _, rfl⟩
  by_cases hy1 : y ≥ (L.length : Int)
  · rw [hout (by omega)]
    clear hr hout h c0
    generalize wd L = p at *
    generalize L.length = n at *
    go_enter Tryd.func67, Tryd.ntmps67
    go_wp2_with fail
    refine hz.mono ?_
    rintro e w1 ⟨rfl, m, rfl⟩
    go_wp2_with fail
    go_ret
    exact ⟨rfl, _, rfl⟩
  obtain ⟨X, rfl⟩ : ∃ X : Nat, x = X := ⟨x.toNat, by omega⟩
  obtain ⟨Y, rfl⟩ : ∃ Y : Nat, y = Y := ⟨y.toNat, by omega⟩
  obtain ⟨k, c, _, q1, q2⟩ := hr Y (by omega)
  have q3 := q2 X (by omega)
  have tX : (X : Int).toNat = X := by omega
  have tY : (Y : Int).toNat = Y := by omega
  clear hr hout h q2
  generalize cel L X Y = u at *
  generalize wd L = p at *
  generalize L.length = n at *
  go_enter Tryd.func67, Tryd.ntmps67
  go_wp2_with fail
  refine hz.mono ?_
  rintro e w1 ⟨rfl, m, hw⟩
  have c0 : w1.cell? ⟨kb, 0, none⟩ = some (.slice (some ⟨kr, 0, none⟩) n cr) := by rw [hw]; exact c0
  have q1 : w1.cell? ⟨kr, Y, none⟩ = some (.slice (some ⟨k, 0, none⟩) p c) := by rw [hw]; exact q1
  have q3 : w1.cell? ⟨k, X, none⟩ = some (.int .i32 u) := by rw [hw]; exact q3
  have HW := Keep.mk hw
  clear hz hw
  go_wp2_with fail
  go_ret
  exact ⟨rfl, _, HW.out⟩
/-- the cell of a number, rounded down -/
def fl (n : Int) : Int := n / 524288
set_option maxRecDepth 100000 in
set_option maxHeartbeats 4000000 in
theorem rfloor_c (w : World) (n : Int) (hn : In n) : Calls Tryd.prog 68 #[iv n] w fun e w' => e = .returned (iv (fl n)) ∧ w' = w := by
  unfold fl
  by_cases h0 : 0 ≤ n
  · have e1 : n.tdiv 524288 = n / 524288 := Int.tdiv_eq_ediv_of_nonneg h0
    have e2 : n.tmod 524288 = n % 524288 := Int.tmod_eq_emod_of_nonneg h0
    have k1 : IntKind.i64.wrap (n / 524288) = n / 524288 := wi _ (by omega) (by omega)
    have k2 : ¬ n % 524288 < 0 := by omega
    go_enter Tryd.func68, Tryd.ntmps68
    go_wp2_with fail
    go_ret
    exact ⟨rfl, rfl⟩
  · have e1 : n.tdiv 524288 = -((-n) / 524288) := by
      rw [← Int.tdiv_eq_ediv_of_nonneg (by omega : 0 ≤ -n), Int.neg_tdiv, Int.neg_neg]
    have e2 : n.tmod 524288 = -((-n) % 524288) := by
      rw [← Int.tmod_eq_emod_of_nonneg (by omega : 0 ≤ -n), Int.neg_tmod, Int.neg_neg]
    by_cases hm : n.tmod 524288 < 0
    · have k1 : IntKind.i64.wrap (n.tdiv 524288) = n.tdiv 524288 := wi _ (by omega) (by omega)
      have k2 : IntKind.i64.wrap (n.tdiv 524288 - 1) = n / 524288 := by rw [wi _ (by omega) (by omega)]; omega
      have k3 : IntKind.i64.wrap (n.tmod 524288) = n.tmod 524288 := wi _ (by omega) (by omega)
      clear e1 e2
      go_enter Tryd.func68, Tryd.ntmps68
      go_wp2_with fail
      go_ret
      exact ⟨rfl, rfl⟩
    · have k1 : IntKind.i64.wrap (n.tdiv 524288) = n / 524288 := by rw [wi _ (by omega) (by omega)]; omega
      have k3 : IntKind.i64.wrap (n.tmod 524288) = n.tmod 524288 := wi _ (by omega) (by omega)
      clear e1 e2
      go_enter Tryd.func68, Tryd.ntmps68
      go_wp2_with fail
      go_ret
      exact ⟨rfl, rfl⟩
set_option maxRecDepth 100000 in
set_option maxHeartbeats 4000000 in
theorem rone_c (w : World) (r : Int) : Calls Tryd.prog 40 #[.int .i32 r] w fun e w' => e = .returned (.tuple #[.int .i32 (mn r), .bool (decide (mn r ≠ 0))]) ∧ w' = w := by
  unfold mn
  by_cases h1 : r = 35
  · subst h1
    go_enter Tryd.func40, Tryd.ntmps40
    go_wp2_with fail
    go_ret2
    exact ⟨rfl, rfl⟩
  by_cases h2 : r = 9608
  · subst h2
    go_enter Tryd.func40, Tryd.ntmps40
    go_wp2_with fail
    go_ret2
    exact ⟨rfl, rfl⟩
  rw [if_neg (by omega)]
  by_cases h3 : r = 46
  · subst h3
    go_enter Tryd.func40, Tryd.ntmps40
    go_wp2_with fail
    go_ret2
    exact ⟨rfl, rfl⟩
  by_cases h4 : r = 32
  · subst h4
    go_enter Tryd.func40, Tryd.ntmps40
    go_wp2_with fail
    go_ret2
    exact ⟨rfl, rfl⟩
  rw [if_neg (by omega)]
  by_cases h5 : r = 83
  · subst h5
    go_enter Tryd.func40, Tryd.ntmps40
    go_wp2_with fail
    go_ret2
    exact ⟨rfl, rfl⟩
  by_cases h6 : r = 69
  · subst h6
    go_enter Tryd.func40, Tryd.ntmps40
    go_wp2_with fail
    go_ret2
    exact ⟨rfl, rfl⟩
  by_cases h7 : r = 65
  · subst h7
    go_enter Tryd.func40, Tryd.ntmps40
    go_wp2_with fail
    go_ret2
    exact ⟨rfl, rfl⟩
  rw [if_neg (by omega)]
  go_enter Tryd.func40, Tryd.ntmps40
  go_wp2_with fail
  go_ret2
  exact ⟨rfl, rfl⟩
set_option maxRecDepth 100000 in
theorem cel_fl {L : Bo} (he : ev L) (x y : Int) : cel L (fl x) (fl y) = atL L (x, y) := by
  have b1 : 3 ≤ wd L ∧ wd L ≤ 64 := he.2.1
  have b2 : 3 ≤ L.length ∧ L.length ≤ 64 := he.1
  have hx : fl x = nm x ∨ (fl x < 0 ∧ nm x < 0) ∨ (64 ≤ fl x ∧ 64 ≤ nm x) := by
    unfold fl nm
    split <;> omega
  have hy : fl y = nm y ∨ (fl y < 0 ∧ nm y < 0) ∨ (64 ≤ fl y ∧ 64 ≤ nm y) := by
    unfold fl nm
    split <;> omega
  unfold atL
  simp only
  rcases hx with hx | hx | hx
  · rw [hx]
    rcases hy with hy | hy | hy
    · rw [hy]
    · rw [cel_out he (.inr (.inl hy.1)), cel_out he (.inr (.inl hy.2))]
    · rw [cel_out he (.inr (.inr (.inr (by omega)))), cel_out he (.inr (.inr (.inr (by omega))))]
  · rw [cel_out he (.inl hx.1), cel_out he (.inl hx.2)]
  · rw [cel_out he (.inr (.inr (.inl (by omega)))), cel_out he (.inr (.inr (.inl (by omega))))]
set_option maxRecDepth 100000 in
set_option maxHeartbeats 4000000 in
theorem rat_c (w : World) (v : Value) (L : Bo) (h : RB w v L) (x y : Int) (hx : In x) (hy : In y) : Calls Tryd.prog 61 #[v, vv x y] w fun e w' => e = .returned (.int .i32 (atL L (x, y))) ∧ w.grownBy w' none := by
  have h1 := h.kept (World.grownBy_alloc w (.cells #[iv x, iv y] 24) none)
  have HC := Keep.mk (fun a b m => rcell_c _ _ _ (h1.kept (gr_drewN _ m none)) a b)
  have HX := Keep.mk (fun W => rfloor_c W x hx)
  have HY := Keep.mk (fun W => rfloor_c W y hy)
  have z := Has.newA w #[iv x, iv y] 24
  have z0 := z.cellv 0 _ rfl
  have z1 := z.cellv 1 _ rfl
  rw [← cel_fl h.sh]
  clear h h1 hx hy z
  go_enter Tryd.func61, Tryd.ntmps61
  go_wp2_with fail
  go_quiet (first | (go_at_call 68; first | with_reducible exact Calls.quiet_of_same (HX.out _) | with_reducible exact Calls.quiet_of_same (HY.out _)) | (go_at_call 67; exact Calls.quiet_of (HC.out _ _ _)))
  go_wp2_with fail
  go_ret
  exact ⟨rfl, (World.grownBy_alloc _ _ _).trans (gr_drewN _ _ _)⟩
set_option maxRecDepth 100000 in
set_option maxHeartbeats 4000000 in
theorem rsolid_c (w : World) (v : Value) (L : Bo) (h : RB w v L) (x y : Int) (hx : In x) (hy : In y) : Calls Tryd.prog 43 #[v, vv x y] w fun e w' => e = .returned (.bool (decide (atL L (x, y) = 35))) ∧ w.grownBy w' none := by
  have h1 := h.kept (World.grownBy_alloc w (.cells #[iv x, iv y] 24) none)
  have HC := Keep.mk (rat_c _ _ _ h1 x y hx hy)
  have z := Has.newA w #[iv x, iv y] 24
  have z0 := z.cellv 0 _ rfl
  have z1 := z.cellv 1 _ rfl
  clear h h1 hx hy z
  generalize atL L (x, y) = q at *
  go_enter Tryd.func43, Tryd.ntmps43
  go_wp2_with fail
  refine HC.out.mono ?_
  rintro e w1 ⟨rfl, g1⟩
  have HG := Keep.mk ((World.grownBy_alloc _ _ _).trans g1)
  clear HC g1 z0 z1
  go_wp2_with fail
  go_ret
  exact ⟨rfl, HG.out⟩
end Go.Proofs.YtmacmoikjgmaoaaDoor.Bo
