/- board: meant, At, Solid, Blocked. -/
import Derived.Test.YtmacmoikjgmaoaaDoorBA1
namespace Go.Proofs.YtmacmoikjgmaoaaDoor.Bo
open Go Go.RowKit

abbrev vv (x y : Int) : Value := .agg #[iv x, iv y]
set_option maxRecDepth 100000 in
set_option maxHeartbeats 4000000 in
theorem meant_c (w : World) (r : Int) : Calls Tryd.prog 45 #[.int .i32 r] w fun e w' => e = .returned (.int .u8 (mn r)) ∧ w' = w := by
  unfold mn
  by_cases h1 : r = 35
  · rw [if_pos (.inl h1)]
    subst h1
    go_enter Tryd.func45, Tryd.ntmps45
    go_wp2_with fail
    go_ret
    exact ⟨rfl, rfl⟩
  by_cases h2 : r = 9608
  · rw [if_pos (.inr h2)]
    subst h2
    go_enter Tryd.func45, Tryd.ntmps45
    go_wp2_with fail
    go_ret
    exact ⟨rfl, rfl⟩
  rw [if_neg (by omega)]
  by_cases h3 : r = 46
  · rw [if_pos (.inl h3)]
    subst h3
    go_enter Tryd.func45, Tryd.ntmps45
    go_wp2_with fail
    go_ret
    exact ⟨rfl, rfl⟩
  by_cases h4 : r = 32
  · rw [if_pos (.inr h4)]
    subst h4
    go_enter Tryd.func45, Tryd.ntmps45
    go_wp2_with fail
    go_ret
    exact ⟨rfl, rfl⟩
  rw [if_neg (by omega)]
  by_cases h5 : r = 83 ∨ r = 69 ∨ r = 65
  · rw [if_pos h5]
    rcases h5 with h5 | h5 | h5
    · subst h5
      go_enter Tryd.func45, Tryd.ntmps45
      go_wp2_with fail
      go_ret
      exact ⟨rfl, rfl⟩
    · subst h5
      go_enter Tryd.func45, Tryd.ntmps45
      go_wp2_with fail
      go_ret
      exact ⟨rfl, rfl⟩
    · subst h5
      go_enter Tryd.func45, Tryd.ntmps45
      go_wp2_with fail
      go_ret
      exact ⟨rfl, rfl⟩
  · rw [if_neg h5]
    have h6 : r ≠ 83 := by omega
    have h7 : r ≠ 69 := by omega
    have h8 : r ≠ 65 := by omega
    clear h5
    go_enter Tryd.func45, Tryd.ntmps45
    go_wp2_with fail
    go_ret
    exact ⟨rfl, rfl⟩
set_option maxRecDepth 100000 in
set_option maxHeartbeats 4000000 in
theorem at_c (w : World) (v : Value) (L : Bo) (h : Bd w v L) (x y : Int) (hx : In x) (hy : In y) : Calls Tryd.prog 30 #[v, vv x y] w fun e w' => e = .returned (.int .i32 (atL L (x, y))) ∧ w.grownBy w' none := by
  have h1 := h.kept (World.grownBy_alloc w (.cells #[iv x, iv y] 24) none)
  have HC := Keep.mk (fun a b m => cell_c _ _ _ (h1.kept (gr_drewN _ m none)) a b)
  have HX := Keep.mk (fun W => number_c W x hx)
  have HY := Keep.mk (fun W => number_c W y hy)
  have z := Has.newA w #[iv x, iv y] 24
  have z0 := z.cellv 0 _ rfl
  have z1 := z.cellv 1 _ rfl
  unfold atL
  clear h h1 hx hy z
  go_enter Tryd.func30, Tryd.ntmps30
  go_wp2_with fail
  go_quiet (first | (go_at_call 52; first | exact Calls.quiet_of_same (HX.out _) | exact Calls.quiet_of_same (HY.out _)) | (go_at_call 47; exact Calls.quiet_of_same (HC.out _ _ _)))
  go_wp2_with fail
  go_ret
  exact ⟨rfl, (World.grownBy_alloc _ _ _).trans (gr_drewN _ _ _)⟩
set_option maxRecDepth 100000 in
theorem underT32 : ∃ d, Tryd.prog.underlying 24 = some d ∧ d.isRow = true := ⟨_, Tryd.underlying24, rfl⟩
set_option maxRecDepth 100000 in
theorem infoT32 : (Tryd.prog.info? 24).map (·.size) = some 2 := by kernel_rfl
set_option maxRecDepth 100000 in
set_option maxHeartbeats 4000000 in
theorem solid_c (w : World) (v : Value) (L : Bo) (h : Bd w v L) (x y : Int) (hx : In x) (hy : In y) : Calls Tryd.prog 13 #[v, vv x y] w fun e w' => e = .returned (.bool (decide (atL L (x, y) = 35))) ∧ w.grownBy w' none := by
  have h1 := h.kept (World.grownBy_alloc w (.cells #[iv x, iv y] 24) none)
  have HC := Keep.mk (at_c _ _ _ h1 x y hx hy)
  have z := Has.newA w #[iv x, iv y] 24
  have z0 := z.cellv 0 _ rfl
  have z1 := z.cellv 1 _ rfl
  clear h h1 hx hy z
  generalize atL L (x, y) = q at *
  go_enter Tryd.func13, Tryd.ntmps13
  go_wp2_with fail
  refine HC.out.mono ?_
  rintro e w1 ⟨rfl, g1⟩
  have HG := Keep.mk ((World.grownBy_alloc _ _ _).trans g1)
  clear HC g1 z0 z1
  go_wp2_with fail
  go_ret
  exact ⟨rfl, HG.out⟩
end Go.Proofs.YtmacmoikjgmaoaaDoor.Bo
