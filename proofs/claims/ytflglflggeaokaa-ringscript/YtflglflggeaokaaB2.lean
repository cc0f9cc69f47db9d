/- the laws' alive. -/
import Derived.Test.YtflglflggeaokaaB1
namespace Go.Proofs.Ytflglflggeaokaa
open Go Go.RowKit

set_option maxRecDepth 100000 in
set_option maxHeartbeats 4000000 in
theorem alive_c (w : World) : Calls Try.prog 8 #[] w fun e w' => e = .returned (.bool true) ∧ w.grownBy w' none := by
  have hn := my_new w 3 w (World.grownBy.refl _ _) (by decide) (by decide)
  go_enter Try.func8, Try.ntmps8
  go_wp2_with fail
  refine hn.mono ?_
  rintro e w1 ⟨rfl, m1, _, _⟩
  have M1 : Keep (Mine w w1 w.heap.size 3 []) := ⟨m1⟩
  clear m1 hn
  go_wp2_with ((go_at_call 10; refine (num_c _ _).mono ?_; rintro e w' ⟨rfl, hw⟩; subst w'))
  refine (my_push M1.out 7 (by decide)).mono ?_
  rintro e w2 ⟨rfl, m2⟩
  have M2 : Keep (Mine w w2 w.heap.size 3 [7]) := ⟨m2⟩
  clear m2 M1
  go_wp2_with ((go_at_call 10; refine (num_c _ _).mono ?_; rintro e w' ⟨rfl, hw⟩; subst w'))
  refine (my_push M2.out 8 (by decide)).mono ?_
  rintro e w3 ⟨rfl, m3⟩
  have M3 : Keep (Mine w w3 w.heap.size 3 [7, 8]) := ⟨m3⟩
  clear m3 M2
  go_wp2_with ((go_at_call 10; refine (num_c _ _).mono ?_; rintro e w' ⟨rfl, hw⟩; subst w'))
  refine (my_push M3.out 9 (by decide)).mono ?_
  rintro e w4 ⟨rfl, m4⟩
  have M4 : Keep (Mine w w4 w.heap.size 3 [7, 8, 9]) := ⟨m4⟩
  clear m4 M3
  go_wp2_with ((go_at_call 10; refine (num_c _ _).mono ?_; rintro e w' ⟨rfl, hw⟩; subst w'))
  refine (my_full M4.out 1 rfl).mono ?_
  rintro e w5 ⟨rfl, m5⟩
  have M5 : Keep (Mine w w5 w.heap.size 3 [7, 8, 9]) := ⟨m5⟩
  clear m5 M4
  go_wp2_with ((go_at_call 10; refine (num_c _ _).mono ?_; rintro e w' ⟨rfl, hw⟩; subst w'))
  refine (my_pop M5.out).mono ?_
  rintro e w6 ⟨rfl, m6⟩
  have M6 : Keep (Mine w w6 w.heap.size 3 [8, 9]) := ⟨m6⟩
  clear m6 M5
  go_wp2_with fail
  refine (my_push M6.out 1 (by decide)).mono ?_
  rintro e w7 ⟨rfl, m7⟩
  have M7 : Keep (Mine w w7 w.heap.size 3 [8, 9, 1]) := ⟨m7⟩
  clear m7 M6
  go_wp2_with ((go_at_call 10; refine (num_c _ _).mono ?_; rintro e w' ⟨rfl, hw⟩; subst w'))
  refine (my_take M7.out 2 2 rfl).mono ?_
  rintro e w8 ⟨rfl, m8, h8⟩
  have M8 : Keep (Mine w w8 w.heap.size 3 [1] ∧ Has w8 w7.heap.size ([8, 9].map iv) 3) := ⟨m8, h8⟩
  clear m8 h8 M7
  go_wp2_with fail
  have HA : Keep (w8.grownBy (w8.alloc (.cells #[.int .i64 8, .int .i64 9] 3)) none ∧ Ints (w8.alloc (.cells #[.int .i64 8, .int .i64 9] 3)) (some ⟨w8.heap.size, 0, none⟩) 2 [8, 9]) := ⟨World.grownBy_alloc _ _ _, Ints.of (xs := [8, 9]) (t := 3) (Has.newA w8 #[.int .i64 8, .int .i64 9] 3)⟩
  refine (same_c _ _ 2 2 2 2 [8, 9] [8, 9] _ ((Ints.of M8.out.2).kept HA.out.1) HA.out.2 (by decide) (by decide)).mono ?_
  rintro e w9 ⟨rfl, k, hw9⟩
  have M9 : Keep (Mine w w9 w.heap.size 3 [1]) := ⟨by rw [hw9]; exact (M8.out.1.grown HA.out.1).drewN k⟩
  have hd : decide ([8, 9] = ([8, 9] : List Int)) = true := by decide
  clear hw9 M8 HA
  go_wp2_with fail
  refine (my_len M9.out).mono ?_
  rintro e w' ⟨rfl, hw⟩
  subst w'
  go_wp2_with fail
  refine (my_room M9.out).mono ?_
  rintro e w10 ⟨rfl, n, hw⟩
  have M10 : Keep (w.grownBy w10 none) := ⟨by rw [hw]; exact (M9.out.drewN n).g⟩
  clear hw M9
  go_wp2_with fail
  go_ret
  exact ⟨rfl, M10.out⟩
end Go.Proofs.Ytflglflggeaokaa
