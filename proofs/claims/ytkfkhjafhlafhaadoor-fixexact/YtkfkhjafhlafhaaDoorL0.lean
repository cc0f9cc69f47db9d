/- the laws' fixed, within -/
import Derived.Test.YtkfkhjafhlafhaaDoorG1
import Derived.Test.YtkfkhjafhlafhaaDoorG2
import Derived.Test.YtkfkhjafhlafhaaDoorS1
import Derived.Test.YtkfkhjafhlafhaaDoorT1
namespace Go.Proofs.YtkfkhjafhlafhaaDoor
open Go Go.RowKit

theorem in_small (a : Int) (h1 : -1000000000000 ≤ a) (h2 : a ≤ 1000000000000) : In a := by unfold In; omega

set_option maxHeartbeats 2000000 in
theorem fixed_c (w : World) (hk : Kc w) :
    Calls Tryd.prog 8 #[] w fun e w' => e = .returned (.bool true) ∧ w.grownBy w' none := by
  have c1 := clamp_c 5 0 3 w
  rw [show clampZ 5 0 3 = 3 by decide] at c1
  have c2 := add_c 3 (-5) (in_small _ (by decide) (by decide)) (in_small _ (by decide) (by decide)) w
  rw [show addZ 3 (-5) = -2 by decide] at c2
  have c3 := mul_c 98304 98304 (in_small _ (by decide) (by decide)) (in_small _ (by decide) (by decide)) w
  rw [show mulZ 98304 98304 = 147456 by decide] at c3
  have c4 := mul_c (-1) 1 (in_small _ (by decide) (by decide)) (in_small _ (by decide) (by decide)) w
  rw [show mulZ (-1) 1 = -1 by decide] at c4
  have c5 := div_c (-1) 3 (in_small _ (by decide) (by decide)) (in_small _ (by decide) (by decide)) w
  rw [show divZ (-1) 3 = -21846 by decide] at c5
  have c6 := root_c 131072 (in_small _ (by decide) (by decide))
  rw [show rootZ 131072 = 92681 from rootZ_of (by decide) ⟨by decide, by decide, by decide⟩] at c6
  have c7 := sin_c 32
  rw [show sinZ 32 = 46341 by decide] at c7
  have c8 := cos_c 1
  rw [show sinZ (1 + 64) = 65516 by decide] at c8
  have c9 := float_c (-32768)
  rw [Fx.fl_half] at c9
  have c10 := of_c 1069547520
  rw [Fx.of_15] at c10
  have o : FloatKind.f32.format.order 3204448256 3204448256 = some .eq := by decide
  go_enter Tryd.func8, Tryd.ntmps8
  go_wp2_with fail
  refine c1.mono ?_
  rintro e w' ⟨rfl, hw⟩; rw [hw]
  go_wp2_with fail
  refine c2.mono ?_
  rintro e w' ⟨rfl, hw⟩; rw [hw]
  go_wp2_with fail
  refine c3.mono ?_
  rintro e w' ⟨rfl, hw⟩; rw [hw]
  go_wp2_with fail
  refine c4.mono ?_
  rintro e w' ⟨rfl, hw⟩; rw [hw]
  go_wp2_with fail
  refine c5.mono ?_
  rintro e w1 ⟨rfl, hg⟩
  have hk1 := hk.kept hg
  have c7' := c7 w1 hk1
  have c8' := c8 w1 hk1
  have HG := Keep.mk hg
  clear hg hk1 hk c7 c8 c1 c2 c3 c4 c5
  go_wp2_with fail
  refine (c6 _).mono ?_
  rintro e w' ⟨rfl, hw⟩; rw [hw]
  go_wp2_with fail
  refine c7'.mono ?_
  rintro e w' ⟨rfl, hw⟩; rw [hw]
  go_wp2_with fail
  refine c8'.mono ?_
  rintro e w' ⟨rfl, hw⟩; rw [hw]
  go_wp2_with fail
  refine (c9 _).mono ?_
  rintro e w' ⟨rfl, hw⟩; rw [hw]
  go_wp2_with fail
  refine (c10 _).mono ?_
  rintro e w2 ⟨rfl, hg2⟩
  have HG2 := Keep.mk (HG.out.trans hg2)
  clear hg2
  go_wp2_with fail
  go_ret
  exact ⟨rfl, HG2.out⟩

theorem within_c (x : Int) (h1 : -1099511627776 ≤ x) (h2 : x ≤ 1099511627776) (w : World) :
    Calls Tryd.prog 13 #[.int .i64 x] w fun e w' => e = .returned (.bool true) ∧ w' = w := by
  go_enter Tryd.func13, Tryd.ntmps13
  go_wp2_with fail
  go_ret
  exact ⟨rfl, rfl⟩
end Go.Proofs.YtkfkhjafhlafhaaDoor
