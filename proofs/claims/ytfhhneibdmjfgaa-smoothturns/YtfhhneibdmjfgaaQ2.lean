/- the small functions over float32 -/
import Derived.Test.YtfhhneibdmjfgaaQ1
namespace Go.Proofs.Ytfhhneibdmjfgaa
open Go Go.RowKit Ieee Fx
namespace Sm
set_option maxRecDepth 100000

theorem along_c (f w s : Nat) (W : World) :
    Calls Try.prog 31 #[.float .f32 f, .float .f32 w, .float .f32 s] W fun e W' => (∃ v, e = .returned v ∧ FV v (alongV (V f) (V w) (V s))) ∧ W.grownBy W' none := by
  obtain ⟨r, q, hr, hV⟩ := mul_run (P := Try.prog) 30 w s W
  obtain ⟨r2, q2, hr2, hV2⟩ := add_run (P := Try.prog) 30 f r (W.drewN q)
  rw [hV] at hV2
  clear hV
  have H : V r2 = alongV (V f) (V w) (V s) := hV2
  clear hV2
  go_enter Try.func31, Try.ntmps31
  go_wp2_with fail
  go_ret
  exact ⟨⟨_, rfl, _, rfl, H⟩, gr_drewN _ _ _⟩
theorem plus_c (f w : Nat) (W : World) :
    Calls Try.prog 30 #[.float .f32 f, .float .f32 w] W fun e W' => (∃ v, e = .returned v ∧ FV v (oadd (V f) (V w))) ∧ W.grownBy W' none := by
  obtain ⟨r, q, hr, H⟩ := add_run (P := Try.prog) 30 f w W
  go_enter Try.func30, Try.ntmps30
  go_wp2_with fail
  go_ret
  exact ⟨⟨_, rfl, _, rfl, H⟩, gr_drewN _ _ _⟩
theorem less_c (f w : Nat) (W : World) :
    Calls Try.prog 34 #[.float .f32 f, .float .f32 w] W fun e W' => (∃ v, e = .returned v ∧ FV v (osub (V f) (V w))) ∧ W.grownBy W' none := by
  obtain ⟨r, q, hr, H⟩ := sub_run (P := Try.prog) 30 f w W
  go_enter Try.func34, Try.ntmps34
  go_wp2_with fail
  go_ret
  exact ⟨⟨_, rfl, _, rfl, H⟩, gr_drewN _ _ _⟩
theorem times_c (f w : Nat) (W : World) :
    Calls Try.prog 35 #[.float .f32 f, .float .f32 w] W fun e W' => (∃ v, e = .returned v ∧ FV v (omul (V f) (V w))) ∧ W.grownBy W' none := by
  obtain ⟨r, q, hr, H⟩ := mul_run (P := Try.prog) 30 f w W
  go_enter Try.func35, Try.ntmps35
  go_wp2_with fail
  go_ret
  exact ⟨⟨_, rfl, _, rfl, H⟩, gr_drewN _ _ _⟩
theorem quo_is (a : Int) (w : World) : (binOp .quo 30 (.float .f32 (floatOfInt .f32 a)) (.float .f32 1199570944)).run Try.prog w = .ok (.float .f32 (fl a)) w :=
  run_float_arith w .quo 30 .f32 _ _ _ (fl_some a)
theorem float_c (a : Int) (w : World) : Calls Try.prog 28 #[.int .i64 a] w fun e w' => e = .returned (.float .f32 (fl a)) ∧ w' = w := by
  have q := quo_is a
  go_enter Try.func28, Try.ntmps28
  go_wp2_with fail
  go_ret
  exact ⟨rfl, rfl⟩
theorem rfloat_c (a : Int) (w : World) : Calls Try.prog 36 #[.int .i64 a] w fun e w' => e = .returned (.float .f32 (fl a)) ∧ w' = w := by
  have q := quo_is a
  go_enter Try.func36, Try.ntmps36
  go_wp2_with fail
  go_ret
  exact ⟨rfl, rfl⟩
theorem short_c (x : Nat) (W : World) :
    Calls Try.prog 33 #[.float .f32 x] W fun e W' => (∃ v, e = .returned v ∧ FV v (shortV (V x))) ∧ W.grownBy W' none := by
  have o1 := order_V x 1127481344
  have o2 := order_V x 3274964992
  rw [V180] at o1
  rw [Vn180] at o2
  cases h1 : gtB (V x) k180
  · have d1 : (FloatKind.f32.format.order x 1127481344 == some .gt) = false := by rw [o1]; exact h1
    cases h2 : ltB (V x) kn180
    · have d2 : (FloatKind.f32.format.order x 3274964992 == some .lt) = false := by rw [o2]; exact h2
      have H : shortV (V x) = V x := by unfold shortV; rw [h1, h2]; rfl
      rw [H]
      clear o1 o2 h1 h2 H
      go_enter Try.func33, Try.ntmps33
      go_wp2_with fail
      go_ret
      exact ⟨⟨_, rfl, _, rfl, rfl⟩, World.grownBy.refl _ _⟩
    · have d2 : (FloatKind.f32.format.order x 3274964992 == some .lt) = true := by rw [o2]; exact h2
      obtain ⟨r, q, hr, H⟩ := add_run (P := Try.prog) 30 x 1135869952 W
      have H2 : V r = shortV (V x) := by unfold shortV; rw [H, h1, h2, V360]; rfl
      clear o1 o2 h1 h2 H
      go_enter Try.func33, Try.ntmps33
      go_wp2_with fail
      go_ret
      exact ⟨⟨_, rfl, _, rfl, H2⟩, gr_drewN _ _ _⟩
  · have d1 : (FloatKind.f32.format.order x 1127481344 == some .gt) = true := by rw [o1]; exact h1
    obtain ⟨r, q, hr, H⟩ := sub_run (P := Try.prog) 30 x 1135869952 W
    have H2 : V r = shortV (V x) := by unfold shortV; rw [H, h1, V360]; rfl
    clear o1 o2 h1 H
    go_enter Try.func33, Try.ntmps33
    go_wp2_with fail
    go_ret
    exact ⟨⟨_, rfl, _, rfl, H2⟩, gr_drewN _ _ _⟩
theorem geq_is (x y : Nat) {b : Bool} {X Y : OF} (hx : V x = X) (hy : V y = Y) (h : geB X Y = b) : (FloatKind.f32.format.order x y == some .gt || FloatKind.f32.format.order x y == some .eq) = b := by
  rw [order_V, hx, hy]; exact h
theorem lss_is (x y : Nat) {b : Bool} {X Y : OF} (hx : V x = X) (hy : V y = Y) (h : ltB X Y = b) : (FloatKind.f32.format.order x y == some .lt) = b := by
  rw [order_V, hx, hy]; exact h
theorem gtr_is (x y : Nat) {b : Bool} {X Y : OF} (hx : V x = X) (hy : V y = Y) (h : gtB X Y = b) : (FloatKind.f32.format.order x y == some .gt) = b := by
  rw [order_V, hx, hy]; exact h
theorem turn_c (x : Nat) (W : World) :
    Calls Try.prog 32 #[.float .f32 x] W fun e W' => (∃ v, e = .returned v ∧ FV v (turnV (V x))) ∧ W.grownBy W' none := by
  cases h1 : geB (V x) k360
  · have d1 := geq_is x 1135869952 rfl V360 h1
    cases h2 : ltB (V x) k0
    · have d2 := lss_is x 0 rfl V0 h2
      have H : V x = turnV (V x) := by unfold turnV turnC; rw [h1]; simp only [Bool.false_eq_true, if_false, h2]
      clear h1 h2
      go_enter Try.func32, Try.ntmps32
      go_wp2_with fail
      go_ret
      exact ⟨⟨_, rfl, _, rfl, H⟩, World.grownBy.refl _ _⟩
    · have d2 := lss_is x 0 rfl V0 h2
      obtain ⟨r, q, hr, H⟩ := add_run (P := Try.prog) 30 x 1135869952 W
      rw [V360] at H
      cases h3 : geB (oadd (V x) k360) k360
      · have d3 := geq_is r 1135869952 H V360 h3
        have H2 : V r = turnV (V x) := by unfold turnV turnC; rw [h1]; simp only [Bool.false_eq_true, if_false, h2, h3, if_true]; exact H
        clear h1 h2 h3 H
        go_enter Try.func32, Try.ntmps32
        go_wp2_with fail
        go_ret
        exact ⟨⟨_, rfl, _, rfl, H2⟩, gr_drewN _ _ _⟩
      · have d3 := geq_is r 1135869952 H V360 h3
        have H2 : V 0 = turnV (V x) := by unfold turnV turnC; rw [h1]; simp only [Bool.false_eq_true, if_false, h2, h3, if_true]; exact V0
        clear h1 h2 h3 H
        go_enter Try.func32, Try.ntmps32
        go_wp2_with fail
        go_ret
        exact ⟨⟨_, rfl, _, rfl, H2⟩, gr_drewN _ _ _⟩
  · have d1 := geq_is x 1135869952 rfl V360 h1
    obtain ⟨y, qy, hy, HY⟩ := sub_run (P := Try.prog) 30 x 1135869952 W
    rw [V360] at HY
    cases h2 : ltB (osub (V x) k360) k0
    · have d2 := lss_is y 0 HY V0 h2
      have H : V y = turnV (V x) := by unfold turnV turnC; rw [h1]; simp only [if_true, h2, Bool.false_eq_true, if_false]; exact HY
      clear h1 h2 HY
      go_enter Try.func32, Try.ntmps32
      go_wp2_with fail
      go_ret
      exact ⟨⟨_, rfl, _, rfl, H⟩, gr_drewN _ _ _⟩
    · have d2 := lss_is y 0 HY V0 h2
      obtain ⟨r, q, hr, H⟩ := add_run (P := Try.prog) 30 y 1135869952 (W.drewN qy)
      rw [V360, HY] at H
      cases h3 : geB (oadd (osub (V x) k360) k360) k360
      · have d3 := geq_is r 1135869952 H V360 h3
        have H2 : V r = turnV (V x) := by unfold turnV turnC; rw [h1]; simp only [Bool.false_eq_true, if_false, h2, h3, if_true]; exact H
        clear h1 h2 h3 H HY
        go_enter Try.func32, Try.ntmps32
        go_wp2_with fail
        go_ret
        exact ⟨⟨_, rfl, _, rfl, H2⟩, gr_drewN _ _ _⟩
      · have d3 := geq_is r 1135869952 H V360 h3
        have H2 : V 0 = turnV (V x) := by unfold turnV turnC; rw [h1]; simp only [h2, h3, if_true]; exact V0
        clear h1 h2 h3 H HY
        go_enter Try.func32, Try.ntmps32
        go_wp2_with fail
        go_ret
        exact ⟨⟨_, rfl, _, rfl, H2⟩, gr_drewN _ _ _⟩
/-- two floats of one value -/
theorem alike_c (g h : Nat) (hv : V g = V h) (w : World) : Calls Try.prog 12 #[.float .f32 g, .float .f32 h] w fun e w' => e = .returned (.bool true) ∧ w' = w := by
  have o1 := order_V g h
  have o2 := order_V g g
  have o3 := order_V h h
  rw [hv, ord_self_V] at o1
  rw [ord_self_V] at o2 o3
  have hn : isN g = isN h := by
    cases a : isN g
    · cases b : isN h
      · rfl
      · rw [V_num a, V_nan b] at hv; cases hv
    · cases b : isN h
      · rw [V_nan a, V_num b] at hv; cases hv
      · rfl
  rw [hn] at o2
  clear hn hv
  cases b : isN h
  · rw [b] at o1 o2 o3
    simp only [Bool.false_eq_true, if_false] at o1 o2 o3
    clear b
    go_enter Try.func12, Try.ntmps12
    go_wp2_with fail
    go_ret
    exact ⟨rfl, rfl⟩
  · rw [b] at o1 o2 o3
    simp only [if_true] at o1 o2 o3
    clear b
    go_enter Try.func12, Try.ntmps12
    go_wp2_with fail
    go_ret
    exact ⟨rfl, rfl⟩
end Sm
end Go.Proofs.Ytfhhneibdmjfgaa
