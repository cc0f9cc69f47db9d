/- Float, Of, alike -/
import Derived.Test.YtkfkhjafhlafhaaDoorF1
import Derived.Test.YtkfkhjafhlafhaaDoorPd
namespace Go.Proofs.YtkfkhjafhlafhaaDoor
open Go Go.RowKit Fx

theorem quo_run (a : Int) (W : World) : (binOp .quo 30 (.float .f32 (floatOfInt .f32 a)) (.float .f32 1199570944)).run Tryd.prog W = .ok (.float .f32 (fl a)) W :=
  run_float_arith W .quo 30 .f32 _ _ _ (fl_some a)

set_option maxHeartbeats 1000000 in
theorem float_c (a : Int) (w : World) :
    Calls Tryd.prog 19 #[.int .i64 a] w fun e w' => e = .returned (.float .f32 (fl a)) ∧ w' = w := by
  have q := quo_run a
  go_enter Tryd.func19, Tryd.ntmps19
  go_wp2_with fail
  go_ret
  exact ⟨rfl, rfl⟩
theorem rfloat_c (a : Int) (w : World) :
    Calls Tryd.prog 21 #[.int .i64 a] w fun e w' => e = .returned (.float .f32 (fl a)) ∧ w' = w := by
  have q := quo_run a
  go_enter Tryd.func21, Tryd.ntmps21
  go_wp2_with fail
  go_ret
  exact ⟨rfl, rfl⟩

/-- two floats of the same bits -/
theorem alike_c (g : Nat) (w : World) :
    Calls Tryd.prog 20 #[.float .f32 g, .float .f32 g] w fun e w' => e = .returned (.bool true) ∧ w' = w := by
  rcases order_same g with h | h
  · have o : FloatKind.f32.format.order g g = some .eq := h
    clear h
    go_enter Tryd.func20, Tryd.ntmps20
    go_wp2_with fail
    go_ret
    exact ⟨rfl, rfl⟩
  · have o : FloatKind.f32.format.order g g = none := h
    clear h
    go_enter Tryd.func20, Tryd.ntmps20
    go_wp2_with fail
    go_ret
    exact ⟨rfl, rfl⟩

theorem mul_some {b r : Nat} (h : Ieee.single.mul b 1199570944 = some r) (W : World) : (binOp .mul 30 (.float .f32 b) (.float .f32 1199570944)).run Tryd.prog W = .ok (.float .f32 r) W :=
  run_float_arith W .mul 30 .f32 _ _ _ h
theorem mul_none {b : Nat} (h : Ieee.single.mul b 1199570944 = none) (W : World) : ∃ r, (∃ s t, Ieee.single.read r = .nan s t) ∧ (binOp .mul 30 (.float .f32 b) (.float .f32 1199570944)).run Tryd.prog W = .ok (.float .f32 r) W.drew := by
  refine ⟨Question.cut (.nanBits .f32 b 1199570944) (W.tape W.drawn (.nanBits .f32 b 1199570944)), nan_cut _ _ _, ?_⟩
  have hm : FloatKind.f32.format.mul b 1199570944 = none := h
  simp [binOp, Op.floatArith, hm, Question.forced]
theorem conv_run {r : Nat} (h : floatToIntVal .f32 r .i64 = some (cutZ r)) (W : World) : (convert 30 2 (.float .f32 r)).run Tryd.prog W = .ok (.int .i64 (cutZ r)) W :=
  run_convert_float_int W 30 2 .f32 .i64 r _ (by kernel_rfl) (by kernel_rfl) h

set_option maxHeartbeats 1000000 in
theorem of_c (f : Nat) (w : World) :
    Calls Tryd.prog 22 #[.float .f32 f] w fun e w' => e = .returned (.int .i64 (ofZ f)) ∧ w.grownBy w' none := by
  rcases mul_cases f with ⟨hm, _⟩ | ⟨_, r, hm, hr⟩
  · rw [ofZ_nan hm]
    obtain ⟨r, ⟨s, t, hn⟩, hrun⟩ := mul_none hm w
    have nq : FloatKind.f32.format.order r r = none := order_none hn
    clear hm hn
    go_enter Tryd.func22, Tryd.ntmps22
    go_wp2_with fail
    go_ret
    exact ⟨rfl, gr_drew _ _⟩
  · rw [ofZ_some hm]
    have hrun := mul_some hm
    have nq : FloatKind.f32.format.order r r = some .eq := order_eq hr
    clear hm
    unfold ofR
    cases h1 : ge r 1400897536
    · have gq : (FloatKind.f32.format.order r 1400897536 == some .gt || FloatKind.f32.format.order r 1400897536 == some .eq) = false := h1
      simp only [Bool.false_eq_true, if_false]
      cases h2 : le r 3548381184
      · have lq : (FloatKind.f32.format.order r 3548381184 == some .lt || FloatKind.f32.format.order r 3548381184 == some .eq) = false := h2
        simp only [Bool.false_eq_true, if_false]
        have cv := conv_run (cutZ_some hr h1 h2)
        generalize cutZ r = z at *
        clear h1 h2 hr
        go_enter Tryd.func22, Tryd.ntmps22
        go_wp2_with fail
        go_ret
        exact ⟨rfl, World.grownBy.refl _ _⟩
      · have lq : (FloatKind.f32.format.order r 3548381184 == some .lt || FloatKind.f32.format.order r 3548381184 == some .eq) = true := h2
        simp only [if_true]
        clear h1 h2 hr
        go_enter Tryd.func22, Tryd.ntmps22
        go_wp2_with fail
        go_ret
        exact ⟨rfl, World.grownBy.refl _ _⟩
    · have gq : (FloatKind.f32.format.order r 1400897536 == some .gt || FloatKind.f32.format.order r 1400897536 == some .eq) = true := h1
      simp only [if_true]
      clear h1 hr
      go_enter Tryd.func22, Tryd.ntmps22
      go_wp2_with fail
      go_ret
      exact ⟨rfl, World.grownBy.refl _ _⟩

set_option maxHeartbeats 1000000 in
theorem rof_c (f : Nat) (w : World) :
    Calls Tryd.prog 23 #[.float .f32 f] w fun e w' => e = .returned (.int .i64 (ofZ f)) ∧ w' = w := by
  rcases mul_cases f with ⟨hm, s, t, hn⟩ | ⟨hf, r, hm, hr⟩
  · rw [ofZ_nan hm]
    have nq : FloatKind.f32.format.order f f = none := order_none hn
    clear hm hn
    go_enter Tryd.func23, Tryd.ntmps23
    go_wp2_with fail
    go_ret
    exact ⟨rfl, rfl⟩
  · rw [ofZ_some hm]
    have hrun := mul_some hm
    have nq : FloatKind.f32.format.order f f = some .eq := order_eq hf
    clear hm hf
    unfold ofR
    cases h1 : ge r 1400897536
    · have gq : (FloatKind.f32.format.order r 1400897536 == some .gt || FloatKind.f32.format.order r 1400897536 == some .eq) = false := h1
      simp only [Bool.false_eq_true, if_false]
      cases h2 : le r 3548381184
      · have lq : (FloatKind.f32.format.order r 3548381184 == some .lt || FloatKind.f32.format.order r 3548381184 == some .eq) = false := h2
        simp only [Bool.false_eq_true, if_false]
        have cv := conv_run (cutZ_some hr h1 h2)
        generalize cutZ r = z at *
        clear h1 h2 hr
        go_enter Tryd.func23, Tryd.ntmps23
        go_wp2_with fail
        go_ret
        exact ⟨rfl, rfl⟩
      · have lq : (FloatKind.f32.format.order r 3548381184 == some .lt || FloatKind.f32.format.order r 3548381184 == some .eq) = true := h2
        simp only [if_true]
        clear h1 h2 hr
        go_enter Tryd.func23, Tryd.ntmps23
        go_wp2_with fail
        go_ret
        exact ⟨rfl, rfl⟩
    · have gq : (FloatKind.f32.format.order r 1400897536 == some .gt || FloatKind.f32.format.order r 1400897536 == some .eq) = true := h1
      simp only [if_true]
      clear h1 hr
      go_enter Tryd.func23, Tryd.ntmps23
      go_wp2_with fail
      go_ret
      exact ⟨rfl, rfl⟩
end Go.Proofs.YtkfkhjafhlafhaaDoor
