/- FixFloats -/
import Derived.Test.YtkfkhjafhlafhaaDoorL0
namespace Go.Proofs.YtkfkhjafhlafhaaDoor
open Go Go.RowKit Fx

theorem sub_some {b r : Nat} (h : Ieee.single.sub b b = some r) (W : World) : (binOp .sub 30 (.float .f32 b) (.float .f32 b)).run Tryd.prog W = .ok (.float .f32 r) W :=
  run_float_arith W .sub 30 .f32 _ _ _ h
theorem sub_none {b : Nat} (h : Ieee.single.sub b b = none) (W : World) : ∃ r, (∃ s t, Ieee.single.read r = .nan s t) ∧ (binOp .sub 30 (.float .f32 b) (.float .f32 b)).run Tryd.prog W = .ok (.float .f32 r) W.drew := by
  refine ⟨Question.cut (.nanBits .f32 b b) (W.tape W.drawn (.nanBits .f32 b b)), nan_cut _ _ _, ?_⟩
  have hm : FloatKind.f32.format.sub b b = none := h
  simp [binOp, Op.floatArith, hm, Question.forced]

set_option maxHeartbeats 4000000 in
theorem floats_any (a : Int) (f : Nat) (_ha : In a) (w : World) (hk : Kc w) :
    Calls Tryd.prog 6 #[.int .i64 a, .float .f32 f] w fun e w' => e = .returned (.bool true) ∧ w.grownBy w' none := by
  have c0 := fixed_c w hk
  have c1 := fun W => float_c a W
  have c2 := fun W => rfloat_c a W
  have c4 := fun W => of_c f W
  have c5 := fun W => rof_c f W
  have c6 := fun W => of_c (fl a) W
  have c7 := fun W => rof_c (fl a) W
  obtain ⟨t, ht⟩ : ∃ t, a.tmod 16777217 = t := ⟨_, rfl⟩
  have tb : -16777216 ≤ t ∧ t ≤ 16777216 := by
    have h1 := Int.tmod_lt_of_pos a (show (0 : Int) < 16777217 by omega)
    have h2 := Int.lt_tmod_of_pos a (show (0 : Int) < 16777217 by omega)
    omega
  have c8 := fun W => float_c t W
  have c9 := fun W => of_c (fl t) W
  rw [ofZ_fl t tb.1 tb.2] at c9
  have c10 := fun W => float_c 16777216 W
  have c11 := fun W => of_c (fl 16777216) W
  rw [ofZ_max] at c11
  have c12 := fun (W : World) (r : Nat) => of_c r W
  generalize ofZ f = x at *
  generalize ofZ (fl a) = y at *
  obtain ⟨g, hg⟩ : ∃ g, fl a = g := ⟨_, rfl⟩
  rw [hg] at c1 c2 c6 c7
  obtain ⟨g2, hg2⟩ : ∃ g, fl t = g := ⟨_, rfl⟩
  rw [hg2] at c8 c9
  obtain ⟨g3, hg3⟩ : ∃ g, fl 16777216 = g := ⟨_, rfl⟩
  rw [hg3] at c10 c11
  have c3 := fun W => alike_c g W
  clear hg hg2 hg3 hk
  go_enter Tryd.func6, Tryd.ntmps6
  go_wp2_with fail
  refine c0.mono ?_
  rintro e w1 ⟨rfl, hg⟩
  have HG1 := Keep.mk hg
  clear hg
  go_wp2_with fail
  refine (c1 _).mono ?_
  rintro e w' ⟨rfl, hw⟩; rw [hw]
  go_wp2_with fail
  refine (c2 _).mono ?_
  rintro e w' ⟨rfl, hw⟩; rw [hw]
  go_wp2_with fail
  refine (c3 _).mono ?_
  rintro e w' ⟨rfl, hw⟩; rw [hw]
  go_wp2_with fail
  refine (c4 _).mono ?_
  rintro e w2 ⟨rfl, hg⟩
  have HG2 := Keep.mk (HG1.out.trans hg)
  clear hg
  go_wp2_with fail
  refine (c5 _).mono ?_
  rintro e w' ⟨rfl, hw⟩; rw [hw]
  go_wp2_with fail
  refine (c6 _).mono ?_
  rintro e w3 ⟨rfl, hg⟩
  have HG3 := Keep.mk (HG2.out.trans hg)
  clear hg
  go_wp2_with fail
  refine (c7 _).mono ?_
  rintro e w' ⟨rfl, hw⟩; rw [hw]
  go_wp2_with fail
  refine (c8 _).mono ?_
  rintro e w' ⟨rfl, hw⟩; rw [hw]
  go_wp2_with fail
  refine (c9 _).mono ?_
  rintro e w4 ⟨rfl, hg⟩
  have HG4 := Keep.mk (HG3.out.trans hg)
  clear hg
  go_wp2_with fail
  refine (c10 _).mono ?_
  rintro e w' ⟨rfl, hw⟩; rw [hw]
  go_wp2_with fail
  refine (c11 _).mono ?_
  rintro e w5 ⟨rfl, hg⟩
  have HG5 := Keep.mk (HG4.out.trans hg)
  clear hg
  rcases sub_self f with hs | hs
  · obtain ⟨r, ⟨s', t', hn⟩, hrun⟩ := sub_none hs w5
    have c13 := c12 w5.drew r
    rw [ofZ_of_nan hn] at c13
    clear hs hn c12
    go_wp2_with fail
    refine c13.mono ?_
    rintro e w6 ⟨rfl, hg⟩
    have HG6 := Keep.mk ((HG5.out.trans (gr_drew _ _)).trans hg)
    clear hg
    go_wp2_with fail
    go_ret
    exact ⟨rfl, HG6.out⟩
  · have hrun := sub_some hs
    have c13 := c12 w5 0
    rw [ofZ_zero] at c13
    clear hs c12
    go_wp2_with fail
    refine c13.mono ?_
    rintro e w6 ⟨rfl, hg⟩
    have HG6 := Keep.mk (HG5.out.trans hg)
    clear hg
    go_wp2_with fail
    go_ret
    exact ⟨rfl, HG6.out⟩
end Go.Proofs.YtkfkhjafhlafhaaDoor
