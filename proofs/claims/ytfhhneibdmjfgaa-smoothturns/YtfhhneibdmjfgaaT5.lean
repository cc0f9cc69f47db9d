/- SmoothTurns: its walk -/
import Derived.Test.YtfhhneibdmjfgaaQ9
import Derived.Test.YtfhhneibdmjfgaaT4
namespace Go.Proofs.Ytfhhneibdmjfgaa
open Go Go.RowKit Ieee Fx
namespace Sm
set_option maxRecDepth 100000
attribute [local go_sem] run_store_fl run_neg
theorem eqT' {x y : Nat} (h : eqF x y = true) (w : World) : (Op.equalIn 9999 30 (fv x) (fv y)).run Try.prog w = .ok true w := by
  have q := eqFl 9998 x y w
  rw [h] at q
  exact q
theorem V_some {g r : Nat} (h : V g = some r) : g = r := by
  unfold V at h
  split at h
  · cases h
  · injection h
/-- Mix, where what it gives is finite -/
theorem mix_v {ax ay aa bx by' ba t mx my ma : Nat} (h : mixV ⟨V ax, V ay, V aa⟩ ⟨V bx, V by', V ba⟩ (V t) = ⟨some mx, some my, some ma⟩) (w0 : World) :
    Calls Try.prog 17 #[pv ax ay aa, pv bx by' ba, fv t] w0 fun e W' => e = .returned (pv mx my ma) ∧ w0.grownBy W' none := by
  refine (mix_c ax ay aa bx by' ba t w0).mono ?_
  rintro e w' ⟨v, rfl, ⟨x, y, a, rfl, h1, h2, h3⟩, g⟩
  rw [h] at h1 h2 h3
  rw [V_some h1, V_some h2, V_some h3]
  exact ⟨rfl, g⟩
theorem eqF_fi {x y : Nat} (hx : Fi x) (hy : Fi y) (h : vl x = vl y) : eqF x y = true := by
  rw [eqF_V, fi_V hx, fi_V hy, oord_fi hx hy, (compare_int _ _).2.1.2 h]; rfl
/-- a place equals another -/
structure Eq3 (x y a x' y' a' : Nat) : Prop where
  x : eqF x x' = true
  y : eqF y y' = true
  a : eqF a a' = true
theorem neq_no {x y a x' y' a' : Nat} (h : Eq3 x y a x' y' a') (w : World) : (binOp .neq 37 (pv x y a) (pv x' y' a')).run Try.prog w = .ok (.bool false) w := by
  rw [neqP, h.x, h.y, h.a]; rfl
def ge' (x y : Nat) : Prop := (FloatKind.f32.format.order x y == some .gt || FloatKind.f32.format.order x y == some .eq) = true
theorem ge_fi {x y : Nat} (hx : Fi x) (hy : Fi y) (h : vl y ≤ vl x) : (FloatKind.f32.format.order x y == some .gt || FloatKind.f32.format.order x y == some .eq) = true :=
  geq_is x y (fi_V hx) (fi_V hy) (by rw [geB_fi hx hy, decide_eq_true h])
theorem le_fi {x y : Nat} (hx : Fi x) (hy : Fi y) (h : vl x ≤ vl y) : (FloatKind.f32.format.order x y == some .lt || FloatKind.f32.format.order x y == some .eq) = true := by
  rw [order_V, fi_V hx, fi_V hy]
  have := leB_fi hx hy
  rw [decide_eq_true h] at this
  exact this
theorem lt_fi {x y : Nat} (hx : Fi x) (hy : Fi y) (h : vl x < vl y) : (FloatKind.f32.format.order x y == some .lt) = true :=
  lss_is x y (fi_V hx) (fi_V hy) (by rw [ltB_fi hx hy, decide_eq_true h])
/-- one coordinate lies between the lesser less one and the greater and one -/
theorem bounds {p : Int} (hp : u3 = p) {a b r : Nat} (ha : Fi a ∧ -(8000000 * p) < vl a ∧ vl a < 8000000 * p) (hb : Fi b ∧ -(8000000 * p) < vl b ∧ vl b < 8000000 * p) (hr : Mid p a b r) :
    ∃ n x l h, (∀ (ats : Array TypeId) ty w, (Builtin.min_ ats ty #[fv a, fv b]).run Try.prog w = .ok (fv n) w) ∧ (∀ (ats : Array TypeId) ty w, (Builtin.max_ ats ty #[fv a, fv b]).run Try.prog w = .ok (fv x) w) ∧
      (∀ w, (binOp .sub 30 (.float .f32 n) (.float .f32 1065353216)).run Try.prog w = .ok (.float .f32 l) w) ∧ (∀ w, (binOp .add 30 (.float .f32 x) (.float .f32 1065353216)).run Try.prog w = .ok (.float .f32 h) w) ∧
      (FloatKind.f32.format.order r l == some .gt || FloatKind.f32.format.order r l == some .eq) = true ∧ (FloatKind.f32.format.order r h == some .lt || FloatKind.f32.format.order r h == some .eq) = true := by
  have c1 : vl 1065353216 = 8 * p := by rw [← hp]; exact v1u
  have p0 : 0 < p := by rw [← hp]; have := Nat.two_pow_pos 295; unfold u3; omega
  obtain ⟨n, n1, n2, n3, n4, n5⟩ := min_go ha.1 hb.1
  obtain ⟨x, x1, x2, x3, x4, x5⟩ := max_go ha.1 hb.1
  obtain ⟨l, l1, l2, l3, l4⟩ := sub_p (k := 295) (by omega) (by omega) hp n2 f1 (by omega) (by omega)
  obtain ⟨h, h1, h2, h3, h4⟩ := add_p (k := 295) (by omega) (by omega) hp x2 f1 (by omega) (by omega)
  obtain ⟨r1, r2, r3⟩ := hr
  refine ⟨n, x, l, h, n1, x1, fun w => run_float_arith w .sub 30 .f32 _ _ _ l1, fun w => run_float_arith w .add 30 .f32 _ _ _ h1, ge_fi r1 l2.fi (by omega), le_fi r1 h2.fi (by omega)⟩
/-- all that the law asks of numbers -/
theorem turns_facts {p q : Int} (hp : u3 = p) (hq : u14 = q) {ax ay aa bx by' ba : Nat} (A : Tm p q ax ay aa) (B : Tm p q bx by' ba) (t : Nat) :
    ∃ mx my ma sx sy sa, mixV ⟨V ax, V ay, V aa⟩ ⟨V bx, V by', V ba⟩ (V t) = ⟨some mx, some my, some ma⟩ ∧ mixV ⟨V ax, V ay, V aa⟩ ⟨V ax, V ay, V aa⟩ (V t) = ⟨some sx, some sy, some sa⟩ ∧
      Eq3 sx sy sa ax ay aa ∧ Mid p ax bx mx ∧ Mid p ay by' my ∧ (FloatKind.f32.format.order ma 0 == some .gt || FloatKind.f32.format.order ma 0 == some .eq) = true ∧ (FloatKind.f32.format.order ma 1135869952 == some .lt) = true ∧
      ∃ r1 r2 r3, (∀ w, Calls Try.prog 18 #[fv aa, fv ma] w fun e w' => e = .returned (fv r1) ∧ w' = w) ∧ (∀ w, Calls Try.prog 18 #[fv aa, fv ba] w fun e w' => e = .returned (fv r2) ∧ w' = w) ∧
        (∀ w, (binOp .add 30 (.float .f32 r2) (.float .f32 1008981770)).run Try.prog w = .ok (.float .f32 r3) w) ∧ (FloatKind.f32.format.order r1 r3 == some .lt || FloatKind.f32.format.order r1 r3 == some .eq) = true := by
  have q0 : 0 < q := by rw [← hq]; have := Nat.two_pow_pos 284; unfold u14; omega
  have c1 : 163 * q ≤ vl 1008981770 ∧ vl 1008981770 ≤ 164 * q := by rw [← hq]; exact v001
  obtain ⟨mx, my, ma, e1, m1, m2, m3, m4, m5, m6, m7⟩ := mix_fi hp hq A B t
  obtain ⟨sx, sy, sa, e2, s1, s2, s3⟩ := mix_fi hp hq A A t
  obtain ⟨a7, a8, a9⟩ := A.a
  obtain ⟨b7, b8, b9⟩ := B.a
  obtain ⟨r1, k1, g1, w1, w2⟩ := way_fi hq a7 m3 a8 a9 m4 m5
  obtain ⟨r2, k2, g2, w3, w4⟩ := way_fi hq a7 b7 a8 a9 b8 b9
  have y1 : -(8 * q) ≤ vl r2 ∧ vl r2 ≤ 5898248 * q := by unfold cyc at w3 w4; omega
  obtain ⟨r3, h1, h2, h3, h4⟩ := add_p (k := 284) (by omega) (by omega) hq g2 f001 (by omega) (by omega)
  refine ⟨mx, my, ma, sx, sy, sa, e1, e2, ⟨eqF_fi s1.1 A.x.1 (s1.2.2 rfl), eqF_fi s2.1 A.y.1 (s2.2.2 rfl), eqF_fi s3.1 a7 (s3.2.2.2.2 rfl)⟩, m1, m2, ge_fi m3 f0 (by rw [v0]; exact m4), lt_fi m3 f360 (by rw [v360, hq]; exact m5), r1, r2, r3, k1, k2, fun w => run_float_arith w .add 30 .f32 _ _ _ h1, le_fi g1 h2.fi (by omega)⟩
set_option maxHeartbeats 64000000 in
theorem turns_c (x0 y0 a0 x1 y1 a1 t : Nat) (w0 : World) : Calls Try.prog 5 #[pv x0 y0 a0, pv x1 y1 a1, fv t] w0 fun e w' => e = .returned (.bool true) ∧ w0.grownBy w' none := by
  have HS := Keep.mk (((Sep.nil w0).newBox #[fv x0, fv y0, fv a0] 37).newBox #[fv x1, fv y1, fv a1] 37)
  go_enter Try.func5, Try.ntmps5
  go_wp2_with fail
  obtain ⟨xb, hxb⟩ : ∃ xb, w0.heap.size = xb := ⟨_, rfl⟩
  have hyb0 : (w0.alloc (.cells #[fv x0, fv y0, fv a0] 37)).heap.size = xb + 1 := by rw [← hxb]; exact size_alloc _ _
  rw [hyb0] at HS
  obtain ⟨yb, hyb⟩ : ∃ yb, xb + 1 = yb := ⟨_, rfl⟩
  rw [hxb] at HS ⊢
  rw [hyb] at HS ⊢
  clear hxb hyb hyb0
  generalize (w0.alloc (.cells #[fv x0, fv y0, fv a0] 37)).alloc (.cells #[fv x1, fv y1, fv a1] 37) = W1 at HS ⊢
  refine (alive_c W1).mono ?_
  rintro e W2 ⟨rfl, g⟩
  replace HS := Keep.mk (HS.out.grown g).swap
  clear g
  go_wp2_with fail
  refine region_R (fun w => W2.grownBy w none) [10] [2, 5, 8] (fun i v => if i = 2 then (fun v => v = fv (tm x0)) v else if i = 5 then (fun v => v = fv (tm y0)) v else if i = 8 then (fun v => v = fv (an a0)) v else False) 1 10 (by kernel_rfl) (by rfl) (gr_drew _ _) (fun hHeld => ?_)
  refine wpR_pure (i := 0) (oi := _) (v := ?_) rfl (by kernel_rfl) (by kernel_rfl) (by kernel_rfl) (by kernel_rfl) (by kernel_rfl) (by kernel_rfl) hHeld (Or.inl ⟨by rfl, ?_⟩) ?_
  rotate_left
  · (intro w hSw; go_simp; first | done | (with_reducible rfl))
  simp only [Act.put, List.getElem_toArray, List.getElem_cons_zero, List.setIfInBounds_toArray, List.set_cons_zero, List.set_cons_succ]
  refine wpR_pure (i := 1) (oi := _) (v := ?_) rfl (by kernel_rfl) (by kernel_rfl) (by kernel_rfl) (by kernel_rfl) (by kernel_rfl) (by kernel_rfl) hHeld (Or.inl ⟨by rfl, ?_⟩) ?_
  rotate_left
  · (intro w hSw; have q0 := (((HS.out.grown hSw).boxGet k0m)).cellv 0 _ rfl; go_simp; first | done | (with_reducible rfl))
  simp only [Act.put, List.getElem_toArray, List.getElem_cons_succ, List.getElem_cons_zero, List.setIfInBounds_toArray, List.set_cons_zero, List.set_cons_succ]
  refine wpR_pure (i := 3) (oi := _) (v := ?_) rfl (by kernel_rfl) (by kernel_rfl) (by kernel_rfl) (by kernel_rfl) (by kernel_rfl) (by kernel_rfl) hHeld (Or.inl ⟨by rfl, ?_⟩) ?_
  rotate_left
  · (intro w hSw; go_simp; first | done | (with_reducible rfl))
  simp only [Act.put, List.getElem_toArray, List.getElem_cons_succ, List.getElem_cons_zero, List.setIfInBounds_toArray, List.set_cons_zero, List.set_cons_succ]
  refine wpR_pure (i := 4) (oi := _) (v := ?_) rfl (by kernel_rfl) (by kernel_rfl) (by kernel_rfl) (by kernel_rfl) (by kernel_rfl) (by kernel_rfl) hHeld (Or.inl ⟨by rfl, ?_⟩) ?_
  rotate_left
  · (intro w hSw; have q1 := (((HS.out.grown hSw).boxGet k0m)).cellv 1 _ rfl; go_simp; first | done | (with_reducible rfl))
  simp only [Act.put, List.getElem_toArray, List.getElem_cons_succ, List.getElem_cons_zero, List.setIfInBounds_toArray, List.set_cons_zero, List.set_cons_succ]
  refine wpR_pure (i := 6) (oi := _) (v := ?_) rfl (by kernel_rfl) (by kernel_rfl) (by kernel_rfl) (by kernel_rfl) (by kernel_rfl) (by kernel_rfl) hHeld (Or.inl ⟨by rfl, ?_⟩) ?_
  rotate_left
  · (intro w hSw; go_simp; first | done | (with_reducible rfl))
  simp only [Act.put, List.getElem_toArray, List.getElem_cons_succ, List.getElem_cons_zero, List.setIfInBounds_toArray, List.set_cons_zero, List.set_cons_succ]
  refine wpR_pure (i := 7) (oi := _) (v := ?_) rfl (by kernel_rfl) (by kernel_rfl) (by kernel_rfl) (by kernel_rfl) (by kernel_rfl) (by kernel_rfl) hHeld (Or.inl ⟨by rfl, ?_⟩) ?_
  rotate_left
  · (intro w hSw; have q2 := (((HS.out.grown hSw).boxGet k0m)).cellv 2 _ rfl; go_simp; first | done | (with_reducible rfl))
  simp only [Act.put, List.getElem_toArray, List.getElem_cons_succ, List.getElem_cons_zero, List.setIfInBounds_toArray, List.set_cons_zero, List.set_cons_succ]
  refine wpR_some (i := 2) (oi := _) rfl (by kernel_rfl) (by kernel_rfl) (by kernel_rfl) (by kernel_rfl) (by kernel_rfl) (by kernel_rfl) hHeld (fun v => v = fv (tm x0)) rfl ⟨_, rfl⟩ ⟨by rfl, ?_⟩ ?_
  · refine .inr ⟨15, #[fv x0], fun w => ?_, fun w hSw => ?_⟩
    · (go_simp; first | done | (with_reducible rfl))
    refine (tame_c x0 w).mono ?_
    rintro e w' ⟨rfl, rfl⟩
    exact ⟨_, rfl, rfl, hSw⟩
  rintro v rfl
  simp only [Act.put, List.getElem_toArray, List.getElem_cons_succ, List.getElem_cons_zero, List.setIfInBounds_toArray, List.set_cons_zero, List.set_cons_succ]
  refine wpR_some (i := 5) (oi := _) rfl (by kernel_rfl) (by kernel_rfl) (by kernel_rfl) (by kernel_rfl) (by kernel_rfl) (by kernel_rfl) hHeld (fun v => v = fv (tm y0)) rfl ⟨_, rfl⟩ ⟨by rfl, ?_⟩ ?_
  · refine .inr ⟨15, #[fv y0], fun w => ?_, fun w hSw => ?_⟩
    · (go_simp; first | done | (with_reducible rfl))
    refine (tame_c y0 w).mono ?_
    rintro e w' ⟨rfl, rfl⟩
    exact ⟨_, rfl, rfl, hSw⟩
  rintro v rfl
  simp only [Act.put, List.getElem_toArray, List.getElem_cons_succ, List.getElem_cons_zero, List.setIfInBounds_toArray, List.set_cons_zero, List.set_cons_succ]
  refine wpR_some (i := 8) (oi := _) rfl (by kernel_rfl) (by kernel_rfl) (by kernel_rfl) (by kernel_rfl) (by kernel_rfl) (by kernel_rfl) hHeld (fun v => v = fv (an a0)) rfl ⟨_, rfl⟩ ⟨by rfl, ?_⟩ ?_
  · refine .inr ⟨16, #[fv a0], fun w => ?_, fun w hSw => ?_⟩
    · (go_simp; first | done | (with_reducible rfl))
    refine (anglec_c a0 w).mono ?_
    rintro e w' ⟨rfl, rfl⟩
    exact ⟨_, rfl, rfl, hSw⟩
  rintro v rfl
  simp only [Act.put, List.getElem_toArray, List.getElem_cons_succ, List.getElem_cons_zero, List.setIfInBounds_toArray, List.set_cons_zero, List.set_cons_succ]
  refine wpR_pure (i := 9) (oi := _) (v := ?_) rfl (by kernel_rfl) (by kernel_rfl) (by kernel_rfl) (by kernel_rfl) (by kernel_rfl) (by kernel_rfl) hHeld (Or.inl ⟨by rfl, ?_⟩) ?_
  rotate_left
  · (intro w hSw; go_simp; first | done | (with_reducible rfl))
  simp only [Act.put, List.getElem_toArray, List.getElem_cons_succ, List.getElem_cons_zero, List.setIfInBounds_toArray, List.set_cons_zero, List.set_cons_succ]
  refine wpR_end (by kernel_rfl) (fun w hSw => ?_)
  refine any_one (i := 10) (by kernel_rfl) rfl (fun K hK => ?_)
  have HT := HS.out.grown hSw
  have x0 := (HT.boxGet k0m).cellv 0 _ rfl
  have y0 := (HT.boxGet k0m).frozen 0
  have x1 := (HT.boxGet k0m).cellv 1 _ rfl
  have y1 := (HT.boxGet k0m).frozen 1
  have x2 := (HT.boxGet k0m).cellv 2 _ rfl
  have y2 := (HT.boxGet k0m).frozen 2
  go_simp
  clear x0 y0 x1 y1 x2 y2
  have HR := Keep.mk (((HT.boxPut 0 (fv (tm x0))).boxPut 1 (fv (tm y0))).boxPut 2 (fv (an a0)))
  clear HT
  refine hK.out _ _ ?_
  clear hK K HS
  generalize ((w.setCell ⟨xb, 0, none⟩ (fv (tm x0))).setCell ⟨xb, 1, none⟩ (fv (tm y0))).setCell ⟨xb, 2, none⟩ (fv (an a0)) = W3 at HR ⊢
  clear hSw
  refine any_done (by kernel_rfl) ?_ _
  replace HS := Keep.mk HR.out.swap
  clear HR
  go_wp2_with fail
  refine region_R (fun w => W3.grownBy w none) [10] [2, 5, 8] (fun i v => if i = 2 then (fun v => v = fv (tm x1)) v else if i = 5 then (fun v => v = fv (tm y1)) v else if i = 8 then (fun v => v = fv (an a1)) v else False) 1 10 (by kernel_rfl) (by rfl) (gr_drew _ _) (fun hHeld => ?_)
  refine wpR_pure (i := 0) (oi := _) (v := ?_) rfl (by kernel_rfl) (by kernel_rfl) (by kernel_rfl) (by kernel_rfl) (by kernel_rfl) (by kernel_rfl) hHeld (Or.inl ⟨by rfl, ?_⟩) ?_
  rotate_left
  · (intro w hSw; go_simp; first | done | (with_reducible rfl))
  simp only [Act.put, List.getElem_toArray, List.getElem_cons_zero, List.setIfInBounds_toArray, List.set_cons_zero, List.set_cons_succ]
  refine wpR_pure (i := 1) (oi := _) (v := ?_) rfl (by kernel_rfl) (by kernel_rfl) (by kernel_rfl) (by kernel_rfl) (by kernel_rfl) (by kernel_rfl) hHeld (Or.inl ⟨by rfl, ?_⟩) ?_
  rotate_left
  · (intro w hSw; have q0 := (((HS.out.grown hSw).boxGet k0m)).cellv 0 _ rfl; go_simp; first | done | (with_reducible rfl))
  simp only [Act.put, List.getElem_toArray, List.getElem_cons_succ, List.getElem_cons_zero, List.setIfInBounds_toArray, List.set_cons_zero, List.set_cons_succ]
  refine wpR_pure (i := 3) (oi := _) (v := ?_) rfl (by kernel_rfl) (by kernel_rfl) (by kernel_rfl) (by kernel_rfl) (by kernel_rfl) (by kernel_rfl) hHeld (Or.inl ⟨by rfl, ?_⟩) ?_
  rotate_left
  · (intro w hSw; go_simp; first | done | (with_reducible rfl))
  simp only [Act.put, List.getElem_toArray, List.getElem_cons_succ, List.getElem_cons_zero, List.setIfInBounds_toArray, List.set_cons_zero, List.set_cons_succ]
  refine wpR_pure (i := 4) (oi := _) (v := ?_) rfl (by kernel_rfl) (by kernel_rfl) (by kernel_rfl) (by kernel_rfl) (by kernel_rfl) (by kernel_rfl) hHeld (Or.inl ⟨by rfl, ?_⟩) ?_
  rotate_left
  · (intro w hSw; have q1 := (((HS.out.grown hSw).boxGet k0m)).cellv 1 _ rfl; go_simp; first | done | (with_reducible rfl))
  simp only [Act.put, List.getElem_toArray, List.getElem_cons_succ, List.getElem_cons_zero, List.setIfInBounds_toArray, List.set_cons_zero, List.set_cons_succ]
  refine wpR_pure (i := 6) (oi := _) (v := ?_) rfl (by kernel_rfl) (by kernel_rfl) (by kernel_rfl) (by kernel_rfl) (by kernel_rfl) (by kernel_rfl) hHeld (Or.inl ⟨by rfl, ?_⟩) ?_
  rotate_left
  · (intro w hSw; go_simp; first | done | (with_reducible rfl))
  simp only [Act.put, List.getElem_toArray, List.getElem_cons_succ, List.getElem_cons_zero, List.setIfInBounds_toArray, List.set_cons_zero, List.set_cons_succ]
  refine wpR_pure (i := 7) (oi := _) (v := ?_) rfl (by kernel_rfl) (by kernel_rfl) (by kernel_rfl) (by kernel_rfl) (by kernel_rfl) (by kernel_rfl) hHeld (Or.inl ⟨by rfl, ?_⟩) ?_
  rotate_left
  · (intro w hSw; have q2 := (((HS.out.grown hSw).boxGet k0m)).cellv 2 _ rfl; go_simp; first | done | (with_reducible rfl))
  simp only [Act.put, List.getElem_toArray, List.getElem_cons_succ, List.getElem_cons_zero, List.setIfInBounds_toArray, List.set_cons_zero, List.set_cons_succ]
  refine wpR_some (i := 2) (oi := _) rfl (by kernel_rfl) (by kernel_rfl) (by kernel_rfl) (by kernel_rfl) (by kernel_rfl) (by kernel_rfl) hHeld (fun v => v = fv (tm x1)) rfl ⟨_, rfl⟩ ⟨by rfl, ?_⟩ ?_
  · refine .inr ⟨15, #[fv x1], fun w => ?_, fun w hSw => ?_⟩
    · (go_simp; first | done | (with_reducible rfl))
    refine (tame_c x1 w).mono ?_
    rintro e w' ⟨rfl, rfl⟩
    exact ⟨_, rfl, rfl, hSw⟩
  rintro v rfl
  simp only [Act.put, List.getElem_toArray, List.getElem_cons_succ, List.getElem_cons_zero, List.setIfInBounds_toArray, List.set_cons_zero, List.set_cons_succ]
  refine wpR_some (i := 5) (oi := _) rfl (by kernel_rfl) (by kernel_rfl) (by kernel_rfl) (by kernel_rfl) (by kernel_rfl) (by kernel_rfl) hHeld (fun v => v = fv (tm y1)) rfl ⟨_, rfl⟩ ⟨by rfl, ?_⟩ ?_
  · refine .inr ⟨15, #[fv y1], fun w => ?_, fun w hSw => ?_⟩
    · (go_simp; first | done | (with_reducible rfl))
    refine (tame_c y1 w).mono ?_
    rintro e w' ⟨rfl, rfl⟩
    exact ⟨_, rfl, rfl, hSw⟩
  rintro v rfl
  simp only [Act.put, List.getElem_toArray, List.getElem_cons_succ, List.getElem_cons_zero, List.setIfInBounds_toArray, List.set_cons_zero, List.set_cons_succ]
  refine wpR_some (i := 8) (oi := _) rfl (by kernel_rfl) (by kernel_rfl) (by kernel_rfl) (by kernel_rfl) (by kernel_rfl) (by kernel_rfl) hHeld (fun v => v = fv (an a1)) rfl ⟨_, rfl⟩ ⟨by rfl, ?_⟩ ?_
  · refine .inr ⟨16, #[fv a1], fun w => ?_, fun w hSw => ?_⟩
    · (go_simp; first | done | (with_reducible rfl))
    refine (anglec_c a1 w).mono ?_
    rintro e w' ⟨rfl, rfl⟩
    exact ⟨_, rfl, rfl, hSw⟩
  rintro v rfl
  simp only [Act.put, List.getElem_toArray, List.getElem_cons_succ, List.getElem_cons_zero, List.setIfInBounds_toArray, List.set_cons_zero, List.set_cons_succ]
  refine wpR_pure (i := 9) (oi := _) (v := ?_) rfl (by kernel_rfl) (by kernel_rfl) (by kernel_rfl) (by kernel_rfl) (by kernel_rfl) (by kernel_rfl) hHeld (Or.inl ⟨by rfl, ?_⟩) ?_
  rotate_left
  · (intro w hSw; go_simp; first | done | (with_reducible rfl))
  simp only [Act.put, List.getElem_toArray, List.getElem_cons_succ, List.getElem_cons_zero, List.setIfInBounds_toArray, List.set_cons_zero, List.set_cons_succ]
  refine wpR_end (by kernel_rfl) (fun w hSw => ?_)
  refine any_one (i := 10) (by kernel_rfl) rfl (fun K hK => ?_)
  have HT := HS.out.grown hSw
  have x0 := (HT.boxGet k0m).cellv 0 _ rfl
  have y0 := (HT.boxGet k0m).frozen 0
  have x1 := (HT.boxGet k0m).cellv 1 _ rfl
  have y1 := (HT.boxGet k0m).frozen 1
  have x2 := (HT.boxGet k0m).cellv 2 _ rfl
  have y2 := (HT.boxGet k0m).frozen 2
  go_simp
  clear x0 y0 x1 y1 x2 y2
  have HR := Keep.mk (((HT.boxPut 0 (fv (tm x1))).boxPut 1 (fv (tm y1))).boxPut 2 (fv (an a1)))
  clear HT
  refine hK.out _ _ ?_
  clear hK K HS
  generalize ((w.setCell ⟨yb, 0, none⟩ (fv (tm x1))).setCell ⟨yb, 1, none⟩ (fv (tm y1))).setCell ⟨yb, 2, none⟩ (fv (an a1)) = W4 at HR ⊢
  clear hSw
  refine any_done (by kernel_rfl) ?_ _
  replace HS := HR
  clear HR
  obtain ⟨p, hp⟩ : ∃ p, u3 = p := ⟨_, rfl⟩
  obtain ⟨q, hq⟩ : ∃ q, u14 = q := ⟨_, rfl⟩
  have HA : Keep (Tm p q (tm x0) (tm y0) (an a0)) := ⟨⟨tm_fi _ hp, tm_fi _ hp, an_fi _ hq⟩⟩
  have HB : Keep (Tm p q (tm x1) (tm y1) (an a1)) := ⟨⟨tm_fi _ hp, tm_fi _ hp, an_fi _ hq⟩⟩
  replace HS : Keep (Sep w0 W4 [boxA yb [fv (tm x1), fv (tm y1), fv (an a1)] 37, boxA xb [fv (tm x0), fv (tm y0), fv (an a0)] 37]) := HS
  generalize tm x0 = ax at HA HS ⊢
  generalize tm y0 = ay at HA HS ⊢
  generalize an a0 = aa at HA HS ⊢
  generalize tm x1 = bx at HB HS ⊢
  generalize tm y1 = by' at HB HS ⊢
  generalize an a1 = ba at HB HS ⊢
  obtain ⟨mx, my, ma, sx, sy, sa, e1, e2, e3, m1, m2, d1, d2, r1, r2, r3, k1, k2, k3, d3⟩ := turns_facts hp hq HA.out HB.out t
  have HMIX := Keep.mk e1
  have HSELF := Keep.mk e2
  have HE1 := Keep.mk e3
  have HX := Keep.mk (bounds hp HA.out.x HB.out.x m1)
  have HY := Keep.mk (bounds hp HA.out.y HB.out.y m2)
  have HA1 := Keep.mk d1
  have HA2 := Keep.mk d2
  have HW1 := Keep.mk k1
  have HW2 := Keep.mk k2
  have HP1 := Keep.mk k3
  have HP2 := Keep.mk d3
  have HE2 : Keep (Eq3 ax ay aa ax ay aa) := ⟨⟨eqF_fi HA.out.x.1 HA.out.x.1 rfl, eqF_fi HA.out.y.1 HA.out.y.1 rfl, eqF_fi HA.out.a.1 HA.out.a.1 rfl⟩⟩
  have HE3 : Keep (Eq3 bx by' ba bx by' ba) := ⟨⟨eqF_fi HB.out.x.1 HB.out.x.1 rfl, eqF_fi HB.out.y.1 HB.out.y.1 rfl, eqF_fi HB.out.a.1 HB.out.a.1 rfl⟩⟩
  have HM0 : Keep (mixV ⟨V ax, V ay, V aa⟩ ⟨V bx, V by', V ba⟩ (V 0) = ⟨some ax, some ay, some aa⟩) := ⟨by rw [mix_0, fi_V HA.out.x.1, fi_V HA.out.y.1, fi_V HA.out.a.1]⟩
  have HM1 : Keep (mixV ⟨V ax, V ay, V aa⟩ ⟨V bx, V by', V ba⟩ (V 1065353216) = ⟨some bx, some by', some ba⟩) := ⟨by rw [mix_1, fi_V HB.out.x.1, fi_V HB.out.y.1, fi_V HB.out.a.1]⟩
  have HMN : Keep (mixV ⟨V ax, V ay, V aa⟩ ⟨V bx, V by', V ba⟩ (omul (V (Op.negFloat .f32 t)) (V t)) = ⟨some ax, some ay, some aa⟩) := ⟨by rw [← fi_V HA.out.x.1, ← fi_V HA.out.y.1, ← fi_V HA.out.a.1]; exact mix_neg _ _ _⟩
  clear e1 e2 e3 m1 m2 d1 d2 k1 k2 k3 d3 HA HB hp hq
  have l0 := (HS.out.boxGet k1m).cellv 0 _ rfl
  have l1 := (HS.out.boxGet k1m).cellv 1 _ rfl
  have l2 := (HS.out.boxGet k1m).cellv 2 _ rfl
  have l3 := (HS.out.boxGet k0m).cellv 0 _ rfl
  have l4 := (HS.out.boxGet k0m).cellv 1 _ rfl
  have l5 := (HS.out.boxGet k0m).cellv 2 _ rfl
  go_wp2_with fail
  clear l0 l1 l2 l3 l4 l5
  refine (mix_v HMIX.out W4).mono ?_
  rintro e W4b ⟨rfl, g⟩
  have HS4 := (HS.out.grown g).newBox #[fv mx, fv my, fv ma] 37
  clear g HS HMIX
  go_wp2_with fail
  obtain ⟨mb, hmb⟩ : ∃ b, W4b.heap.size = b := ⟨_, rfl⟩
  rw [hmb] at HS4 ⊢
  clear hmb
  generalize W4b.alloc (.cells #[fv mx, fv my, fv ma] 37) = W5 at HS4 ⊢
  have HS : Keep (Sep w0 W5 [boxA mb [fv mx, fv my, fv ma] 37, boxA xb [fv ax, fv ay, fv aa] 37, boxA yb [fv bx, fv by', fv ba] 37]) := ⟨HS4.perm (List.Perm.cons _ (List.Perm.swap _ _ _))⟩
  clear HS4
  refine region_R (fun w => W5.grownBy w none) [] [13, 20, 27, 37, 38] (fun i v => if i = 13 then (fun v => v = pv sx sy sa) v else if i = 20 then (fun v => v = pv ax ay aa) v else if i = 27 then (fun v => v = pv bx by' ba) v else if i = 37 then (fun v => FV v (omul (V (Op.negFloat .f32 t)) (V t))) v else if i = 38 then (fun v => v = pv ax ay aa) v else False) 0 42 (by kernel_rfl) (by rfl) (gr_drew _ _) (fun hHeld => ?_)
  refine wpR_pure (i := 0) (oi := _) (v := ?_) rfl (by kernel_rfl) (by kernel_rfl) (by kernel_rfl) (by kernel_rfl) (by kernel_rfl) (by kernel_rfl) hHeld (Or.inl ⟨by rfl, ?_⟩) ?_
  rotate_left
  · (intro w hSw; go_simp; first | done | (with_reducible rfl))
  simp only [Act.put, List.getElem_toArray, List.getElem_cons_zero, List.setIfInBounds_toArray, List.set_cons_zero, List.set_cons_succ]
  refine wpR_pure (i := 1) (oi := _) (v := ?_) rfl (by kernel_rfl) (by kernel_rfl) (by kernel_rfl) (by kernel_rfl) (by kernel_rfl) (by kernel_rfl) hHeld (Or.inl ⟨by rfl, ?_⟩) ?_
  rotate_left
  · (intro w hSw; have q2 := (((HS.out.grown hSw).boxGet k0m)).cellv 2 _ rfl; go_simp; first | done | (with_reducible rfl))
  simp only [Act.put, List.getElem_toArray, List.getElem_cons_succ, List.getElem_cons_zero, List.setIfInBounds_toArray, List.set_cons_zero, List.set_cons_succ]
  refine wpR_pure (i := 2) (oi := _) (v := ?_) rfl (by kernel_rfl) (by kernel_rfl) (by kernel_rfl) (by kernel_rfl) (by kernel_rfl) (by kernel_rfl) hHeld (Or.inl ⟨by rfl, ?_⟩) ?_
  rotate_left
  · (intro w hSw; have d := HA1.out; go_simp; first | done | (with_reducible rfl))
  simp only [Act.put, List.getElem_toArray, List.getElem_cons_succ, List.getElem_cons_zero, List.setIfInBounds_toArray, List.set_cons_zero, List.set_cons_succ]
  refine wpR_pure (i := 3) (oi := _) (v := ?_) rfl (by kernel_rfl) (by kernel_rfl) (by kernel_rfl) (by kernel_rfl) (by kernel_rfl) (by kernel_rfl) hHeld (Or.inl ⟨by rfl, ?_⟩) ?_
  rotate_left
  · (intro w hSw; go_simp; first | done | (with_reducible rfl))
  simp only [Act.put, List.getElem_toArray, List.getElem_cons_succ, List.getElem_cons_zero, List.setIfInBounds_toArray, List.set_cons_zero, List.set_cons_succ]
  refine wpR_pure (i := 4) (oi := _) (v := ?_) rfl (by kernel_rfl) (by kernel_rfl) (by kernel_rfl) (by kernel_rfl) (by kernel_rfl) (by kernel_rfl) hHeld (Or.inl ⟨by rfl, ?_⟩) ?_
  rotate_left
  · (intro w hSw; go_simp; first | done | (with_reducible rfl))
  simp only [Act.put, List.getElem_toArray, List.getElem_cons_succ, List.getElem_cons_zero, List.setIfInBounds_toArray, List.set_cons_zero, List.set_cons_succ]
  refine wpR_pure (i := 5) (oi := _) (v := ?_) rfl (by kernel_rfl) (by kernel_rfl) (by kernel_rfl) (by kernel_rfl) (by kernel_rfl) (by kernel_rfl) hHeld (Or.inl ⟨by rfl, ?_⟩) ?_
  rotate_left
  · (intro w hSw; have q2 := (((HS.out.grown hSw).boxGet k0m)).cellv 2 _ rfl; go_simp; first | done | (with_reducible rfl))
  simp only [Act.put, List.getElem_toArray, List.getElem_cons_succ, List.getElem_cons_zero, List.setIfInBounds_toArray, List.set_cons_zero, List.set_cons_succ]
  refine wpR_pure (i := 6) (oi := _) (v := ?_) rfl (by kernel_rfl) (by kernel_rfl) (by kernel_rfl) (by kernel_rfl) (by kernel_rfl) (by kernel_rfl) hHeld (Or.inl ⟨by rfl, ?_⟩) ?_
  rotate_left
  · (intro w hSw; have d := HA2.out; go_simp; first | done | (with_reducible rfl))
  simp only [Act.put, List.getElem_toArray, List.getElem_cons_succ, List.getElem_cons_zero, List.setIfInBounds_toArray, List.set_cons_zero, List.set_cons_succ]
  refine wpR_pure (i := 7) (oi := _) (v := ?_) rfl (by kernel_rfl) (by kernel_rfl) (by kernel_rfl) (by kernel_rfl) (by kernel_rfl) (by kernel_rfl) hHeld (Or.inl ⟨by rfl, ?_⟩) ?_
  rotate_left
  · (intro w hSw; go_simp; first | done | (with_reducible rfl))
  simp only [Act.put, List.getElem_toArray, List.getElem_cons_succ, List.getElem_cons_zero, List.setIfInBounds_toArray, List.set_cons_zero, List.set_cons_succ]
  refine wpR_pure (i := 8) (oi := _) (v := ?_) rfl (by kernel_rfl) (by kernel_rfl) (by kernel_rfl) (by kernel_rfl) (by kernel_rfl) (by kernel_rfl) hHeld (Or.inl ⟨by rfl, ?_⟩) ?_
  rotate_left
  · (intro w hSw; go_simp; first | done | (with_reducible rfl))
  simp only [Act.put, List.getElem_toArray, List.getElem_cons_succ, List.getElem_cons_zero, List.setIfInBounds_toArray, List.set_cons_zero, List.set_cons_succ]
  refine wpR_pure (i := 9) (oi := _) (v := ?_) rfl (by kernel_rfl) (by kernel_rfl) (by kernel_rfl) (by kernel_rfl) (by kernel_rfl) (by kernel_rfl) hHeld (Or.inl ⟨by rfl, ?_⟩) ?_
  rotate_left
  · (intro w hSw; go_simp; first | done | (with_reducible rfl))
  simp only [Act.put, List.getElem_toArray, List.getElem_cons_succ, List.getElem_cons_zero, List.setIfInBounds_toArray, List.set_cons_zero, List.set_cons_succ]
  refine wpR_pure (i := 10) (oi := _) (v := ?_) rfl (by kernel_rfl) (by kernel_rfl) (by kernel_rfl) (by kernel_rfl) (by kernel_rfl) (by kernel_rfl) hHeld (Or.inl ⟨by rfl, ?_⟩) ?_
  rotate_left
  · (intro w hSw; have q0 := (((HS.out.grown hSw).boxGet k1m)).cellv 0 _ rfl; have q1 := (((HS.out.grown hSw).boxGet k1m)).cellv 1 _ rfl; have q2 := (((HS.out.grown hSw).boxGet k1m)).cellv 2 _ rfl; go_simp; first | done | (with_reducible rfl))
  simp only [Act.put, List.getElem_toArray, List.getElem_cons_succ, List.getElem_cons_zero, List.setIfInBounds_toArray, List.set_cons_zero, List.set_cons_succ]
  refine wpR_pure (i := 11) (oi := _) (v := ?_) rfl (by kernel_rfl) (by kernel_rfl) (by kernel_rfl) (by kernel_rfl) (by kernel_rfl) (by kernel_rfl) hHeld (Or.inl ⟨by rfl, ?_⟩) ?_
  rotate_left
  · (intro w hSw; have q0 := (((HS.out.grown hSw).boxGet k1m)).cellv 0 _ rfl; have q1 := (((HS.out.grown hSw).boxGet k1m)).cellv 1 _ rfl; have q2 := (((HS.out.grown hSw).boxGet k1m)).cellv 2 _ rfl; go_simp; first | done | (with_reducible rfl))
  simp only [Act.put, List.getElem_toArray, List.getElem_cons_succ, List.getElem_cons_zero, List.setIfInBounds_toArray, List.set_cons_zero, List.set_cons_succ]
  refine wpR_pure (i := 12) (oi := _) (v := ?_) rfl (by kernel_rfl) (by kernel_rfl) (by kernel_rfl) (by kernel_rfl) (by kernel_rfl) (by kernel_rfl) hHeld (Or.inl ⟨by rfl, ?_⟩) ?_
  rotate_left
  · (intro w hSw; go_simp; first | done | (with_reducible rfl))
  simp only [Act.put, List.getElem_toArray, List.getElem_cons_succ, List.getElem_cons_zero, List.setIfInBounds_toArray, List.set_cons_zero, List.set_cons_succ]
  refine wpR_pure (i := 14) (oi := _) (v := ?_) rfl (by kernel_rfl) (by kernel_rfl) (by kernel_rfl) (by kernel_rfl) (by kernel_rfl) (by kernel_rfl) hHeld (Or.inl ⟨by rfl, ?_⟩) ?_
  rotate_left
  · (intro w hSw; have q0 := (((HS.out.grown hSw).boxGet k1m)).cellv 0 _ rfl; have q1 := (((HS.out.grown hSw).boxGet k1m)).cellv 1 _ rfl; have q2 := (((HS.out.grown hSw).boxGet k1m)).cellv 2 _ rfl; go_simp; first | done | (with_reducible rfl))
  simp only [Act.put, List.getElem_toArray, List.getElem_cons_succ, List.getElem_cons_zero, List.setIfInBounds_toArray, List.set_cons_zero, List.set_cons_succ]
  refine wpR_some (i := 13) (oi := _) rfl (by kernel_rfl) (by kernel_rfl) (by kernel_rfl) (by kernel_rfl) (by kernel_rfl) (by kernel_rfl) hHeld (fun v => v = pv sx sy sa) rfl ⟨_, rfl⟩ ⟨by rfl, ?_⟩ ?_
  · refine .inr ⟨17, #[pv ax ay aa, pv ax ay aa, fv t], fun w => ?_, fun w hSw => ?_⟩
    · (go_simp; first | done | (with_reducible rfl))
    refine (mix_v HSELF.out w).mono ?_
    rintro e w' ⟨rfl, g⟩
    exact ⟨_, rfl, rfl, World.grownBy.trans hSw g⟩
  rintro v rfl
  simp only [Act.put, List.getElem_toArray, List.getElem_cons_succ, List.getElem_cons_zero, List.setIfInBounds_toArray, List.set_cons_zero, List.set_cons_succ]
  refine wpR_pure (i := 15) (oi := _) (v := .bool false) rfl (by kernel_rfl) (by kernel_rfl) (by kernel_rfl) (by kernel_rfl) (by kernel_rfl) (by kernel_rfl) hHeld (Or.inl ⟨by rfl, ?_⟩) ?_
  · (intro w hSw; obtain ⟨s1, s2, s3⟩ := HE1.out; have f1 := eqT' s1; have f2 := eqT' s2; have f3 := eqT' s3; go_simp; first | done | (simp; done))
  simp only [Act.put, List.getElem_toArray, List.getElem_cons_succ, List.getElem_cons_zero, List.setIfInBounds_toArray, List.set_cons_zero, List.set_cons_succ]
  refine wpR_pure (i := 16) (oi := _) (v := ?_) rfl (by kernel_rfl) (by kernel_rfl) (by kernel_rfl) (by kernel_rfl) (by kernel_rfl) (by kernel_rfl) hHeld (Or.inl ⟨by rfl, ?_⟩) ?_
  rotate_left
  · (intro w hSw; go_simp; first | done | (with_reducible rfl))
  simp only [Act.put, List.getElem_toArray, List.getElem_cons_succ, List.getElem_cons_zero, List.setIfInBounds_toArray, List.set_cons_zero, List.set_cons_succ]
  refine wpR_pure (i := 17) (oi := _) (v := ?_) rfl (by kernel_rfl) (by kernel_rfl) (by kernel_rfl) (by kernel_rfl) (by kernel_rfl) (by kernel_rfl) hHeld (Or.inl ⟨by rfl, ?_⟩) ?_
  rotate_left
  · (intro w hSw; go_simp; first | done | (with_reducible rfl))
  simp only [Act.put, List.getElem_toArray, List.getElem_cons_succ, List.getElem_cons_zero, List.setIfInBounds_toArray, List.set_cons_zero, List.set_cons_succ]
  refine wpR_pure (i := 18) (oi := _) (v := ?_) rfl (by kernel_rfl) (by kernel_rfl) (by kernel_rfl) (by kernel_rfl) (by kernel_rfl) (by kernel_rfl) hHeld (Or.inl ⟨by rfl, ?_⟩) ?_
  rotate_left
  · (intro w hSw; have q0 := (((HS.out.grown hSw).boxGet k1m)).cellv 0 _ rfl; have q1 := (((HS.out.grown hSw).boxGet k1m)).cellv 1 _ rfl; have q2 := (((HS.out.grown hSw).boxGet k1m)).cellv 2 _ rfl; go_simp; first | done | (with_reducible rfl))
  simp only [Act.put, List.getElem_toArray, List.getElem_cons_succ, List.getElem_cons_zero, List.setIfInBounds_toArray, List.set_cons_zero, List.set_cons_succ]
  refine wpR_pure (i := 19) (oi := _) (v := ?_) rfl (by kernel_rfl) (by kernel_rfl) (by kernel_rfl) (by kernel_rfl) (by kernel_rfl) (by kernel_rfl) hHeld (Or.inl ⟨by rfl, ?_⟩) ?_
  rotate_left
  · (intro w hSw; have q0 := (((HS.out.grown hSw).boxGet k2m)).cellv 0 _ rfl; have q1 := (((HS.out.grown hSw).boxGet k2m)).cellv 1 _ rfl; have q2 := (((HS.out.grown hSw).boxGet k2m)).cellv 2 _ rfl; go_simp; first | done | (with_reducible rfl))
  simp only [Act.put, List.getElem_toArray, List.getElem_cons_succ, List.getElem_cons_zero, List.setIfInBounds_toArray, List.set_cons_zero, List.set_cons_succ]
  refine wpR_pure (i := 21) (oi := _) (v := ?_) rfl (by kernel_rfl) (by kernel_rfl) (by kernel_rfl) (by kernel_rfl) (by kernel_rfl) (by kernel_rfl) hHeld (Or.inl ⟨by rfl, ?_⟩) ?_
  rotate_left
  · (intro w hSw; have q0 := (((HS.out.grown hSw).boxGet k1m)).cellv 0 _ rfl; have q1 := (((HS.out.grown hSw).boxGet k1m)).cellv 1 _ rfl; have q2 := (((HS.out.grown hSw).boxGet k1m)).cellv 2 _ rfl; go_simp; first | done | (with_reducible rfl))
  simp only [Act.put, List.getElem_toArray, List.getElem_cons_succ, List.getElem_cons_zero, List.setIfInBounds_toArray, List.set_cons_zero, List.set_cons_succ]
  refine wpR_some (i := 20) (oi := _) rfl (by kernel_rfl) (by kernel_rfl) (by kernel_rfl) (by kernel_rfl) (by kernel_rfl) (by kernel_rfl) hHeld (fun v => v = pv ax ay aa) rfl ⟨_, rfl⟩ ⟨by rfl, ?_⟩ ?_
  · refine .inr ⟨17, #[pv ax ay aa, pv bx by' ba, fv 0], fun w => ?_, fun w hSw => ?_⟩
    · (go_simp; first | done | (with_reducible rfl))
    refine (mix_v HM0.out w).mono ?_
    rintro e w' ⟨rfl, g⟩
    exact ⟨_, rfl, rfl, World.grownBy.trans hSw g⟩
  rintro v rfl
  simp only [Act.put, List.getElem_toArray, List.getElem_cons_succ, List.getElem_cons_zero, List.setIfInBounds_toArray, List.set_cons_zero, List.set_cons_succ]
  refine wpR_pure (i := 22) (oi := _) (v := .bool false) rfl (by kernel_rfl) (by kernel_rfl) (by kernel_rfl) (by kernel_rfl) (by kernel_rfl) (by kernel_rfl) hHeld (Or.inl ⟨by rfl, ?_⟩) ?_
  · (intro w hSw; obtain ⟨s1, s2, s3⟩ := HE2.out; have f1 := eqT' s1; have f2 := eqT' s2; have f3 := eqT' s3; go_simp; first | done | (simp; done))
  simp only [Act.put, List.getElem_toArray, List.getElem_cons_succ, List.getElem_cons_zero, List.setIfInBounds_toArray, List.set_cons_zero, List.set_cons_succ]
  refine wpR_pure (i := 23) (oi := _) (v := ?_) rfl (by kernel_rfl) (by kernel_rfl) (by kernel_rfl) (by kernel_rfl) (by kernel_rfl) (by kernel_rfl) hHeld (Or.inl ⟨by rfl, ?_⟩) ?_
  rotate_left
  · (intro w hSw; go_simp; first | done | (with_reducible rfl))
  simp only [Act.put, List.getElem_toArray, List.getElem_cons_succ, List.getElem_cons_zero, List.setIfInBounds_toArray, List.set_cons_zero, List.set_cons_succ]
  refine wpR_pure (i := 24) (oi := _) (v := ?_) rfl (by kernel_rfl) (by kernel_rfl) (by kernel_rfl) (by kernel_rfl) (by kernel_rfl) (by kernel_rfl) hHeld (Or.inl ⟨by rfl, ?_⟩) ?_
  rotate_left
  · (intro w hSw; go_simp; first | done | (with_reducible rfl))
  simp only [Act.put, List.getElem_toArray, List.getElem_cons_succ, List.getElem_cons_zero, List.setIfInBounds_toArray, List.set_cons_zero, List.set_cons_succ]
  refine wpR_pure (i := 25) (oi := _) (v := ?_) rfl (by kernel_rfl) (by kernel_rfl) (by kernel_rfl) (by kernel_rfl) (by kernel_rfl) (by kernel_rfl) hHeld (Or.inl ⟨by rfl, ?_⟩) ?_
  rotate_left
  · (intro w hSw; have q0 := (((HS.out.grown hSw).boxGet k1m)).cellv 0 _ rfl; have q1 := (((HS.out.grown hSw).boxGet k1m)).cellv 1 _ rfl; have q2 := (((HS.out.grown hSw).boxGet k1m)).cellv 2 _ rfl; go_simp; first | done | (with_reducible rfl))
  simp only [Act.put, List.getElem_toArray, List.getElem_cons_succ, List.getElem_cons_zero, List.setIfInBounds_toArray, List.set_cons_zero, List.set_cons_succ]
  refine wpR_pure (i := 26) (oi := _) (v := ?_) rfl (by kernel_rfl) (by kernel_rfl) (by kernel_rfl) (by kernel_rfl) (by kernel_rfl) (by kernel_rfl) hHeld (Or.inl ⟨by rfl, ?_⟩) ?_
  rotate_left
  · (intro w hSw; have q0 := (((HS.out.grown hSw).boxGet k2m)).cellv 0 _ rfl; have q1 := (((HS.out.grown hSw).boxGet k2m)).cellv 1 _ rfl; have q2 := (((HS.out.grown hSw).boxGet k2m)).cellv 2 _ rfl; go_simp; first | done | (with_reducible rfl))
  simp only [Act.put, List.getElem_toArray, List.getElem_cons_succ, List.getElem_cons_zero, List.setIfInBounds_toArray, List.set_cons_zero, List.set_cons_succ]
  refine wpR_pure (i := 28) (oi := _) (v := ?_) rfl (by kernel_rfl) (by kernel_rfl) (by kernel_rfl) (by kernel_rfl) (by kernel_rfl) (by kernel_rfl) hHeld (Or.inl ⟨by rfl, ?_⟩) ?_
  rotate_left
  · (intro w hSw; have q0 := (((HS.out.grown hSw).boxGet k2m)).cellv 0 _ rfl; have q1 := (((HS.out.grown hSw).boxGet k2m)).cellv 1 _ rfl; have q2 := (((HS.out.grown hSw).boxGet k2m)).cellv 2 _ rfl; go_simp; first | done | (with_reducible rfl))
  simp only [Act.put, List.getElem_toArray, List.getElem_cons_succ, List.getElem_cons_zero, List.setIfInBounds_toArray, List.set_cons_zero, List.set_cons_succ]
  refine wpR_some (i := 27) (oi := _) rfl (by kernel_rfl) (by kernel_rfl) (by kernel_rfl) (by kernel_rfl) (by kernel_rfl) (by kernel_rfl) hHeld (fun v => v = pv bx by' ba) rfl ⟨_, rfl⟩ ⟨by rfl, ?_⟩ ?_
  · refine .inr ⟨17, #[pv ax ay aa, pv bx by' ba, fv 1065353216], fun w => ?_, fun w hSw => ?_⟩
    · (go_simp; first | done | (with_reducible rfl))
    refine (mix_v HM1.out w).mono ?_
    rintro e w' ⟨rfl, g⟩
    exact ⟨_, rfl, rfl, World.grownBy.trans hSw g⟩
  rintro v rfl
  simp only [Act.put, List.getElem_toArray, List.getElem_cons_succ, List.getElem_cons_zero, List.setIfInBounds_toArray, List.set_cons_zero, List.set_cons_succ]
  refine wpR_pure (i := 29) (oi := _) (v := .bool false) rfl (by kernel_rfl) (by kernel_rfl) (by kernel_rfl) (by kernel_rfl) (by kernel_rfl) (by kernel_rfl) hHeld (Or.inl ⟨by rfl, ?_⟩) ?_
  · (intro w hSw; obtain ⟨s1, s2, s3⟩ := HE3.out; have f1 := eqT' s1; have f2 := eqT' s2; have f3 := eqT' s3; go_simp; first | done | (simp; done))
  simp only [Act.put, List.getElem_toArray, List.getElem_cons_succ, List.getElem_cons_zero, List.setIfInBounds_toArray, List.set_cons_zero, List.set_cons_succ]
  refine wpR_pure (i := 30) (oi := _) (v := ?_) rfl (by kernel_rfl) (by kernel_rfl) (by kernel_rfl) (by kernel_rfl) (by kernel_rfl) (by kernel_rfl) hHeld (Or.inl ⟨by rfl, ?_⟩) ?_
  rotate_left
  · (intro w hSw; go_simp; first | done | (with_reducible rfl))
  simp only [Act.put, List.getElem_toArray, List.getElem_cons_succ, List.getElem_cons_zero, List.setIfInBounds_toArray, List.set_cons_zero, List.set_cons_succ]
  refine wpR_pure (i := 31) (oi := _) (v := ?_) rfl (by kernel_rfl) (by kernel_rfl) (by kernel_rfl) (by kernel_rfl) (by kernel_rfl) (by kernel_rfl) hHeld (Or.inl ⟨by rfl, ?_⟩) ?_
  rotate_left
  · (intro w hSw; go_simp; first | done | (with_reducible rfl))
  simp only [Act.put, List.getElem_toArray, List.getElem_cons_succ, List.getElem_cons_zero, List.setIfInBounds_toArray, List.set_cons_zero, List.set_cons_succ]
  refine wpR_pure (i := 32) (oi := _) (v := ?_) rfl (by kernel_rfl) (by kernel_rfl) (by kernel_rfl) (by kernel_rfl) (by kernel_rfl) (by kernel_rfl) hHeld (Or.inl ⟨by rfl, ?_⟩) ?_
  rotate_left
  · (intro w hSw; have q0 := (((HS.out.grown hSw).boxGet k1m)).cellv 0 _ rfl; have q1 := (((HS.out.grown hSw).boxGet k1m)).cellv 1 _ rfl; have q2 := (((HS.out.grown hSw).boxGet k1m)).cellv 2 _ rfl; go_simp; first | done | (with_reducible rfl))
  simp only [Act.put, List.getElem_toArray, List.getElem_cons_succ, List.getElem_cons_zero, List.setIfInBounds_toArray, List.set_cons_zero, List.set_cons_succ]
  refine wpR_pure (i := 33) (oi := _) (v := ?_) rfl (by kernel_rfl) (by kernel_rfl) (by kernel_rfl) (by kernel_rfl) (by kernel_rfl) (by kernel_rfl) hHeld (Or.inl ⟨by rfl, ?_⟩) ?_
  rotate_left
  · (intro w hSw; have q0 := (((HS.out.grown hSw).boxGet k2m)).cellv 0 _ rfl; have q1 := (((HS.out.grown hSw).boxGet k2m)).cellv 1 _ rfl; have q2 := (((HS.out.grown hSw).boxGet k2m)).cellv 2 _ rfl; go_simp; first | done | (with_reducible rfl))
  simp only [Act.put, List.getElem_toArray, List.getElem_cons_succ, List.getElem_cons_zero, List.setIfInBounds_toArray, List.set_cons_zero, List.set_cons_succ]
  refine wpR_pure (i := 34) (oi := _) (v := ?_) rfl (by kernel_rfl) (by kernel_rfl) (by kernel_rfl) (by kernel_rfl) (by kernel_rfl) (by kernel_rfl) hHeld (Or.inl ⟨by rfl, ?_⟩) ?_
  rotate_left
  · (intro w hSw; go_simp; first | done | (with_reducible rfl))
  simp only [Act.put, List.getElem_toArray, List.getElem_cons_succ, List.getElem_cons_zero, List.setIfInBounds_toArray, List.set_cons_zero, List.set_cons_succ]
  refine wpR_pure (i := 35) (oi := _) (v := ?_) rfl (by kernel_rfl) (by kernel_rfl) (by kernel_rfl) (by kernel_rfl) (by kernel_rfl) (by kernel_rfl) hHeld (Or.inl ⟨by rfl, ?_⟩) ?_
  rotate_left
  · (intro w hSw; go_simp; first | done | (with_reducible rfl))
  simp only [Act.put, List.getElem_toArray, List.getElem_cons_succ, List.getElem_cons_zero, List.setIfInBounds_toArray, List.set_cons_zero, List.set_cons_succ]
  refine wpR_pure (i := 36) (oi := _) (v := ?_) rfl (by kernel_rfl) (by kernel_rfl) (by kernel_rfl) (by kernel_rfl) (by kernel_rfl) (by kernel_rfl) hHeld (Or.inl ⟨by rfl, ?_⟩) ?_
  rotate_left
  · (intro w hSw; go_simp; first | done | (with_reducible rfl))
  simp only [Act.put, List.getElem_toArray, List.getElem_cons_succ, List.getElem_cons_zero, List.setIfInBounds_toArray, List.set_cons_zero, List.set_cons_succ]
  refine wpR_pure (i := 39) (oi := _) (v := ?_) rfl (by kernel_rfl) (by kernel_rfl) (by kernel_rfl) (by kernel_rfl) (by kernel_rfl) (by kernel_rfl) hHeld (Or.inl ⟨by rfl, ?_⟩) ?_
  rotate_left
  · (intro w hSw; have q0 := (((HS.out.grown hSw).boxGet k1m)).cellv 0 _ rfl; have q1 := (((HS.out.grown hSw).boxGet k1m)).cellv 1 _ rfl; have q2 := (((HS.out.grown hSw).boxGet k1m)).cellv 2 _ rfl; go_simp; first | done | (with_reducible rfl))
  simp only [Act.put, List.getElem_toArray, List.getElem_cons_succ, List.getElem_cons_zero, List.setIfInBounds_toArray, List.set_cons_zero, List.set_cons_succ]
  refine wpR_some (i := 37) (oi := _) rfl (by kernel_rfl) (by kernel_rfl) (by kernel_rfl) (by kernel_rfl) (by kernel_rfl) (by kernel_rfl) hHeld (fun v => FV v (omul (V (Op.negFloat .f32 t)) (V t))) rfl ((IsV.of (Op.negFloat .f32 t)).mul (IsV.of t) w0).ex ⟨by rfl, ?_⟩ ?_
  · refine .inl fun w hSw => ?_
    obtain ⟨r, q, hr, H⟩ := mul_run (P := Try.prog) 30 (Op.negFloat .f32 t) t w
    exact ⟨.float .f32 r, w.drewN q, by go_simp, ⟨r, rfl, H⟩, World.grownBy.trans hSw (gr_drewN _ _ _)⟩
  rintro v ⟨gz, rfl, hgz⟩
  simp only [Act.put, List.getElem_toArray, List.getElem_cons_succ, List.getElem_cons_zero, List.setIfInBounds_toArray, List.set_cons_zero, List.set_cons_succ]
  refine wpR_some (i := 38) (oi := _) rfl (by kernel_rfl) (by kernel_rfl) (by kernel_rfl) (by kernel_rfl) (by kernel_rfl) (by kernel_rfl) hHeld (fun v => v = pv ax ay aa) rfl ⟨_, rfl⟩ ⟨by rfl, ?_⟩ ?_
  · refine .inr ⟨17, #[pv ax ay aa, pv bx by' ba, fv gz], fun w => ?_, fun w hSw => ?_⟩
    · (go_simp; first | done | (with_reducible rfl))
    have hz : mixV ⟨V ax, V ay, V aa⟩ ⟨V bx, V by', V ba⟩ (V gz) = ⟨some ax, some ay, some aa⟩ := by rw [hgz]; exact HMN.out
    refine (mix_v hz w).mono ?_
    rintro e w' ⟨rfl, g⟩
    exact ⟨_, rfl, rfl, World.grownBy.trans hSw g⟩
  rintro v rfl
  simp only [Act.put, List.getElem_toArray, List.getElem_cons_succ, List.getElem_cons_zero, List.setIfInBounds_toArray, List.set_cons_zero, List.set_cons_succ]
  refine wpR_pure (i := 40) (oi := _) (v := .bool false) rfl (by kernel_rfl) (by kernel_rfl) (by kernel_rfl) (by kernel_rfl) (by kernel_rfl) (by kernel_rfl) hHeld (Or.inl ⟨by rfl, ?_⟩) ?_
  · (intro w hSw; obtain ⟨s1, s2, s3⟩ := HE2.out; have f1 := eqT' s1; have f2 := eqT' s2; have f3 := eqT' s3; go_simp; first | done | (simp; done))
  simp only [Act.put, List.getElem_toArray, List.getElem_cons_succ, List.getElem_cons_zero, List.setIfInBounds_toArray, List.set_cons_zero, List.set_cons_succ]
  refine wpR_pure (i := 41) (oi := _) (v := ?_) rfl (by kernel_rfl) (by kernel_rfl) (by kernel_rfl) (by kernel_rfl) (by kernel_rfl) (by kernel_rfl) hHeld (Or.inl ⟨by rfl, ?_⟩) ?_
  rotate_left
  · (intro w hSw; go_simp; first | done | (with_reducible rfl))
  simp only [Act.put, List.getElem_toArray, List.getElem_cons_succ, List.getElem_cons_zero, List.setIfInBounds_toArray, List.set_cons_zero, List.set_cons_succ]
  refine wpR_end (by kernel_rfl) (fun w hSw => ?_)
  refine any_done (by kernel_rfl) ?_ _
  have HS6 := Keep.mk (HS.out.grown hSw)
  clear HS hSw hHeld HSELF HE1 HE2 HE3 HM0 HM1 HMN HA1 HA2
  obtain ⟨W6, hW6⟩ : ∃ W, w = W := ⟨_, rfl⟩
  rw [hW6] at HS6 ⊢
  clear hW6
  have HS := HS6
  clear HS6
  obtain ⟨n1, n2, n3, n4, n5, n6, n7, n8, n9, n10⟩ := HX.out
  obtain ⟨o1, o2, o3, o4, o5, o6, o7, o8, o9, o10⟩ := HY.out
  have l0 := (HS.out.boxGet k0m).cellv 0 _ rfl
  have l1 := (HS.out.boxGet k0m).cellv 1 _ rfl
  have l2 := (HS.out.boxGet k1m).cellv 0 _ rfl
  have l3 := (HS.out.boxGet k1m).cellv 1 _ rfl
  have l4 := (HS.out.boxGet k2m).cellv 0 _ rfl
  have l5 := (HS.out.boxGet k2m).cellv 1 _ rfl
  go_wp2_with fail
  clear l0 l1 l2 l3 l4 l5 n5 n6 n7 n8 n9 n10 o5 o6 o7 o8 o9 o10
  refine region_R (fun w => W6.grownBy w none) [15] [4, 9, 13] (fun i v => if i = 4 then (fun v => v = fv r1) v else if i = 9 then (fun v => v = fv r2) v else if i = 13 then (fun v => v = .bool true) v else False) 1 15 (by kernel_rfl) (by rfl) (gr_drew _ _) (fun hHeld => ?_)
  refine wpR_pure (i := 0) (oi := _) (v := ?_) rfl (by kernel_rfl) (by kernel_rfl) (by kernel_rfl) (by kernel_rfl) (by kernel_rfl) (by kernel_rfl) hHeld (Or.inl ⟨by rfl, ?_⟩) ?_
  rotate_left
  · (intro w hSw; go_simp; first | done | (with_reducible rfl))
  simp only [Act.put, List.getElem_toArray, List.getElem_cons_zero, List.setIfInBounds_toArray, List.set_cons_zero, List.set_cons_succ]
  refine wpR_pure (i := 1) (oi := _) (v := ?_) rfl (by kernel_rfl) (by kernel_rfl) (by kernel_rfl) (by kernel_rfl) (by kernel_rfl) (by kernel_rfl) hHeld (Or.inl ⟨by rfl, ?_⟩) ?_
  rotate_left
  · (intro w hSw; have q2 := (((HS.out.grown hSw).boxGet k1m)).cellv 2 _ rfl; go_simp; first | done | (with_reducible rfl))
  simp only [Act.put, List.getElem_toArray, List.getElem_cons_succ, List.getElem_cons_zero, List.setIfInBounds_toArray, List.set_cons_zero, List.set_cons_succ]
  refine wpR_pure (i := 2) (oi := _) (v := ?_) rfl (by kernel_rfl) (by kernel_rfl) (by kernel_rfl) (by kernel_rfl) (by kernel_rfl) (by kernel_rfl) hHeld (Or.inl ⟨by rfl, ?_⟩) ?_
  rotate_left
  · (intro w hSw; go_simp; first | done | (with_reducible rfl))
  simp only [Act.put, List.getElem_toArray, List.getElem_cons_succ, List.getElem_cons_zero, List.setIfInBounds_toArray, List.set_cons_zero, List.set_cons_succ]
  refine wpR_pure (i := 3) (oi := _) (v := ?_) rfl (by kernel_rfl) (by kernel_rfl) (by kernel_rfl) (by kernel_rfl) (by kernel_rfl) (by kernel_rfl) hHeld (Or.inl ⟨by rfl, ?_⟩) ?_
  rotate_left
  · (intro w hSw; have q2 := (((HS.out.grown hSw).boxGet k0m)).cellv 2 _ rfl; go_simp; first | done | (with_reducible rfl))
  simp only [Act.put, List.getElem_toArray, List.getElem_cons_succ, List.getElem_cons_zero, List.setIfInBounds_toArray, List.set_cons_zero, List.set_cons_succ]
  refine wpR_pure (i := 5) (oi := _) (v := ?_) rfl (by kernel_rfl) (by kernel_rfl) (by kernel_rfl) (by kernel_rfl) (by kernel_rfl) (by kernel_rfl) hHeld (Or.inl ⟨by rfl, ?_⟩) ?_
  rotate_left
  · (intro w hSw; go_simp; first | done | (with_reducible rfl))
  simp only [Act.put, List.getElem_toArray, List.getElem_cons_succ, List.getElem_cons_zero, List.setIfInBounds_toArray, List.set_cons_zero, List.set_cons_succ]
  refine wpR_pure (i := 6) (oi := _) (v := ?_) rfl (by kernel_rfl) (by kernel_rfl) (by kernel_rfl) (by kernel_rfl) (by kernel_rfl) (by kernel_rfl) hHeld (Or.inl ⟨by rfl, ?_⟩) ?_
  rotate_left
  · (intro w hSw; have q2 := (((HS.out.grown hSw).boxGet k1m)).cellv 2 _ rfl; go_simp; first | done | (with_reducible rfl))
  simp only [Act.put, List.getElem_toArray, List.getElem_cons_succ, List.getElem_cons_zero, List.setIfInBounds_toArray, List.set_cons_zero, List.set_cons_succ]
  refine wpR_pure (i := 7) (oi := _) (v := ?_) rfl (by kernel_rfl) (by kernel_rfl) (by kernel_rfl) (by kernel_rfl) (by kernel_rfl) (by kernel_rfl) hHeld (Or.inl ⟨by rfl, ?_⟩) ?_
  rotate_left
  · (intro w hSw; go_simp; first | done | (with_reducible rfl))
  simp only [Act.put, List.getElem_toArray, List.getElem_cons_succ, List.getElem_cons_zero, List.setIfInBounds_toArray, List.set_cons_zero, List.set_cons_succ]
  refine wpR_pure (i := 8) (oi := _) (v := ?_) rfl (by kernel_rfl) (by kernel_rfl) (by kernel_rfl) (by kernel_rfl) (by kernel_rfl) (by kernel_rfl) hHeld (Or.inl ⟨by rfl, ?_⟩) ?_
  rotate_left
  · (intro w hSw; have q2 := (((HS.out.grown hSw).boxGet k2m)).cellv 2 _ rfl; go_simp; first | done | (with_reducible rfl))
  simp only [Act.put, List.getElem_toArray, List.getElem_cons_succ, List.getElem_cons_zero, List.setIfInBounds_toArray, List.set_cons_zero, List.set_cons_succ]
  refine wpR_some (i := 4) (oi := _) rfl (by kernel_rfl) (by kernel_rfl) (by kernel_rfl) (by kernel_rfl) (by kernel_rfl) (by kernel_rfl) hHeld (fun v => v = fv r1) rfl ⟨_, rfl⟩ ⟨by rfl, ?_⟩ ?_
  · refine .inr ⟨18, #[fv aa, fv ma], fun w => ?_, fun w hSw => ?_⟩
    · (go_simp; first | done | (with_reducible rfl))
    refine (HW1.out w).mono ?_
    rintro e w' ⟨rfl, rfl⟩
    exact ⟨_, rfl, rfl, hSw⟩
  rintro v rfl
  simp only [Act.put, List.getElem_toArray, List.getElem_cons_succ, List.getElem_cons_zero, List.setIfInBounds_toArray, List.set_cons_zero, List.set_cons_succ]
  refine wpR_some (i := 9) (oi := _) rfl (by kernel_rfl) (by kernel_rfl) (by kernel_rfl) (by kernel_rfl) (by kernel_rfl) (by kernel_rfl) hHeld (fun v => v = fv r2) rfl ⟨_, rfl⟩ ⟨by rfl, ?_⟩ ?_
  · refine .inr ⟨18, #[fv aa, fv ba], fun w => ?_, fun w hSw => ?_⟩
    · (go_simp; first | done | (with_reducible rfl))
    refine (HW2.out w).mono ?_
    rintro e w' ⟨rfl, rfl⟩
    exact ⟨_, rfl, rfl, hSw⟩
  rintro v rfl
  simp only [Act.put, List.getElem_toArray, List.getElem_cons_succ, List.getElem_cons_zero, List.setIfInBounds_toArray, List.set_cons_zero, List.set_cons_succ]
  refine wpR_pure (i := 10) (oi := _) (v := ?_) rfl (by kernel_rfl) (by kernel_rfl) (by kernel_rfl) (by kernel_rfl) (by kernel_rfl) (by kernel_rfl) hHeld (Or.inl ⟨by rfl, ?_⟩) ?_
  rotate_left
  · (intro w hSw; have d := HP1.out; go_simp; first | done | (with_reducible rfl))
  simp only [Act.put, List.getElem_toArray, List.getElem_cons_succ, List.getElem_cons_zero, List.setIfInBounds_toArray, List.set_cons_zero, List.set_cons_succ]
  refine wpR_pure (i := 11) (oi := _) (v := ?_) rfl (by kernel_rfl) (by kernel_rfl) (by kernel_rfl) (by kernel_rfl) (by kernel_rfl) (by kernel_rfl) hHeld (Or.inl ⟨by rfl, ?_⟩) ?_
  rotate_left
  · (intro w hSw; have d := HP2.out; go_simp; first | done | (with_reducible rfl))
  simp only [Act.put, List.getElem_toArray, List.getElem_cons_succ, List.getElem_cons_zero, List.setIfInBounds_toArray, List.set_cons_zero, List.set_cons_succ]
  refine wpR_pure (i := 12) (oi := _) (v := ?_) rfl (by kernel_rfl) (by kernel_rfl) (by kernel_rfl) (by kernel_rfl) (by kernel_rfl) (by kernel_rfl) hHeld (Or.inl ⟨by rfl, ?_⟩) ?_
  rotate_left
  · (intro w hSw; go_simp; first | done | (with_reducible rfl))
  simp only [Act.put, List.getElem_toArray, List.getElem_cons_succ, List.getElem_cons_zero, List.setIfInBounds_toArray, List.set_cons_zero, List.set_cons_succ]
  refine wpR_some (i := 13) (oi := _) rfl (by kernel_rfl) (by kernel_rfl) (by kernel_rfl) (by kernel_rfl) (by kernel_rfl) (by kernel_rfl) hHeld (fun v => v = .bool true) rfl ⟨_, rfl⟩ ⟨by rfl, ?_⟩ ?_
  · refine .inr ⟨9, #[], fun w => ?_, fun w hSw => ?_⟩
    · (go_simp; first | done | (with_reducible rfl))
    refine (alive_c w).mono ?_
    rintro e w' ⟨rfl, g⟩
    exact ⟨_, rfl, rfl, World.grownBy.trans hSw g⟩
  rintro v rfl
  simp only [Act.put, List.getElem_toArray, List.getElem_cons_succ, List.getElem_cons_zero, List.setIfInBounds_toArray, List.set_cons_zero, List.set_cons_succ]
  refine wpR_pure (i := 14) (oi := _) (v := ?_) rfl (by kernel_rfl) (by kernel_rfl) (by kernel_rfl) (by kernel_rfl) (by kernel_rfl) (by kernel_rfl) hHeld (Or.inl ⟨by rfl, ?_⟩) ?_
  rotate_left
  · (intro w hSw; go_simp; first | done | (with_reducible rfl))
  simp only [Act.put, List.getElem_toArray, List.getElem_cons_succ, List.getElem_cons_zero, List.setIfInBounds_toArray, List.set_cons_zero, List.set_cons_succ]
  refine wpR_end (by kernel_rfl) (fun w hSw => ?_)
  refine any_one (i := 15) (by kernel_rfl) rfl (fun K hK => ?_)
  go_simp
  refine hK.out _ _ ?_
  clear hK K
  have HF := Keep.mk (HS.out.g.trans hSw)
  refine any_done (by kernel_rfl) ?_ _
  go_wp2_with fail
  go_ret
  exact ⟨rfl, HF.out⟩
end Sm
end Go.Proofs.Ytfhhneibdmjfgaa
