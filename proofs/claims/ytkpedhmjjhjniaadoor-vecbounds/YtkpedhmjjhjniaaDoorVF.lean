/- VecNear -/
import Derived.Test.YtkpedhmjjhjniaaDoorVC
import Derived.Deep.DeepCutAuto
namespace Go.Proofs.YtkpedhmjjhjniaaDoor
open Go Go.RowKit

theorem lz_neg (a b m : Int) (h : 0 ≤ m) : lz b a m = -lz a b m := by unfold lz kz; omega
theorem d2_symm (ax ay bx by' : Int) : d2 bx by' ax ay = d2 ax ay bx by' := by
  unfold d2
  rw [lz_neg ax bx _ (by omega), lz_neg ay by' _ (by omega)]
  grind
theorem d2_self (ax ay : Int) : d2 ax ay ax ay = 0 := by
  unfold d2
  have e1 : lz ax ax 2147483647 = 0 := by unfold lz kz; omega
  have e2 : lz ay ay 2147483647 = 0 := by unfold lz kz; omega
  rw [e1, e2]; omega
theorem wn_zero (d : Int) (h : 0 ≤ d) : wn d 0 = (d == 0) := by
  rw [wn_small d 0 (by omega) (by omega)]
  by_cases c : d = 0
  · subst c; rfl
  · rw [decide_eq_false (by omega)]; simp [c]
theorem wn_next (d r : Int) (h : wn d r = true) (h0 : 0 ≤ r) : wn d (r + 1) = true := by
  unfold wn at h ⊢
  simp only [Bool.and_eq_true, decide_eq_true_eq] at h ⊢
  refine ⟨by omega, ?_⟩
  have h1 : kz r 0 3037000499 * kz r 0 3037000499 ≤ kz (r + 1) 0 3037000499 * kz (r + 1) 0 3037000499 := sq_le (by unfold kz; omega) (by unfold kz; omega)
  omega
/-- what Len's statement wants of a root -/
structure Rt2 (X Y l A B C D : Int) : Prop where
  x0 : 0 ≤ X
  x1 : X ≤ 2147483647
  y0 : 0 ≤ Y
  y1 : Y ≤ 2147483647
  l0 : X ≤ l
  l1 : Y ≤ l
  l2 : l ≤ X + Y
  l3 : l ≤ 3037000498
  a : X * X = A
  b : Y * Y = B
  c : l * l = C
  d : (l + 1) * (l + 1) = D
  a1 : 0 ≤ A ∧ A ≤ 4611686014132420609
  b1 : 0 ≤ B ∧ B ≤ 4611686014132420609
  c1 : 0 ≤ C ∧ C ≤ A + B
  d1 : A + B < D ∧ D ≤ 9223372030926249001
theorem abs_sq (z : Int) : abs64 z * abs64 z = z * z := by unfold abs64; split <;> grind
theorem rt2_of (x y : Int) : ∃ A B C D, Rt2 (abs64 (kf x)) (abs64 (kf y)) (rt (sq2 x y)) A B C D := by
  have hs := sq2_range x y
  have hr := (rt_is (sq2 x y) hs.1 (by omega)).1
  have e : sq2 x y = abs64 (kf x) * abs64 (kf x) + abs64 (kf y) * abs64 (kf y) := by rw [abs_sq, abs_sq]; rfl
  have hx : 0 ≤ abs64 (kf x) ∧ abs64 (kf x) ≤ 2147483647 := by have := kf_range x; unfold abs64; split <;> omega
  have hy : 0 ≤ abs64 (kf y) ∧ abs64 (kf y) ≤ 2147483647 := by have := kf_range y; unfold abs64; split <;> omega
  generalize sq2 x y = s at *
  generalize abs64 (kf x) = X at *
  generalize abs64 (kf y) = Y at *
  generalize rt s = l at *
  have qx := sq_bd X (by omega)
  have qy := sq_bd Y (by omega)
  have p := hr.p
  have hl : l ≤ 3037000498 := Int.le_of_not_gt fun c => by
    have h1 := sq_le (show (0 : Int) ≤ 3037000499 by omega) (show (3037000499 : Int) ≤ l by omega)
    have h2 := hr.le
    omega
  refine ⟨_, _, _, _, hx.1, hx.2, hy.1, hy.2, ?_, ?_, ?_, hl, rfl, rfl, rfl, rfl, qx, qy, ⟨sq0 l, by have := hr.le; omega⟩, by have := hr.lt; omega, ?_⟩
  · refine Int.le_of_not_gt fun c => ?_
    have h1 := sq_le (show 0 ≤ l + 1 by omega) (show l + 1 ≤ X by omega)
    have h2 := hr.lt
    omega
  · refine Int.le_of_not_gt fun c => ?_
    have h1 := sq_le (show 0 ≤ l + 1 by omega) (show l + 1 ≤ Y by omega)
    have h2 := hr.lt
    omega
  · refine Int.le_of_not_gt fun c => ?_
    have h1 := sq_le (show 0 ≤ X + Y + 1 by omega) (show X + Y + 1 ≤ l by omega)
    have h2 := hr.le
    have h3 : 0 ≤ X * Y := Int.mul_nonneg hx.1 hy.1
    have h4 : (X + Y + 1) * (X + Y + 1) = X * X + Y * Y + 2 * (X * Y) + 2 * X + 2 * Y + 1 := by grind
    omega
  · have h1 := sq_le (show 0 ≤ l + 1 by omega) (show l + 1 ≤ 3037000499 by omega)
    omega
/-- of small places: the way's length and the distance -/
structure Nr (wx wy d m M A B : Int) : Prop where
  w0 : -1073741824 ≤ wx ∧ wx ≤ 1073741824
  w1 : -1073741824 ≤ wy ∧ wy ≤ 1073741824
  m0 : 0 ≤ m
  m1 : m ≤ 3037000498
  e1 : IntKind.i64.wrap (wx * wx) = A
  e2 : IntKind.i64.wrap (wy * wy) = B
  e3 : IntKind.i64.wrap (A + B) = d
  e4 : IntKind.i64.wrap (m * m) = M
  up : wn d (m + 1) = true
  dn : 0 < m → wn d (m - 1) = false
  at' : wn d m = (M == d)
theorem nr_of {ax ay bx by' : Int} (h1 : Sm ax) (h2 : Sm ay) (h3 : Sm bx) (h4 : Sm by') : ∃ M A B, Nr (ax - bx) (ay - by') (d2 ax ay bx by') (rt (sq2 (ax - bx) (ay - by'))) M A B := by
  have a1 := h1.a0; have a2 := h1.a1; have a3 := h2.a0; have a4 := h2.a1
  have b1 := h3.a0; have b2 := h3.a1; have b3 := h4.a0; have b4 := h4.a1
  have w0 : -1073741824 ≤ ax - bx ∧ ax - bx ≤ 1073741824 := by omega
  have w1 : -1073741824 ≤ ay - by' ∧ ay - by' ≤ 1073741824 := by omega
  have e1 : d2 ax ay bx by' = (ax - bx) * (ax - bx) + (ay - by') * (ay - by') := by
    have f1 : lz ax bx 2147483647 = ax - bx := df_sm h1 h3
    have f2 : lz ay by' 2147483647 = ay - by' := df_sm h2 h4
    unfold d2; rw [f1, f2]
  have e2 : sq2 (ax - bx) (ay - by') = (ax - bx) * (ax - bx) + (ay - by') * (ay - by') := by
    have f1 : kf (ax - bx) = ax - bx := by unfold kf kz; omega
    have f2 : kf (ay - by') = ay - by' := by unfold kf kz; omega
    unfold sq2; rw [f1, f2]
  rw [e1, e2]
  clear e1 e2
  generalize ax - bx = x at *
  generalize ay - by' = y at *
  have qx := sq_bd x (by omega)
  have qy := sq_bd y (by omega)
  have hr := (rt_is (x * x + y * y) (by omega) (by omega)).1
  obtain ⟨s, hs⟩ : ∃ s, x * x + y * y = s := ⟨_, rfl⟩
  have hs0 : 0 ≤ s ∧ s ≤ 9223372028264841218 := by omega
  rw [hs] at hr ⊢
  generalize rt s = m at *
  have p := hr.p
  have hm : m ≤ 3037000498 := Int.le_of_not_gt fun c => by
    have h1 := sq_le (show (0 : Int) ≤ 3037000499 by omega) (show (3037000499 : Int) ≤ m by omega)
    have h2 := hr.le
    omega
  have hle := hr.le
  have hm0 := sq0 m
  refine ⟨m * m, x * x, y * y, w0, w1, p, hm, by rw [IntKind.wrap_i64]; omega, by rw [IntKind.wrap_i64]; omega, by rw [IntKind.wrap_i64]; omega, by rw [IntKind.wrap_i64]; omega, ?_, fun h => ?_, ?_⟩
  · rw [wn_small s (m + 1) (by omega) (by omega)]
    have := hr.lt
    exact decide_eq_true (by omega)
  · rw [wn_small s (m - 1) (by omega) (by omega)]
    have h2 : (m - 1) * (m - 1) = m * m - 2 * m + 1 := by grind
    exact decide_eq_false (by omega)
  · rw [wn_small s m p (by omega)]
    by_cases c : m * m = s
    · rw [c]; simp
    · rw [decide_eq_false (by omega)]; simp [c]
set_option maxHeartbeats 16000000 in
set_option maxRecDepth 100000 in
theorem near_any (ax ay bx by' r : Int) (h1 : In ax) (h2 : In ay) (h3 : In bx) (h4 : In by') (hr : In r) (w : World) (hk : Kc w) :
    Calls Tryd.prog 5 #[vv ax ay, vv bx by', .int .i64 r] w fun e w' => e = .returned (.bool true) ∧ w.grownBy w' none := by
  have HK := Keep.mk (((Bx.start hk).new ax ay).new bx by')
  rw [size_alloc] at HK
  obtain ⟨b3, hb3⟩ : ∃ b, w.heap.size = b := ⟨_, rfl⟩
  obtain ⟨b4, hb4⟩ : ∃ b, b3 + 1 = b := ⟨_, rfl⟩
  obtain ⟨W0, hW0⟩ : ∃ W, (w.alloc (.cells #[.int .i64 ax, .int .i64 ay] 25)).alloc (.cells #[.int .i64 bx, .int .i64 by'] 25) = W := ⟨_, rfl⟩
  rw [hb3, hb4, hW0] at HK
  have hd := d2_range ax ay bx by'
  have c0 := fun W (hk : Kc W) => alive_c W hk
  have c1 := fun W (hk : Kc W) => dist_c ax ay bx by' h1 h2 h3 h4 W hk
  have c2 := fun W (hk : Kc W) => dist_c bx by' ax ay h3 h4 h1 h2 W hk
  rw [d2_symm] at c2
  have c3 := fun W (hk : Kc W) => dist_c ax ay ax ay h1 h2 h1 h2 W hk
  rw [d2_self] at c3
  have cw := fun r W (hk : Kc W) => within_c ax ay bx by' r h1 h2 h3 h4 W hk
  have c4 := fun W (hk : Kc W) => cw r W hk
  have c5 := fun W (hk : Kc W) => within_c bx by' ax ay r h3 h4 h1 h2 W hk
  rw [d2_symm] at c5
  have c6 := fun W (hk : Kc W) => cw (-1) W hk
  rw [wn_neg _ _ (by omega)] at c6
  have c7 := fun W (hk : Kc W) => cw 4611686018427387904 W hk
  rw [wn_big _ _ hd.2 (by omega)] at c7
  have c8 := fun W (hk : Kc W) => cw 0 W hk
  rw [wn_zero _ hd.1] at c8
  have cl := fun W (hk : Kc W) => len_c ax ay W hk
  have cs1 := fun W => size_c ax W
  have cs2 := fun W => size_c ay W
  obtain ⟨A, B, C, D, HR⟩ := rt2_of ax ay
  have c9 := fun W (hk : Kc W) => small_c ax ay bx by' W hk
  have cm := fun W (hk : Kc W) => len_c (ax - bx) (ay - by') W hk
  have HN : Keep (smB ax ay bx by' = true → ∃ M A B, Nr (ax - bx) (ay - by') (d2 ax ay bx by') (rt (sq2 (ax - bx) (ay - by'))) M A B) := ⟨fun h => by
    obtain ⟨s1, s2, s3, s4⟩ := sm_of h
    exact nr_of s1 s2 s3 s4⟩
  replace HR := Keep.mk HR
  generalize d2 ax ay bx by' = d at *
  generalize rt (sq2 ax ay) = l at *
  generalize rt (sq2 (ax - bx) (ay - by')) = m at *
  generalize abs64 (kf ax) = X at *
  generalize abs64 (kf ay) = Y at *
  generalize smB ax ay bx by' = sm at *
  have hd0 : ¬ d < 0 := by omega
  have hr1 : -9223372036854775808 ≤ r ∧ r ≤ 9223372036854775807 := hr
  clear hk h1 h2 h3 h4 hd hr
  go_enter Tryd.func5, Tryd.ntmps5
  go_wp2_with fail
  refine (c0 _ HK.out.k).mono ?_
  rintro e w0 ⟨rfl, hg⟩
  have HB := Keep.mk (HK.out.kept hg)
  clear hg HK c0 hW0 hb3 hb4 W0
  have p0 := (HB.out.has _ _ _ (.tail _ (.head _))).cellv 0 _ rfl
  have p1 := (HB.out.has _ _ _ (.tail _ (.head _))).cellv 1 _ rfl
  have q0 := (HB.out.has _ _ _ (.head _)).cellv 0 _ rfl
  have q1 := (HB.out.has _ _ _ (.head _)).cellv 1 _ rfl
  go_wp2_with fail
  refine (c1 _ HB.out.k).mono ?_
  rintro e w1 ⟨rfl, hg⟩
  clear p0 p1 q0 q1
  replace HB := Keep.mk (HB.out.kept hg)
  clear hg
  clear c1
  go_wp2_with fail
  refine wp_region_held_drew (S := fun w' => Bx w w' [(b4, bx, by'), (b3, ax, ay)]) (by kernel_rfl) (HB.out.kept (gr_drew _ _)) (fun hHeld => ?_)
  replace HB := Keep.mk hHeld
  refine wpAnyH_take (i := 0) (oi := _) (v := ?_) rfl (by kernel_rfl) (by kernel_rfl) (by kernel_rfl) (fun _ _ _ h => h) (Or.inl ⟨by rfl, ?_⟩) (by assumption) ?_
  rotate_left
  · (intro w hSw; go_simp; first | done | (with_reducible rfl))
  simp only [Act.put, List.getElem_toArray, List.getElem_cons_zero, List.setIfInBounds_toArray, List.set_cons_zero, List.set_cons_succ]
  refine wpAnyH_take (i := 1) (oi := _) (v := ?_) rfl (by kernel_rfl) (by kernel_rfl) (by kernel_rfl) (fun _ _ _ h => h) (Or.inl ⟨by rfl, ?_⟩) (by assumption) ?_
  rotate_left
  · (intro w hSw; have hq : decide (d < 0) = false := decide_eq_false (by omega); go_simp; first | done | (with_reducible rfl))
  simp only [Act.put, List.getElem_toArray, List.getElem_cons_succ, List.getElem_cons_zero, List.setIfInBounds_toArray, List.set_cons_zero, List.set_cons_succ]
  refine wpAnyH_take (i := 2) (oi := _) (v := ?_) rfl (by kernel_rfl) (by kernel_rfl) (by kernel_rfl) (fun _ _ _ h => h) (Or.inl ⟨by rfl, ?_⟩) (by assumption) ?_
  rotate_left
  · (intro w hSw; go_simp; first | done | (with_reducible rfl))
  simp only [Act.put, List.getElem_toArray, List.getElem_cons_succ, List.getElem_cons_zero, List.setIfInBounds_toArray, List.set_cons_zero, List.set_cons_succ]
  refine wpAnyH_take (i := 3) (oi := _) (v := ?_) rfl (by kernel_rfl) (by kernel_rfl) (by kernel_rfl) (fun _ _ _ h => h) (Or.inl ⟨by rfl, ?_⟩) (by assumption) ?_
  rotate_left
  · (intro w hSw; go_simp; first | done | (with_reducible rfl))
  simp only [Act.put, List.getElem_toArray, List.getElem_cons_succ, List.getElem_cons_zero, List.setIfInBounds_toArray, List.set_cons_zero, List.set_cons_succ]
  refine wpAnyH_take (i := 4) (oi := _) (v := ?_) rfl (by kernel_rfl) (by kernel_rfl) (by kernel_rfl) (fun _ _ _ h => h) (Or.inl ⟨by rfl, ?_⟩) (by assumption) ?_
  rotate_left
  · (intro w hSw; have q0 := (hSw.has _ _ _ (.head _)).cellv 0 _ rfl; have q1 := (hSw.has _ _ _ (.head _)).cellv 1 _ rfl; go_simp; first | done | (with_reducible rfl))
  simp only [Act.put, List.getElem_toArray, List.getElem_cons_succ, List.getElem_cons_zero, List.setIfInBounds_toArray, List.set_cons_zero, List.set_cons_succ]
  refine wpAnyH_take (i := 5) (oi := _) (v := ?_) rfl (by kernel_rfl) (by kernel_rfl) (by kernel_rfl) (fun _ _ _ h => h) (Or.inl ⟨by rfl, ?_⟩) (by assumption) ?_
  rotate_left
  · (intro w hSw; have q0 := (hSw.has _ _ _ (.tail _ (.head _))).cellv 0 _ rfl; have q1 := (hSw.has _ _ _ (.tail _ (.head _))).cellv 1 _ rfl; go_simp; first | done | (with_reducible rfl))
  simp only [Act.put, List.getElem_toArray, List.getElem_cons_succ, List.getElem_cons_zero, List.setIfInBounds_toArray, List.set_cons_zero, List.set_cons_succ]
  refine wpAnyH_ready (rs := [6]) (by kernel_rfl) (by simp) ?_
  refine AllReadyH.cons rfl (fun K hK => ?_) AllReadyH.nil
  go_simp
  refine (c2 _ HB.out.k).mono ?_
  rintro e wg ⟨rfl, hg⟩
  replace HB := Keep.mk (HB.out.kept hg)
  refine hK.out _ _ HB.out (fun hHeld => ?_)
  clear hK K hg
  refine wpAnyH_take (i := 7) (oi := _) (v := ?_) rfl (by kernel_rfl) (by kernel_rfl) (by kernel_rfl) (fun _ _ _ h => h) (Or.inl ⟨by rfl, ?_⟩) (by assumption) ?_
  rotate_left
  · (intro w hSw; go_simp; first | done | (with_reducible rfl))
  simp only [Act.put, List.getElem_toArray, List.getElem_cons_succ, List.getElem_cons_zero, List.setIfInBounds_toArray, List.set_cons_zero, List.set_cons_succ]
  refine wpAnyH_take (i := 8) (oi := _) (v := ?_) rfl (by kernel_rfl) (by kernel_rfl) (by kernel_rfl) (fun _ _ _ h => h) (Or.inl ⟨by rfl, ?_⟩) (by assumption) ?_
  rotate_left
  · (intro w hSw; go_simp; first | done | (with_reducible rfl))
  simp only [Act.put, List.getElem_toArray, List.getElem_cons_succ, List.getElem_cons_zero, List.setIfInBounds_toArray, List.set_cons_zero, List.set_cons_succ]
  refine wpAnyH_take (i := 9) (oi := _) (v := ?_) rfl (by kernel_rfl) (by kernel_rfl) (by kernel_rfl) (fun _ _ _ h => h) (Or.inl ⟨by rfl, ?_⟩) (by assumption) ?_
  rotate_left
  · (intro w hSw; go_simp; first | done | (with_reducible rfl))
  simp only [Act.put, List.getElem_toArray, List.getElem_cons_succ, List.getElem_cons_zero, List.setIfInBounds_toArray, List.set_cons_zero, List.set_cons_succ]
  refine wpAnyH_take (i := 10) (oi := _) (v := ?_) rfl (by kernel_rfl) (by kernel_rfl) (by kernel_rfl) (fun _ _ _ h => h) (Or.inl ⟨by rfl, ?_⟩) (by assumption) ?_
  rotate_left
  · (intro w hSw; have q0 := (hSw.has _ _ _ (.tail _ (.head _))).cellv 0 _ rfl; have q1 := (hSw.has _ _ _ (.tail _ (.head _))).cellv 1 _ rfl; go_simp; first | done | (with_reducible rfl))
  simp only [Act.put, List.getElem_toArray, List.getElem_cons_succ, List.getElem_cons_zero, List.setIfInBounds_toArray, List.set_cons_zero, List.set_cons_succ]
  refine wpAnyH_take (i := 11) (oi := _) (v := ?_) rfl (by kernel_rfl) (by kernel_rfl) (by kernel_rfl) (fun _ _ _ h => h) (Or.inl ⟨by rfl, ?_⟩) (by assumption) ?_
  rotate_left
  · (intro w hSw; have q0 := (hSw.has _ _ _ (.tail _ (.head _))).cellv 0 _ rfl; have q1 := (hSw.has _ _ _ (.tail _ (.head _))).cellv 1 _ rfl; go_simp; first | done | (with_reducible rfl))
  simp only [Act.put, List.getElem_toArray, List.getElem_cons_succ, List.getElem_cons_zero, List.setIfInBounds_toArray, List.set_cons_zero, List.set_cons_succ]
  refine wpAnyH_ready (rs := [12]) (by kernel_rfl) (by simp) ?_
  refine AllReadyH.cons rfl (fun K hK => ?_) AllReadyH.nil
  go_simp
  refine (c3 _ HB.out.k).mono ?_
  rintro e wg ⟨rfl, hg⟩
  replace HB := Keep.mk (HB.out.kept hg)
  refine hK.out _ _ HB.out (fun hHeld => ?_)
  clear hK K hg
  refine wpAnyH_take (i := 13) (oi := _) (v := ?_) rfl (by kernel_rfl) (by kernel_rfl) (by kernel_rfl) (fun _ _ _ h => h) (Or.inl ⟨by rfl, ?_⟩) (by assumption) ?_
  rotate_left
  · (intro w hSw; go_simp; first | done | (with_reducible rfl))
  simp only [Act.put, List.getElem_toArray, List.getElem_cons_succ, List.getElem_cons_zero, List.setIfInBounds_toArray, List.set_cons_zero, List.set_cons_succ]
  refine wpAnyH_take (i := 14) (oi := _) (v := ?_) rfl (by kernel_rfl) (by kernel_rfl) (by kernel_rfl) (fun _ _ _ h => h) (Or.inl ⟨by rfl, ?_⟩) (by assumption) ?_
  rotate_left
  · (intro w hSw; go_simp; first | done | (with_reducible rfl))
  simp only [Act.put, List.getElem_toArray, List.getElem_cons_succ, List.getElem_cons_zero, List.setIfInBounds_toArray, List.set_cons_zero, List.set_cons_succ]
  refine wpAnyH_take (i := 15) (oi := _) (v := ?_) rfl (by kernel_rfl) (by kernel_rfl) (by kernel_rfl) (fun _ _ _ h => h) (Or.inl ⟨by rfl, ?_⟩) (by assumption) ?_
  rotate_left
  · (intro w hSw; go_simp; first | done | (with_reducible rfl))
  simp only [Act.put, List.getElem_toArray, List.getElem_cons_succ, List.getElem_cons_zero, List.setIfInBounds_toArray, List.set_cons_zero, List.set_cons_succ]
  refine wpAnyH_take (i := 16) (oi := _) (v := ?_) rfl (by kernel_rfl) (by kernel_rfl) (by kernel_rfl) (fun _ _ _ h => h) (Or.inl ⟨by rfl, ?_⟩) (by assumption) ?_
  rotate_left
  · (intro w hSw; have q0 := (hSw.has _ _ _ (.tail _ (.head _))).cellv 0 _ rfl; have q1 := (hSw.has _ _ _ (.tail _ (.head _))).cellv 1 _ rfl; go_simp; first | done | (with_reducible rfl))
  simp only [Act.put, List.getElem_toArray, List.getElem_cons_succ, List.getElem_cons_zero, List.setIfInBounds_toArray, List.set_cons_zero, List.set_cons_succ]
  refine wpAnyH_take (i := 17) (oi := _) (v := ?_) rfl (by kernel_rfl) (by kernel_rfl) (by kernel_rfl) (fun _ _ _ h => h) (Or.inl ⟨by rfl, ?_⟩) (by assumption) ?_
  rotate_left
  · (intro w hSw; have q0 := (hSw.has _ _ _ (.head _)).cellv 0 _ rfl; have q1 := (hSw.has _ _ _ (.head _)).cellv 1 _ rfl; go_simp; first | done | (with_reducible rfl))
  simp only [Act.put, List.getElem_toArray, List.getElem_cons_succ, List.getElem_cons_zero, List.setIfInBounds_toArray, List.set_cons_zero, List.set_cons_succ]
  refine wpAnyH_take (i := 18) (oi := _) (v := ?_) rfl (by kernel_rfl) (by kernel_rfl) (by kernel_rfl) (fun _ _ _ h => h) (Or.inl ⟨by rfl, ?_⟩) (by assumption) ?_
  rotate_left
  · (intro w hSw; go_simp; first | done | (with_reducible rfl))
  simp only [Act.put, List.getElem_toArray, List.getElem_cons_succ, List.getElem_cons_zero, List.setIfInBounds_toArray, List.set_cons_zero, List.set_cons_succ]
  refine wpAnyH_take (i := 20) (oi := _) (v := ?_) rfl (by kernel_rfl) (by kernel_rfl) (by kernel_rfl) (fun _ _ _ h => h) (Or.inl ⟨by rfl, ?_⟩) (by assumption) ?_
  rotate_left
  · (intro w hSw; have q0 := (hSw.has _ _ _ (.head _)).cellv 0 _ rfl; have q1 := (hSw.has _ _ _ (.head _)).cellv 1 _ rfl; go_simp; first | done | (with_reducible rfl))
  simp only [Act.put, List.getElem_toArray, List.getElem_cons_succ, List.getElem_cons_zero, List.setIfInBounds_toArray, List.set_cons_zero, List.set_cons_succ]
  refine wpAnyH_take (i := 21) (oi := _) (v := ?_) rfl (by kernel_rfl) (by kernel_rfl) (by kernel_rfl) (fun _ _ _ h => h) (Or.inl ⟨by rfl, ?_⟩) (by assumption) ?_
  rotate_left
  · (intro w hSw; have q0 := (hSw.has _ _ _ (.tail _ (.head _))).cellv 0 _ rfl; have q1 := (hSw.has _ _ _ (.tail _ (.head _))).cellv 1 _ rfl; go_simp; first | done | (with_reducible rfl))
  simp only [Act.put, List.getElem_toArray, List.getElem_cons_succ, List.getElem_cons_zero, List.setIfInBounds_toArray, List.set_cons_zero, List.set_cons_succ]
  refine wpAnyH_take (i := 22) (oi := _) (v := ?_) rfl (by kernel_rfl) (by kernel_rfl) (by kernel_rfl) (fun _ _ _ h => h) (Or.inl ⟨by rfl, ?_⟩) (by assumption) ?_
  rotate_left
  · (intro w hSw; go_simp; first | done | (with_reducible rfl))
  simp only [Act.put, List.getElem_toArray, List.getElem_cons_succ, List.getElem_cons_zero, List.setIfInBounds_toArray, List.set_cons_zero, List.set_cons_succ]
  refine wpAnyH_ready (rs := [19]) (by kernel_rfl) (by simp) ?_
  refine AllReadyH.cons rfl (fun K hK => ?_) AllReadyH.nil
  go_simp
  refine (c4 _ HB.out.k).mono ?_
  rintro e wg ⟨rfl, hg⟩
  replace HB := Keep.mk (HB.out.kept hg)
  refine hK.out _ _ HB.out (fun hHeld => ?_)
  clear hK K hg
  refine wpAnyH_ready (rs := [23]) (by kernel_rfl) (by simp) ?_
  refine AllReadyH.cons rfl (fun K hK => ?_) AllReadyH.nil
  go_simp
  refine (c5 _ HB.out.k).mono ?_
  rintro e wg ⟨rfl, hg⟩
  replace HB := Keep.mk (HB.out.kept hg)
  refine hK.out _ _ HB.out (fun hHeld => ?_)
  clear hK K hg
  refine wpAnyH_take (i := 24) (oi := _) (v := ?_) rfl (by kernel_rfl) (by kernel_rfl) (by kernel_rfl) (fun _ _ _ h => h) (Or.inl ⟨by rfl, ?_⟩) (by assumption) ?_
  rotate_left
  · (intro w hSw; go_simp; first | done | (with_reducible rfl))
  simp only [Act.put, List.getElem_toArray, List.getElem_cons_succ, List.getElem_cons_zero, List.setIfInBounds_toArray, List.set_cons_zero, List.set_cons_succ]
  refine wpAnyH_take (i := 25) (oi := _) (v := ?_) rfl (by kernel_rfl) (by kernel_rfl) (by kernel_rfl) (fun _ _ _ h => h) (Or.inl ⟨by rfl, ?_⟩) (by assumption) ?_
  rotate_left
  · (intro w hSw; go_simp; first | done | (with_reducible rfl))
  simp only [Act.put, List.getElem_toArray, List.getElem_cons_succ, List.getElem_cons_zero, List.setIfInBounds_toArray, List.set_cons_zero, List.set_cons_succ]
  refine wpAnyH_take (i := 26) (oi := _) (v := ?_) rfl (by kernel_rfl) (by kernel_rfl) (by kernel_rfl) (fun _ _ _ h => h) (Or.inl ⟨by rfl, ?_⟩) (by assumption) ?_
  rotate_left
  · (intro w hSw; go_simp; first | done | (with_reducible rfl))
  simp only [Act.put, List.getElem_toArray, List.getElem_cons_succ, List.getElem_cons_zero, List.setIfInBounds_toArray, List.set_cons_zero, List.set_cons_succ]
  refine wpAnyH_take (i := 27) (oi := _) (v := ?_) rfl (by kernel_rfl) (by kernel_rfl) (by kernel_rfl) (fun _ _ _ h => h) (Or.inl ⟨by rfl, ?_⟩) (by assumption) ?_
  rotate_left
  · (intro w hSw; have q0 := (hSw.has _ _ _ (.tail _ (.head _))).cellv 0 _ rfl; have q1 := (hSw.has _ _ _ (.tail _ (.head _))).cellv 1 _ rfl; go_simp; first | done | (with_reducible rfl))
  simp only [Act.put, List.getElem_toArray, List.getElem_cons_succ, List.getElem_cons_zero, List.setIfInBounds_toArray, List.set_cons_zero, List.set_cons_succ]
  refine wpAnyH_take (i := 28) (oi := _) (v := ?_) rfl (by kernel_rfl) (by kernel_rfl) (by kernel_rfl) (fun _ _ _ h => h) (Or.inl ⟨by rfl, ?_⟩) (by assumption) ?_
  rotate_left
  · (intro w hSw; have q0 := (hSw.has _ _ _ (.head _)).cellv 0 _ rfl; have q1 := (hSw.has _ _ _ (.head _)).cellv 1 _ rfl; go_simp; first | done | (with_reducible rfl))
  simp only [Act.put, List.getElem_toArray, List.getElem_cons_succ, List.getElem_cons_zero, List.setIfInBounds_toArray, List.set_cons_zero, List.set_cons_succ]
  refine wpAnyH_ready (rs := [29]) (by kernel_rfl) (by simp) ?_
  refine AllReadyH.cons rfl (fun K hK => ?_) AllReadyH.nil
  go_simp
  refine (c6 _ HB.out.k).mono ?_
  rintro e wg ⟨rfl, hg⟩
  replace HB := Keep.mk (HB.out.kept hg)
  refine hK.out _ _ HB.out (fun hHeld => ?_)
  clear hK K hg
  refine wpAnyH_take (i := 30) (oi := _) (v := ?_) rfl (by kernel_rfl) (by kernel_rfl) (by kernel_rfl) (fun _ _ _ h => h) (Or.inl ⟨by rfl, ?_⟩) (by assumption) ?_
  rotate_left
  · (intro w hSw; go_simp; first | done | (with_reducible rfl))
  simp only [Act.put, List.getElem_toArray, List.getElem_cons_succ, List.getElem_cons_zero, List.setIfInBounds_toArray, List.set_cons_zero, List.set_cons_succ]
  refine wpAnyH_take (i := 31) (oi := _) (v := ?_) rfl (by kernel_rfl) (by kernel_rfl) (by kernel_rfl) (fun _ _ _ h => h) (Or.inl ⟨by rfl, ?_⟩) (by assumption) ?_
  rotate_left
  · (intro w hSw; go_simp; first | done | (with_reducible rfl))
  simp only [Act.put, List.getElem_toArray, List.getElem_cons_succ, List.getElem_cons_zero, List.setIfInBounds_toArray, List.set_cons_zero, List.set_cons_succ]
  refine wpAnyH_take (i := 32) (oi := _) (v := ?_) rfl (by kernel_rfl) (by kernel_rfl) (by kernel_rfl) (fun _ _ _ h => h) (Or.inl ⟨by rfl, ?_⟩) (by assumption) ?_
  rotate_left
  · (intro w hSw; have q0 := (hSw.has _ _ _ (.tail _ (.head _))).cellv 0 _ rfl; have q1 := (hSw.has _ _ _ (.tail _ (.head _))).cellv 1 _ rfl; go_simp; first | done | (with_reducible rfl))
  simp only [Act.put, List.getElem_toArray, List.getElem_cons_succ, List.getElem_cons_zero, List.setIfInBounds_toArray, List.set_cons_zero, List.set_cons_succ]
  refine wpAnyH_take (i := 33) (oi := _) (v := ?_) rfl (by kernel_rfl) (by kernel_rfl) (by kernel_rfl) (fun _ _ _ h => h) (Or.inl ⟨by rfl, ?_⟩) (by assumption) ?_
  rotate_left
  · (intro w hSw; have q0 := (hSw.has _ _ _ (.head _)).cellv 0 _ rfl; have q1 := (hSw.has _ _ _ (.head _)).cellv 1 _ rfl; go_simp; first | done | (with_reducible rfl))
  simp only [Act.put, List.getElem_toArray, List.getElem_cons_succ, List.getElem_cons_zero, List.setIfInBounds_toArray, List.set_cons_zero, List.set_cons_succ]
  refine wpAnyH_ready (rs := [34]) (by kernel_rfl) (by simp) ?_
  refine AllReadyH.cons rfl (fun K hK => ?_) AllReadyH.nil
  go_simp
  refine (c7 _ HB.out.k).mono ?_
  rintro e wg ⟨rfl, hg⟩
  replace HB := Keep.mk (HB.out.kept hg)
  refine hK.out _ _ HB.out (fun hHeld => ?_)
  clear hK K hg
  refine wpAnyH_take (i := 35) (oi := _) (v := ?_) rfl (by kernel_rfl) (by kernel_rfl) (by kernel_rfl) (fun _ _ _ h => h) (Or.inl ⟨by rfl, ?_⟩) (by assumption) ?_
  rotate_left
  · (intro w hSw; go_simp; first | done | (with_reducible rfl))
  simp only [Act.put, List.getElem_toArray, List.getElem_cons_succ, List.getElem_cons_zero, List.setIfInBounds_toArray, List.set_cons_zero, List.set_cons_succ]
  refine wpAnyH_take (i := 36) (oi := _) (v := ?_) rfl (by kernel_rfl) (by kernel_rfl) (by kernel_rfl) (fun _ _ _ h => h) (Or.inl ⟨by rfl, ?_⟩) (by assumption) ?_
  rotate_left
  · (intro w hSw; go_simp; first | done | (with_reducible rfl))
  simp only [Act.put, List.getElem_toArray, List.getElem_cons_succ, List.getElem_cons_zero, List.setIfInBounds_toArray, List.set_cons_zero, List.set_cons_succ]
  refine wpAnyH_take (i := 37) (oi := _) (v := ?_) rfl (by kernel_rfl) (by kernel_rfl) (by kernel_rfl) (fun _ _ _ h => h) (Or.inl ⟨by rfl, ?_⟩) (by assumption) ?_
  rotate_left
  · (intro w hSw; go_simp; first | done | (with_reducible rfl))
  simp only [Act.put, List.getElem_toArray, List.getElem_cons_succ, List.getElem_cons_zero, List.setIfInBounds_toArray, List.set_cons_zero, List.set_cons_succ]
  refine wpAnyH_take (i := 38) (oi := _) (v := ?_) rfl (by kernel_rfl) (by kernel_rfl) (by kernel_rfl) (fun _ _ _ h => h) (Or.inl ⟨by rfl, ?_⟩) (by assumption) ?_
  rotate_left
  · (intro w hSw; have q0 := (hSw.has _ _ _ (.tail _ (.head _))).cellv 0 _ rfl; have q1 := (hSw.has _ _ _ (.tail _ (.head _))).cellv 1 _ rfl; go_simp; first | done | (with_reducible rfl))
  simp only [Act.put, List.getElem_toArray, List.getElem_cons_succ, List.getElem_cons_zero, List.setIfInBounds_toArray, List.set_cons_zero, List.set_cons_succ]
  refine wpAnyH_take (i := 39) (oi := _) (v := ?_) rfl (by kernel_rfl) (by kernel_rfl) (by kernel_rfl) (fun _ _ _ h => h) (Or.inl ⟨by rfl, ?_⟩) (by assumption) ?_
  rotate_left
  · (intro w hSw; have q0 := (hSw.has _ _ _ (.head _)).cellv 0 _ rfl; have q1 := (hSw.has _ _ _ (.head _)).cellv 1 _ rfl; go_simp; first | done | (with_reducible rfl))
  simp only [Act.put, List.getElem_toArray, List.getElem_cons_succ, List.getElem_cons_zero, List.setIfInBounds_toArray, List.set_cons_zero, List.set_cons_succ]
  refine wpAnyH_take (i := 41) (oi := _) (v := ?_) rfl (by kernel_rfl) (by kernel_rfl) (by kernel_rfl) (fun _ _ _ h => h) (Or.inl ⟨by rfl, ?_⟩) (by assumption) ?_
  rotate_left
  · (intro w hSw; go_simp; first | done | (with_reducible rfl))
  simp only [Act.put, List.getElem_toArray, List.getElem_cons_succ, List.getElem_cons_zero, List.setIfInBounds_toArray, List.set_cons_zero, List.set_cons_succ]
  refine wpAnyH_take (i := 42) (oi := _) (v := ?_) rfl (by kernel_rfl) (by kernel_rfl) (by kernel_rfl) (fun _ _ _ h => h) (Or.inl ⟨by rfl, ?_⟩) (by assumption) ?_
  rotate_left
  · (intro w hSw; go_simp; first | done | (with_reducible rfl))
  simp only [Act.put, List.getElem_toArray, List.getElem_cons_succ, List.getElem_cons_zero, List.setIfInBounds_toArray, List.set_cons_zero, List.set_cons_succ]
  refine wpAnyH_ready (rs := [40]) (by kernel_rfl) (by simp) ?_
  refine AllReadyH.cons rfl (fun K hK => ?_) AllReadyH.nil
  go_simp
  refine (c8 _ HB.out.k).mono ?_
  rintro e wg ⟨rfl, hg⟩
  replace HB := Keep.mk (HB.out.kept hg)
  refine hK.out _ _ HB.out (fun hHeld => ?_)
  clear hK K hg
  refine wpAnyH_take (i := 43) (oi := _) (v := ?_) rfl (by kernel_rfl) (by kernel_rfl) (by kernel_rfl) (fun _ _ _ h => h) (Or.inl ⟨by rfl, ?_⟩) (by assumption) ?_
  rotate_left
  · (intro w hSw; go_simp; first | done | (with_reducible rfl))
  simp only [Act.put, List.getElem_toArray, List.getElem_cons_succ, List.getElem_cons_zero, List.setIfInBounds_toArray, List.set_cons_zero, List.set_cons_succ]
  refine wpAnyH_take (i := 44) (oi := _) (v := ?_) rfl (by kernel_rfl) (by kernel_rfl) (by kernel_rfl) (fun _ _ _ h => h) (Or.inl ⟨by rfl, ?_⟩) (by assumption) ?_
  rotate_left
  · (intro w hSw; go_simp; first | done | (with_reducible rfl))
  simp only [Act.put, List.getElem_toArray, List.getElem_cons_succ, List.getElem_cons_zero, List.setIfInBounds_toArray, List.set_cons_zero, List.set_cons_succ]
  refine wpAnyH_done (by kernel_rfl) ?_ _
  clear c2 c3 c5 c6 c7 c8
  go_upto_region 6 with fail
  go_cut [82] from 63 to 82 (fun s wx => s = .bool false ∧ Keep (Bx w wx [(b4, bx, by'), (b3, ax, ay)]))
  case first =>
    by_cases k1 : r < 0
    · go_wp2_with fail
      go_meet
      exact ⟨rfl, HB⟩
    · have cw1 := fun W (hk : Kc W) => cw (r + 1) W hk
      have HW : Keep (wn d r = true → wn d (r + 1) = true) := ⟨fun h => wn_next d r h (by omega)⟩
      clear cw
      generalize wn d r = z at *
      generalize wn d (r + 1) = z1 at *
      have p0 := (HB.out.has _ _ _ (.tail _ (.head _))).cellv 0 _ rfl
      have p1 := (HB.out.has _ _ _ (.tail _ (.head _))).cellv 1 _ rfl
      have q0 := (HB.out.has _ _ _ (.head _)).cellv 0 _ rfl
      have q1 := (HB.out.has _ _ _ (.head _)).cellv 1 _ rfl
      go_wp2_with fail
      refine (c4 _ HB.out.k).mono ?_
      rintro e w1 ⟨rfl, hg⟩
      clear p0 p1 q0 q1
      replace HB := Keep.mk (HB.out.kept hg)
      clear hg
      cases z
      · go_wp2_with fail
        go_meet
        exact ⟨rfl, HB⟩
      · rw [HW.out rfl] at cw1
        by_cases k2 : r < 4611686018427387904
        · skip
          have p0 := (HB.out.has _ _ _ (.tail _ (.head _))).cellv 0 _ rfl
          have p1 := (HB.out.has _ _ _ (.tail _ (.head _))).cellv 1 _ rfl
          have q0 := (HB.out.has _ _ _ (.head _)).cellv 0 _ rfl
          have q1 := (HB.out.has _ _ _ (.head _)).cellv 1 _ rfl
          go_wp2_with fail
          refine (cw1 _ HB.out.k).mono ?_
          rintro e w1 ⟨rfl, hg⟩
          clear p0 p1 q0 q1
          replace HB := Keep.mk (HB.out.kept hg)
          clear hg
          go_wp2_with fail
          go_meet
          exact ⟨rfl, HB⟩
        · go_wp2_with fail
          go_meet
          exact ⟨rfl, HB⟩
  case rest =>
    clear HB
    obtain ⟨rfl, HB⟩ := hcut
    clear c4
    have p0 := (HB.out.has _ _ _ (.tail _ (.head _))).cellv 0 _ rfl
    have p1 := (HB.out.has _ _ _ (.tail _ (.head _))).cellv 1 _ rfl
    go_wp2_with fail
    refine (cl _ HB.out.k).mono ?_
    rintro e w1 ⟨rfl, hg⟩
    clear p0 p1
    replace HB := Keep.mk (HB.out.kept hg)
    clear hg
    have p0 := (HB.out.has _ _ _ (.tail _ (.head _))).cellv 0 _ rfl
    have p1 := (HB.out.has _ _ _ (.tail _ (.head _))).cellv 1 _ rfl
    go_wp2_with fail
    refine (cs1 _).mono ?_
    rintro e w' ⟨rfl, hw⟩; rw [hw]; clear hw w'
    go_wp2_with fail
    refine (cs2 _).mono ?_
    rintro e w' ⟨rfl, hw⟩; rw [hw]; clear hw w'
    clear p0 p1 cl cs1 cs2
    go_upto_region 11 with fail
    go_cut [151] from 91 to 151 (fun s wx => s = .bool false ∧ Keep (Bx w wx [(b4, bx, by'), (b3, ax, ay)]))
    case first =>
      obtain ⟨x0, x1, y0, y1, l0, l1, l2, l3, a, b, c, dd, a1, b1, c1, d1⟩ := HR.out
      have f1 : IntKind.i64.wrap (X * X) = A := by rw [IntKind.wrap_i64, a]; omega
      have f2 : IntKind.i64.wrap (Y * Y) = B := by rw [IntKind.wrap_i64, b]; omega
      have f3 : IntKind.u64.wrap (l * l) = C := by rw [IntKind.wrap_u64, c]; omega
      have f4 : IntKind.u64.wrap ((l + 1) * (l + 1)) = D := by rw [IntKind.wrap_u64, dd]; omega
      have g1 : ¬ l < X := by omega
      have g2 : ¬ l < Y := by omega
      have g3 : ¬ X + Y < l := by omega
      have g4 : ¬ A + B < C := by omega
      have g5 : ¬ D ≤ A + B := by omega
      clear a b c dd HR HN cw c9 cm
      by_cases k1 : Y < X
      · go_wp2_with fail
        go_meet
        exact ⟨rfl, HB⟩
      · go_wp2_with fail
        go_meet
        exact ⟨rfl, HB⟩
    case rest =>
      clear HB HR
      obtain ⟨rfl, HB⟩ := hcut
      have p0 := (HB.out.has _ _ _ (.tail _ (.head _))).cellv 0 _ rfl
      have p1 := (HB.out.has _ _ _ (.tail _ (.head _))).cellv 1 _ rfl
      have q0 := (HB.out.has _ _ _ (.head _)).cellv 0 _ rfl
      have q1 := (HB.out.has _ _ _ (.head _)).cellv 1 _ rfl
      go_wp2_with fail
      refine (c9 _ HB.out.k).mono ?_
      rintro e w1 ⟨rfl, hg⟩
      clear p0 p1 q0 q1
      replace HB := Keep.mk (HB.out.kept hg)
      clear hg
      cases sm
      · go_wp2_with fail
        go_ret
        exact ⟨rfl, HB.out.g⟩
      · obtain ⟨M, A', B', N⟩ := HN.out rfl
        have cu := fun W (hk : Kc W) => cw (m + 1) W hk
        have ca := fun W (hk : Kc W) => cw m W hk
        have cd := fun W (hk : Kc W) => cw (m - 1) W hk
        obtain ⟨w0', w1', m0, m1, e1, e2, e3, e4, up, dn, at'⟩ := N
        rw [up] at cu
        rw [at'] at ca
        have HD : Keep (0 < m → wn d (m - 1) = false) := ⟨dn⟩
        clear cw HN up dn at' c9
        have s1 : IntKind.i64.wrap (ax - bx) = ax - bx := by rw [IntKind.wrap_i64]; omega
        have s2 : IntKind.i64.wrap (ay - by') = ay - by' := by rw [IntKind.wrap_i64]; omega
        obtain ⟨wx, hwx⟩ : ∃ z, ax - bx = z := ⟨_, rfl⟩
        obtain ⟨wy, hwy⟩ : ∃ z, ay - by' = z := ⟨_, rfl⟩
        rw [hwx] at cm e1 w0'
        rw [hwy] at cm e2 w1'
        replace s1 : IntKind.i64.wrap (ax - bx) = wx := s1.trans hwx
        replace s2 : IntKind.i64.wrap (ay - by') = wy := s2.trans hwy
        have t1 := hwx
        have t2 := hwy
        generalize wn d (m - 1) = z at *
        have p0 := (HB.out.has _ _ _ (.tail _ (.head _))).cellv 0 _ rfl
        have p1 := (HB.out.has _ _ _ (.tail _ (.head _))).cellv 1 _ rfl
        have q0 := (HB.out.has _ _ _ (.head _)).cellv 0 _ rfl
        have q1 := (HB.out.has _ _ _ (.head _)).cellv 1 _ rfl
        go_wp2_with fail
        clear p0 p1 q0 q1
        replace HB := Keep.mk (HB.out.new wx wy)
        obtain ⟨b11, hb⟩ : ∃ b, w1.heap.size = b := ⟨_, rfl⟩
        rw [hb]
        rw [hb] at HB
        generalize w1.alloc (.cells #[.int .i64 wx, .int .i64 wy] 25) = W11 at HB ⊢
        clear hb s1 s2 t1 t2 hwx hwy
        refine (cm _ HB.out.k).mono ?_
        rintro e w2 ⟨rfl, hg⟩
        replace HB := Keep.mk (HB.out.kept hg)
        clear hg cm
        have s0 := (HB.out.has _ _ _ (.head _)).cellv 0 _ rfl
        have s1 := (HB.out.has _ _ _ (.head _)).cellv 1 _ rfl
        have p0 := (HB.out.has _ _ _ (.tail _ (.tail _ (.head _)))).cellv 0 _ rfl
        have p1 := (HB.out.has _ _ _ (.tail _ (.tail _ (.head _)))).cellv 1 _ rfl
        have q0 := (HB.out.has _ _ _ (.tail _ (.head _))).cellv 0 _ rfl
        have q1 := (HB.out.has _ _ _ (.tail _ (.head _))).cellv 1 _ rfl
        go_wp2_with fail
        refine (cu _ HB.out.k).mono ?_
        rintro e w1 ⟨rfl, hg⟩
        clear s0 s1 p0 p1 q0 q1
        replace HB := Keep.mk (HB.out.kept hg)
        clear hg
        clear cu e1 e2 e3
        by_cases k1 : 0 < m
        · rw [HD.out k1] at cd
          have p0 := (HB.out.has _ _ _ (.tail _ (.tail _ (.head _)))).cellv 0 _ rfl
          have p1 := (HB.out.has _ _ _ (.tail _ (.tail _ (.head _)))).cellv 1 _ rfl
          have q0 := (HB.out.has _ _ _ (.tail _ (.head _))).cellv 0 _ rfl
          have q1 := (HB.out.has _ _ _ (.tail _ (.head _))).cellv 1 _ rfl
          go_wp2_with fail
          refine (cd _ HB.out.k).mono ?_
          rintro e w1 ⟨rfl, hg⟩
          clear p0 p1 q0 q1
          replace HB := Keep.mk (HB.out.kept hg)
          clear hg
          have p0 := (HB.out.has _ _ _ (.tail _ (.tail _ (.head _)))).cellv 0 _ rfl
          have p1 := (HB.out.has _ _ _ (.tail _ (.tail _ (.head _)))).cellv 1 _ rfl
          have q0 := (HB.out.has _ _ _ (.tail _ (.head _))).cellv 0 _ rfl
          have q1 := (HB.out.has _ _ _ (.tail _ (.head _))).cellv 1 _ rfl
          go_wp2_with fail
          refine (ca _ HB.out.k).mono ?_
          rintro e w1 ⟨rfl, hg⟩
          clear p0 p1 q0 q1
          replace HB := Keep.mk (HB.out.kept hg)
          clear hg
          go_wp2_with fail
          go_ret
          exact ⟨rfl, HB.out.g⟩
        · skip
          have p0 := (HB.out.has _ _ _ (.tail _ (.tail _ (.head _)))).cellv 0 _ rfl
          have p1 := (HB.out.has _ _ _ (.tail _ (.tail _ (.head _)))).cellv 1 _ rfl
          have q0 := (HB.out.has _ _ _ (.tail _ (.head _))).cellv 0 _ rfl
          have q1 := (HB.out.has _ _ _ (.tail _ (.head _))).cellv 1 _ rfl
          go_wp2_with fail
          refine (ca _ HB.out.k).mono ?_
          rintro e w1 ⟨rfl, hg⟩
          clear p0 p1 q0 q1
          replace HB := Keep.mk (HB.out.kept hg)
          clear hg
          go_wp2_with fail
          go_ret
          exact ⟨rfl, HB.out.g⟩
end Go.Proofs.YtkpedhmjjhjniaaDoor
