/- vec: Dist2 and Within; the reference's. -/
import Derived.Test.YtgedlabmndlooaaGreatP1
import Derived.Sort.Grow
namespace Go.Proofs.YtgedlabmndlooaaGreat
open Go Go.RowKit Go.Sort

/-- all that was stays; draws and new blocks alone -/
structure Gw (w w' : World) : Prop where
  g : w.grownBy w' none
  d : w.drawn ≤ w'.drawn
set_option maxRecDepth 100000 in
theorem Gw.refl (w : World) : Gw w w := ⟨World.grownBy.refl _ _, Nat.le_refl _⟩
set_option maxRecDepth 100000 in
theorem Gw.trans {a b c : World} (h : Gw a b) (k : Gw b c) : Gw a c := ⟨h.g.trans k.g, Nat.le_trans h.d k.d⟩
set_option maxRecDepth 100000 in
theorem Gw.alloc (w : World) (o : Obj) : Gw w (w.alloc o) := ⟨World.grownBy_alloc _ _ _, Nat.le_refl _⟩
set_option maxRecDepth 100000 in
theorem Gw.drewN (w : World) (n : Nat) : Gw w (w.drewN n) := ⟨gr_drewN _ _ _, Nat.le_add_right _ _⟩
set_option maxRecDepth 100000 in
theorem Gw.drew (w : World) : Gw w w.drew := ⟨gr_drew _ _, Nat.le_add_right _ _⟩
set_option maxRecDepth 100000 in
theorem Gw.is_grow {w w' : World} (h : Gw w w') : ∃ q os, w' = grow (w.drewN q) os := by
  refine ⟨w'.drawn - w.drawn, w'.heap.extract w.heap.size w'.heap.size, ?_⟩
  obtain ⟨⟨h1, h2, h3, h4, h5⟩, h6⟩ := h
  obtain ⟨hp, tp, dr, os, ou⟩ := w
  obtain ⟨hp', tp', dr', os', ou'⟩ := w'
  simp only at h1 h2 h3 h4 h5 h6
  subst h1 h2 h3
  simp only [grow, World.drewN, World.mk.injEq, true_and, and_true]
  refine ⟨?_, by omega⟩
  apply Array.ext_getElem?
  intro i
  rw [Array.getElem?_append]
  split
  · rename_i hi
    exact h5 i hi nofun
  · rename_i hi
    rw [Array.getElem?_extract]
    by_cases hh : i < hp'.size
    · rw [if_pos (by omega)]
      congr 1
      omega
    · rw [if_neg (by omega), Array.getElem?_eq_none (by omega)]
set_option maxRecDepth 100000 in
theorem ret_int {k : IntKind} {a b : Int} (h : a = b) : Ending.returned (.int k a) = .returned (.int k b) := by rw [h]
set_option maxRecDepth 100000 in
theorem gr_alloc (w : World) (o : Obj) (row : Option Nat) : w.grownBy (w.alloc o) row := World.grownBy_alloc w o row
abbrev vv (x y : Int) : Value := .agg #[.int .i64 x, .int .i64 y]
set_option maxRecDepth 100000 in
theorem size_alloc (w : World) (o : Obj) : (w.alloc o).heap.size = w.heap.size + 1 := by show (w.heap.push o).size = _; rw [Array.size_push]
set_option maxRecDepth 100000 in
theorem kept_i (x lo hi : Int) (w : World) :
    Calls Tryz.prog 33 #[.int .i64 x, .int .i64 lo, .int .i64 hi] w fun e w' => e = .returned (.int .i64 (kz x lo hi)) ∧ w' = w := by
  go_enter Tryz.func33, Tryz.ntmps33
  go_wp2
  all_goals
    go_ret
    exact ⟨ret_int (by unfold kz; omega), rfl⟩
set_option maxRecDepth 100000 in
theorem kept_u (x lo hi : Int) (w : World) :
    Calls Tryz.prog 70 #[.int .u64 x, .int .u64 lo, .int .u64 hi] w fun e w' => e = .returned (.int .u64 (kz x lo hi)) ∧ w' = w := by
  go_enter Tryz.func70, Tryz.ntmps70
  go_wp2
  all_goals
    go_ret
    exact ⟨ret_int (by unfold kz; omega), rfl⟩
set_option maxRecDepth 100000 in
theorem less_ge (a b m : Int) (ha : I64 a) (hb : I64 b) (hm : 0 ≤ m ∧ m ≤ 9223372036854775807) (h : b ≤ a) (w : World) :
    Calls Tryz.prog 51 #[.int .i64 a, .int .i64 b, .int .i64 m] w fun e w' => e = .returned (.int .i64 (lz a b m)) ∧ w' = w := by
  obtain ⟨a0, a1⟩ := ha
  obtain ⟨b0, b1⟩ := hb
  obtain ⟨m0, m1⟩ := hm
  have c1 := kept_u (a - b) 0 m w
  have HZ : Keep (kz (a - b) 0 m = lz a b m ∧ 0 ≤ lz a b m ∧ lz a b m ≤ 9223372036854775807) := ⟨by unfold lz kz; omega⟩
  rw [HZ.out.1] at c1
  obtain ⟨-, z0, z1⟩ := HZ.out
  clear HZ
  generalize lz a b m = v at *
  have e1 : IntKind.u64.wrap (IntKind.u64.wrap a - IntKind.u64.wrap b) = a - b := by
    rw [IntKind.wrap_u64, IntKind.wrap_u64, IntKind.wrap_u64]; omega
  have hn : ¬ a < b := by omega
  go_enter Tryz.func51, Tryz.ntmps51
  go_wp2_with fail
  refine c1.mono ?_
  rintro e w' ⟨rfl, hw⟩; rw [hw]
  go_wp2_with fail
  go_ret
  exact ⟨rfl, rfl⟩
set_option maxRecDepth 100000 in
theorem less_c (a b m : Int) (ha : I64 a) (hb : I64 b) (hm : 0 ≤ m ∧ m ≤ 9223372036854775807) (w : World) :
    Calls Tryz.prog 51 #[.int .i64 a, .int .i64 b, .int .i64 m] w fun e w' => e = .returned (.int .i64 (lz a b m)) ∧ w' = w := by
  by_cases h : b ≤ a
  · exact less_ge a b m ha hb hm h w
  · have c1 := less_ge b a m hb ha hm (by omega) w
    have HZ : Keep (lz a b m = - lz b a m ∧ 0 ≤ lz b a m ∧ lz b a m ≤ 9223372036854775807) := ⟨by unfold lz kz; omega⟩
    rw [HZ.out.1]
    obtain ⟨-, z0, z1⟩ := HZ.out
    clear HZ
    generalize lz b a m = v at *
    have hn : a < b := by omega
    clear h ha hb hm
    go_enter Tryz.func51, Tryz.ntmps51
    go_wp2_with fail
    refine c1.mono ?_
    rintro e w' ⟨rfl, hw⟩; rw [hw]
    go_wp2_with fail
    go_ret
    exact ⟨rfl, rfl⟩
set_option maxRecDepth 100000 in
theorem square_c (x y : Int) (hx : -2147483647 ≤ x ∧ x ≤ 2147483647) (hy : -2147483647 ≤ y ∧ y ≤ 2147483647) (w : World) :
    Calls Tryz.prog 34 #[vv x y] w fun e w' => e = .returned (.int .i64 (x * x + y * y)) ∧ Gw w w' := by
  have hx2 : 0 ≤ x * x ∧ x * x ≤ 4611686014132420609 := by
    constructor
    · exact sq0 x
    · obtain ⟨h1, h2⟩ := hx
      have : 0 ≤ (2147483647 - x) * (2147483647 + x) := Int.mul_nonneg (by omega) (by omega)
      grind
  have hy2 : 0 ≤ y * y ∧ y * y ≤ 4611686014132420609 := by
    constructor
    · exact sq0 y
    · obtain ⟨h1, h2⟩ := hy
      have : 0 ≤ (2147483647 - y) * (2147483647 + y) := Int.mul_nonneg (by omega) (by omega)
      grind
  have e1 : IntKind.i64.wrap (x * x) = x * x := by rw [IntKind.wrap_i64]; omega
  have e2 : IntKind.i64.wrap (y * y) = y * y := by rw [IntKind.wrap_i64]; omega
  have e3 : IntKind.i64.wrap (x * x + y * y) = x * x + y * y := by rw [IntKind.wrap_i64]; omega
  go_enter Tryz.func34, Tryz.ntmps34
  go_wp2_with fail
  go_ret
  exact ⟨rfl, Gw.alloc _ _⟩
set_option maxRecDepth 100000 in
theorem boxes3 (w : World) (A B Z : Array Value) (t u v : TypeId) : Has (((w.alloc (.cells A t)).alloc (.cells B u)).alloc (.cells Z v)) w.heap.size A.toList t ∧ Has (((w.alloc (.cells A t)).alloc (.cells B u)).alloc (.cells Z v)) (w.heap.size + 1) B.toList u ∧ Has (((w.alloc (.cells A t)).alloc (.cells B u)).alloc (.cells Z v)) (w.heap.size + 1 + 1) Z.toList v ∧ Gw w (((w.alloc (.cells A t)).alloc (.cells B u)).alloc (.cells Z v)) := by
  refine ⟨((Has.newA w A t).alloc _).alloc _, ?_, ?_, ((Gw.alloc _ _).trans (Gw.alloc _ _)).trans (Gw.alloc _ _)⟩
  · have h := (Has.newA (w.alloc (.cells A t)) B u).alloc (.cells Z v)
    rwa [size_alloc] at h
  · have h := Has.newA ((w.alloc (.cells A t)).alloc (.cells B u)) Z v
    rwa [size_alloc, size_alloc] at h
set_option maxRecDepth 100000 in
theorem under32 : ∃ d, Tryz.prog.underlying 24 = some d ∧ d.isRow = true := ⟨_, Tryz.underlying24, rfl⟩
set_option maxRecDepth 100000 in
theorem info32 : (Tryz.prog.info? 24).map (·.size) = some 2 := by kernel_rfl
set_option maxHeartbeats 4000000 in
theorem minus_c (ax ay bx by' m : Int) (h1 : I64 ax) (h2 : I64 ay) (h3 : I64 bx) (h4 : I64 by') (hm : 0 ≤ m ∧ m ≤ 9223372036854775807) (w : World) :
    Calls Tryz.prog 35 #[vv ax ay, vv bx by', .int .i64 m] w fun e w' => e = .returned (vv (lz ax bx m) (lz ay by' m)) ∧ Gw w w' := by
  have HC : Keep ((∀ w, Calls Tryz.prog 51 #[.int .i64 ax, .int .i64 bx, .int .i64 m] w fun e w' => e = .returned (.int .i64 (lz ax bx m)) ∧ w' = w) ∧ (∀ w, Calls Tryz.prog 51 #[.int .i64 ay, .int .i64 by', .int .i64 m] w fun e w' => e = .returned (.int .i64 (lz ay by' m)) ∧ w' = w)) := ⟨fun w => less_c _ _ _ h1 h3 hm w, fun w => less_c _ _ _ h2 h4 hm w⟩
  clear h1 h2 h3 h4 hm
  generalize lz ax bx m = u at *
  generalize lz ay by' m = v at *
  have HB := Keep.mk (boxes3 w #[.int .i64 ax, .int .i64 ay] #[.int .i64 bx, .int .i64 by'] #[.int .i64 0, .int .i64 0] 24 24 24)
  go_enter Tryz.func35, Tryz.ntmps35
  go_wp2_with fail
  generalize hW : ((w.alloc (.cells #[.int .i64 ax, .int .i64 ay] 24)).alloc (.cells #[.int .i64 bx, .int .i64 by'] 24)).alloc (.cells #[.int .i64 0, .int .i64 0] 24) = W at HB ⊢
  obtain ⟨xb, hxb⟩ : ∃ xb, w.heap.size = xb := ⟨_, rfl⟩
  obtain ⟨yb, hyb⟩ : ∃ yb, xb + 1 = yb := ⟨_, rfl⟩
  obtain ⟨rb, hrb⟩ : ∃ rb, yb + 1 = rb := ⟨_, rfl⟩
  have HL : Keep (w.heap.size ≤ rb) := ⟨by omega⟩
  have HN : Keep (rb ≠ xb ∧ rb ≠ yb) := ⟨by omega, by omega⟩
  rw [hxb, hyb, hrb] at HB ⊢
  clear hxb hyb hrb hW
  refine wp_region_held_drew (S := fun w' => w'.cell? ⟨xb, 0, none⟩ = some (.int .i64 ax) ∧ w'.cell? ⟨xb, 1, none⟩ = some (.int .i64 ay) ∧ w'.cell? ⟨yb, 0, none⟩ = some (.int .i64 bx) ∧ w'.cell? ⟨yb, 1, none⟩ = some (.int .i64 by')) (by kernel_rfl) ⟨HB.out.1.cellv 0 _ rfl, HB.out.1.cellv 1 _ rfl, HB.out.2.1.cellv 0 _ rfl, HB.out.2.1.cellv 1 _ rfl⟩ (fun hHeld => ?_)
  refine wpAnyH_take (i := 0) (oi := _) (v := ?_) rfl (by kernel_rfl) (by kernel_rfl) (by kernel_rfl) (fun _ _ _ h => h) (Or.inl ⟨by rfl, ?_⟩) (by assumption) ?_
  rotate_left
  · (intro w hSw; go_simp; first | done | (with_reducible rfl))
  simp only [Act.put, A1, A3, A4, A5, A6]
  refine wpAnyH_take (i := 1) (oi := _) (v := ?_) rfl (by kernel_rfl) (by kernel_rfl) (by kernel_rfl) (fun _ _ _ h => h) (Or.inl ⟨by rfl, ?_⟩) (by assumption) ?_
  rotate_left
  · (intro w hSw; obtain ⟨q1, q2, q3, q4⟩ := hSw; go_simp; first | done | (with_reducible rfl))
  simp only [Act.put, A1, A2, A3, A4, A5, A6]
  refine wpAnyH_take (i := 2) (oi := _) (v := ?_) rfl (by kernel_rfl) (by kernel_rfl) (by kernel_rfl) (fun _ _ _ h => h) (Or.inl ⟨by rfl, ?_⟩) (by assumption) ?_
  rotate_left
  · (intro w hSw; go_simp; first | done | (with_reducible rfl))
  simp only [Act.put, A1, A2, A3, A4, A5, A6]
  refine wpAnyH_take (i := 3) (oi := _) (v := ?_) rfl (by kernel_rfl) (by kernel_rfl) (by kernel_rfl) (fun _ _ _ h => h) (Or.inl ⟨by rfl, ?_⟩) (by assumption) ?_
  rotate_left
  · (intro w hSw; obtain ⟨q1, q2, q3, q4⟩ := hSw; go_simp; first | done | (with_reducible rfl))
  simp only [Act.put, A1, A2, A3, A4, A5, A6]
  refine wpAnyH_take (i := 4) (oi := _) (v := ?_) rfl (by kernel_rfl) (by kernel_rfl) (by kernel_rfl) (fun _ _ _ h => h) (Or.inl ⟨by rfl, ?_⟩) (by assumption) ?_
  rotate_left
  · (intro w hSw; go_simp; first | done | (with_reducible rfl))
  simp only [Act.put, A1, A2, A3, A4, A5, A6]
  refine wpAnyH_take (i := 6) (oi := _) (v := ?_) rfl (by kernel_rfl) (by kernel_rfl) (by kernel_rfl) (fun _ _ _ h => h) (Or.inl ⟨by rfl, ?_⟩) (by assumption) ?_
  rotate_left
  · (intro w hSw; go_simp; first | done | (with_reducible rfl))
  simp only [Act.put, A1, A2, A3, A4, A5, A6]
  refine wpAnyH_take (i := 7) (oi := _) (v := ?_) rfl (by kernel_rfl) (by kernel_rfl) (by kernel_rfl) (fun _ _ _ h => h) (Or.inl ⟨by rfl, ?_⟩) (by assumption) ?_
  rotate_left
  · (intro w hSw; obtain ⟨q1, q2, q3, q4⟩ := hSw; go_simp; first | done | (with_reducible rfl))
  simp only [Act.put, A1, A2, A3, A4, A5, A6]
  refine wpAnyH_take (i := 8) (oi := _) (v := ?_) rfl (by kernel_rfl) (by kernel_rfl) (by kernel_rfl) (fun _ _ _ h => h) (Or.inl ⟨by rfl, ?_⟩) (by assumption) ?_
  rotate_left
  · (intro w hSw; go_simp; first | done | (with_reducible rfl))
  simp only [Act.put, A1, A2, A3, A4, A5, A6]
  refine wpAnyH_take (i := 9) (oi := _) (v := ?_) rfl (by kernel_rfl) (by kernel_rfl) (by kernel_rfl) (fun _ _ _ h => h) (Or.inl ⟨by rfl, ?_⟩) (by assumption) ?_
  rotate_left
  · (intro w hSw; obtain ⟨q1, q2, q3, q4⟩ := hSw; go_simp; first | done | (with_reducible rfl))
  simp only [Act.put, A1, A2, A3, A4, A5, A6]
  refine wpAnyH_take (i := 10) (oi := _) (v := ?_) rfl (by kernel_rfl) (by kernel_rfl) (by kernel_rfl) (fun _ _ _ h => h) (Or.inl ⟨by rfl, ?_⟩) (by assumption) ?_
  rotate_left
  · (intro w hSw; go_simp; first | done | (with_reducible rfl))
  simp only [Act.put, A1, A2, A3, A4, A5, A6]
  refine wpAnyH_call (i := 5) (oi := _) (v := .int .i64 u) rfl (by kernel_rfl) (by kernel_rfl) (by kernel_rfl) (fun _ _ _ h => h) ⟨by rfl, 51, #[.int .i64 ax, .int .i64 bx, .int .i64 m], fun w => ?_, fun w hSw => HC.out.1 w⟩ (by assumption) ?_
  · (go_simp; first | done | (with_reducible rfl))
  simp only [Act.put, A1, A2, A3, A4, A5, A6]
  refine wpAnyH_call (i := 11) (oi := _) (v := .int .i64 v) rfl (by kernel_rfl) (by kernel_rfl) (by kernel_rfl) (fun _ _ _ h => h) ⟨by rfl, 51, #[.int .i64 ay, .int .i64 by', .int .i64 m], fun w => ?_, fun w hSw => HC.out.2 w⟩ (by assumption) ?_
  · (go_simp; first | done | (with_reducible rfl))
  simp only [Act.put, A1, A2, A3, A4, A5, A6]
  refine wpAnyH_take (i := 12) (oi := _) (v := ?_) rfl (by kernel_rfl) (by kernel_rfl) (by kernel_rfl) (fun _ _ _ h => h) (Or.inl ⟨by rfl, ?_⟩) (by assumption) ?_
  rotate_left
  · (intro w hSw; go_simp; first | done | (with_reducible rfl))
  simp only [Act.put, A1, A2, A3, A4, A5, A6]
  refine wpAnyH_ready (rs := [13]) (by kernel_rfl) (by simp) ?_
  refine AllReadyH.cons rfl (fun K hK => ?_) AllReadyH.nil
  have x0 := HB.out.2.2.1.cellv 0 _ rfl
  have x1 := HB.out.2.2.1.cellv 1 _ rfl
  have y0 := HB.out.2.2.1.frozen 0
  have y1 := HB.out.2.2.1.frozen 1
  go_simp
  clear x0 x1 y0 y1
  have H0 : Has ((W.setCell ⟨rb, 0, none⟩ (.int .i64 u)).setCell ⟨rb, 1, none⟩ (.int .i64 v)).drew rb [.int .i64 u, .int .i64 v] 24 := (HB.out.2.2.1.setCell 0 _).setCell 1 _
  have HR := Keep.mk (And.intro H0 (Gw.mk (gr_new HB.out.2.2.2.g ((gr_set W rb 0 (.int .i64 u)).trans ((gr_set _ rb 1 (.int .i64 v)).trans (gr_drew _ _))) HL.out) (Nat.le_succ_of_le HB.out.2.2.2.d)))
  clear H0
  refine hK.out _ _ ⟨((HB.out.1.other ⟨rb, 0, none⟩ _ HN.out.1).other ⟨rb, 1, none⟩ _ HN.out.1).cellv 0 _ rfl, ((HB.out.1.other ⟨rb, 0, none⟩ _ HN.out.1).other ⟨rb, 1, none⟩ _ HN.out.1).cellv 1 _ rfl, ((HB.out.2.1.other ⟨rb, 0, none⟩ _ HN.out.2).other ⟨rb, 1, none⟩ _ HN.out.2).cellv 0 _ rfl, ((HB.out.2.1.other ⟨rb, 0, none⟩ _ HN.out.2).other ⟨rb, 1, none⟩ _ HN.out.2).cellv 1 _ rfl⟩ (fun hHeld => ?_)
  clear hK K hHeld
  generalize ((W.setCell ⟨rb, 0, none⟩ (.int .i64 u)).setCell ⟨rb, 1, none⟩ (.int .i64 v)).drew = W' at HR ⊢
  refine wpAnyH_done (by kernel_rfl) ?_ _
  go_wp2_with fail
  obtain ⟨du, hdu, hdr⟩ := under32
  exact ret_cell rfl rfl HR.out.1 hdu hdr info32 rfl ⟨rfl, HR.out.2⟩
set_option maxRecDepth 100000 in
theorem keep_c (x m : Int) (hm : 0 ≤ m ∧ m ≤ 9223372036854775807) (w : World) :
    Calls Tryz.prog 82 #[.int .i64 x, .int .i64 m] w fun e w' => e = .returned (.int .i64 (kz x (-m) m)) ∧ w' = w := by
  have hwm : IntKind.i64.wrap (-m) = -m := by rw [IntKind.wrap_i64]; omega
  by_cases c1 : m < x
  · have e : kz x (-m) m = m := by unfold kz; omega
    rw [e]
    go_enter Tryz.func82, Tryz.ntmps82
    go_wp2
    go_ret
    exact ⟨rfl, rfl⟩
  · by_cases c2 : x < -m
    · have e : kz x (-m) m = -m := by unfold kz; omega
      rw [e]
      go_enter Tryz.func82, Tryz.ntmps82
      go_wp2
      go_ret
      exact ⟨rfl, rfl⟩
    · have e : kz x (-m) m = x := by unfold kz; omega
      rw [e]
      go_enter Tryz.func82, Tryz.ntmps82
      go_wp2
      go_ret
      exact ⟨rfl, rfl⟩
set_option maxHeartbeats 2000000 in
theorem rless_c (a b m : Int) (ha : I64 a) (hb : I64 b) (hm : 0 ≤ m ∧ m ≤ 1099511627776) (w : World) :
    Calls Tryz.prog 71 #[.int .i64 a, .int .i64 b, .int .i64 m] w fun e w' => e = .returned (.int .i64 (lz a b m)) ∧ w' = w := by
  obtain ⟨a0, a1⟩ := ha
  obtain ⟨b0, b1⟩ := hb
  have k := fun (h : I64 (a - b)) => keep_c (a - b) m ⟨hm.1, by omega⟩ w
  have hwm : IntKind.i64.wrap (-m) = -m := by rw [IntKind.wrap_i64]; omega
  by_cases c1 : b < 0
  · by_cases c2 : 9223372036854775807 + b < a
    · have e : lz a b m = m := by unfold lz kz; omega
      rw [e]
      clear k
      go_enter Tryz.func71, Tryz.ntmps71
      go_wp2_with fail
      go_ret
      exact ⟨rfl, rfl⟩
    · have k := k ⟨by omega, by omega⟩
      have e : kz (a - b) (-m) m = lz a b m := rfl
      rw [e] at k
      generalize lz a b m = v at *
      have c3 : ¬ 0 < b := by omega
      go_enter Tryz.func71, Tryz.ntmps71
      go_wp2_with fail
      refine k.mono ?_
      rintro e w' ⟨rfl, hw⟩; rw [hw]
      go_wp2_with fail
      go_ret
      exact ⟨rfl, rfl⟩
  · by_cases c2 : 0 < b ∧ a < -9223372036854775808 + b
    · obtain ⟨c2, c3⟩ := c2
      have e : lz a b m = -m := by unfold lz kz; omega
      rw [e]
      clear k
      go_enter Tryz.func71, Tryz.ntmps71
      go_wp2_with fail
      go_ret
      exact ⟨rfl, rfl⟩
    · have k := k ⟨by omega, by omega⟩
      have e : kz (a - b) (-m) m = lz a b m := rfl
      rw [e] at k
      generalize lz a b m = v at *
      by_cases c3 : 0 < b
      · have c4 : ¬ a < -9223372036854775808 + b := by omega
        clear c2
        go_enter Tryz.func71, Tryz.ntmps71
        go_wp2_with fail
        refine k.mono ?_
        rintro e w' ⟨rfl, hw⟩; rw [hw]
        go_wp2_with fail
        go_ret
        exact ⟨rfl, rfl⟩
      · clear c2
        go_enter Tryz.func71, Tryz.ntmps71
        go_wp2_with fail
        refine k.mono ?_
        rintro e w' ⟨rfl, hw⟩; rw [hw]
        go_wp2_with fail
        go_ret
        exact ⟨rfl, rfl⟩
/-- places that lie in boxes of the call's own -/
structure Bx (w0 W : World) (L : List (Nat × Int × Int)) : Prop where
  g : Gw w0 W
  has : ∀ b x y, (b, x, y) ∈ L → Has W b [.int .i64 x, .int .i64 y] 24
set_option maxRecDepth 100000 in
theorem Bx.start (w : World) : Bx w w [] := ⟨Gw.refl w, fun _ _ _ h => (by cases h)⟩
set_option maxRecDepth 100000 in
theorem Bx.kept {w0 W W' : World} {L : List (Nat × Int × Int)} (h : Bx w0 W L) (g : Gw W W') : Bx w0 W' L :=
  ⟨h.g.trans g, fun b x y hm => (h.has b x y hm).kept g.g (by simp)⟩
set_option maxRecDepth 100000 in
theorem Bx.new {w0 W : World} {L : List (Nat × Int × Int)} (h : Bx w0 W L) (x y : Int) : Bx w0 (W.alloc (.cells #[.int .i64 x, .int .i64 y] 24)) ((W.heap.size, x, y) :: L) := by
  have h1 := h.kept (Gw.alloc W (.cells #[.int .i64 x, .int .i64 y] 24))
  refine ⟨h1.g, fun b x' y' hm => ?_⟩
  rcases List.mem_cons.1 hm with e | hm
  · cases e; exact Has.newA W _ 24
  · exact h1.has b x' y' hm
set_option maxHeartbeats 2000000 in
theorem dist_c (ax ay bx by' : Int) (h1 : I64 ax) (h2 : I64 ay) (h3 : I64 bx) (h4 : I64 by') (w : World) :
    Calls Tryz.prog 17 #[vv ax ay, vv bx by'] w fun e w' => e = .returned (.int .i64 (d2 ax ay bx by')) ∧ Gw w w' := by
  have c1 := fun W => minus_c ax ay bx by' 2147483647 h1 h2 h3 h4 (by omega) W
  have c2 := fun W => square_c (lz ax bx 2147483647) (lz ay by' 2147483647) (lz_range _ _ _ (by omega)) (lz_range _ _ _ (by omega)) W
  clear h1 h2 h3 h4
  unfold d2
  generalize lz ax bx 2147483647 = u at *
  generalize lz ay by' 2147483647 = v at *
  generalize u * u + v * v = r at *
  have HB := Keep.mk (((Bx.start w).new ax ay).new bx by')
  rw [size_alloc] at HB
  go_enter Tryz.func17, Tryz.ntmps17
  go_wp2_with fail
  generalize (w.alloc (.cells #[.int .i64 ax, .int .i64 ay] 24)).alloc (.cells #[.int .i64 bx, .int .i64 by'] 24) = W at HB ⊢
  refine (c1 _).mono ?_
  rintro e w1 ⟨rfl, hg⟩
  have HB1 := Keep.mk (HB.out.kept hg)
  clear hg HB c1
  go_wp2_with fail
  refine (c2 _).mono ?_
  rintro e w2 ⟨rfl, hg⟩
  have HB := Keep.mk (HB1.out.kept hg)
  clear hg HB1 c2
  go_wp2_with fail
  go_ret
  exact ⟨rfl, HB.out.g⟩
set_option maxHeartbeats 2000000 in
theorem rdist_c (ax ay bx by' : Int) (h1 : I64 ax) (h2 : I64 ay) (h3 : I64 bx) (h4 : I64 by') (w : World) :
    Calls Tryz.prog 52 #[vv ax ay, vv bx by'] w fun e w' => e = .returned (.int .i64 (d2 ax ay bx by')) ∧ Gw w w' := by
  have c1 := fun W => rless_c ax bx 2147483647 h1 h3 (by omega) W
  have c2 := fun W => rless_c ay by' 2147483647 h2 h4 (by omega) W
  have s1 := sq_bd _ (lz_range ax bx 2147483647 (by omega))
  have s2 := sq_bd _ (lz_range ay by' 2147483647 (by omega))
  clear h1 h2 h3 h4
  unfold d2
  generalize lz ax bx 2147483647 = u at *
  generalize lz ay by' 2147483647 = v at *
  have e1 : IntKind.i64.wrap (u * u) = u * u := by rw [IntKind.wrap_i64]; omega
  have e2 : IntKind.i64.wrap (v * v) = v * v := by rw [IntKind.wrap_i64]; omega
  have e3 : IntKind.i64.wrap (u * u + v * v) = u * u + v * v := by rw [IntKind.wrap_i64]; omega
  clear s1 s2
  have HB := Keep.mk (((Bx.start w).new ax ay).new bx by')
  rw [size_alloc] at HB
  have x0 := (HB.out.has _ _ _ (.head _)).cellv 0 _ rfl
  have x1 := (HB.out.has _ _ _ (.head _)).cellv 1 _ rfl
  have y0 := (HB.out.has _ _ _ (.tail _ (.head _))).cellv 0 _ rfl
  have y1 := (HB.out.has _ _ _ (.tail _ (.head _))).cellv 1 _ rfl
  go_enter Tryz.func52, Tryz.ntmps52
  go_wp2_with fail
  refine (c1 _).mono ?_
  rintro e w' ⟨rfl, hw⟩; rw [hw]
  go_wp2_with fail
  refine (c2 _).mono ?_
  rintro e w' ⟨rfl, hw⟩; rw [hw]
  go_wp2_with fail
  go_ret
  exact ⟨rfl, HB.out.g⟩
set_option maxHeartbeats 2000000 in
theorem within_c (ax ay bx by' r : Int) (h1 : I64 ax) (h2 : I64 ay) (h3 : I64 bx) (h4 : I64 by') (w : World) :
    Calls Tryz.prog 15 #[vv ax ay, vv bx by', .int .i64 r] w fun e w' => e = .returned (.bool (wn (d2 ax ay bx by') r)) ∧ Gw w w' := by
  have c1 := fun W => dist_c ax ay bx by' h1 h2 h3 h4 W
  have c2 := fun W => kept_i r 0 3037000499 W
  have s1 := kz_sq r
  clear h1 h2 h3 h4
  have HB := Keep.mk (((Bx.start w).new ax ay).new bx by')
  rw [size_alloc] at HB
  generalize d2 ax ay bx by' = d at *
  unfold wn
  by_cases c : r < 0
  · have e : decide (0 ≤ r) = false := decide_eq_false (by omega)
    rw [e, Bool.false_and]
    go_enter Tryz.func15, Tryz.ntmps15
    go_wp2_with fail
    go_ret
    exact ⟨rfl, HB.out.g⟩
  · have e : decide (0 ≤ r) = true := decide_eq_true (by omega)
    rw [e, Bool.true_and]
    generalize kz r 0 3037000499 = q at *
    have e1 : IntKind.i64.wrap (q * q) = q * q := by rw [IntKind.wrap_i64]; omega
    clear s1 e
    go_enter Tryz.func15, Tryz.ntmps15
    go_wp2_with fail
    refine (c2 _).mono ?_
    rintro e w' ⟨rfl, hw⟩; rw [hw]
    clear c2 hw w'
    go_wp2_with fail
    generalize (w.alloc (.cells #[.int .i64 ax, .int .i64 ay] 24)).alloc (.cells #[.int .i64 bx, .int .i64 by'] 24) = W at HB ⊢
    refine (c1 _).mono ?_
    rintro e w2 ⟨rfl, hg⟩
    have HB2 := Keep.mk (HB.out.kept hg)
    clear hg HB c1
    go_wp2_with fail
    go_ret
    exact ⟨rfl, HB2.out.g⟩
set_option maxHeartbeats 2000000 in
theorem rwithin_c (ax ay bx by' r : Int) (h1 : I64 ax) (h2 : I64 ay) (h3 : I64 bx) (h4 : I64 by') (w : World) :
    Calls Tryz.prog 38 #[vv ax ay, vv bx by', .int .i64 r] w fun e w' => e = .returned (.bool (wn (d2 ax ay bx by') r)) ∧ Gw w w' := by
  have c1 := fun W => rdist_c ax ay bx by' h1 h2 h3 h4 W
  have hd := (d2_range ax ay bx by').2
  clear h1 h2 h3 h4
  have HB := Keep.mk (((Bx.start w).new ax ay).new bx by')
  rw [size_alloc] at HB
  generalize d2 ax ay bx by' = d at *
  by_cases c : r < 0
  · rw [wn_neg d r c]
    go_enter Tryz.func38, Tryz.ntmps38
    go_wp2_with fail
    go_ret
    exact ⟨rfl, HB.out.g⟩
  · by_cases c2 : 3037000500 ≤ r
    · rw [wn_big d r hd c2]
      go_enter Tryz.func38, Tryz.ntmps38
      go_wp2_with fail
      go_ret
      exact ⟨rfl, HB.out.g⟩
    · rw [wn_small d r (by omega) (by omega)]
      have s1 : 0 ≤ r * r ∧ r * r ≤ 9223372030926249001 := by
        have h := kz_sq r
        have e : kz r 0 3037000499 = r := by unfold kz; omega
        rwa [e] at h
      have e1 : IntKind.i64.wrap (r * r) = r * r := by rw [IntKind.wrap_i64]; omega
      clear s1
      go_enter Tryz.func38, Tryz.ntmps38
      go_wp2_with fail
      generalize (w.alloc (.cells #[.int .i64 ax, .int .i64 ay] 24)).alloc (.cells #[.int .i64 bx, .int .i64 by'] 24) = W at HB ⊢
      refine (c1 _).mono ?_
      rintro e w2 ⟨rfl, hg⟩
      have HB2 := Keep.mk (HB.out.kept hg)
      clear hg HB c1
      go_wp2_with fail
      go_ret
      exact ⟨rfl, HB2.out.g⟩
end Go.Proofs.YtgedlabmndlooaaGreat
