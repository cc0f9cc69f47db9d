import Derived.Test.YtplcicbpkbamnabGreatDoorX2
/- bucket: Ticks, Tick -/
namespace Go.Proofs.YtplcicbpkbamnabGreatDoor.Lo.Bu
open Go Go.RowKit
set_option maxRecDepth 100000 in
theorem gr_some {w w' : World} (h : w.grownBy w' none) (b : Nat) : w.grownBy w' (some b) := ⟨h.os, h.tape, h.output, h.size, fun i hi _ => h.block i hi (by simp)⟩
set_option maxRecDepth 100000 in
set_option maxHeartbeats 8000000 in
theorem ticks_c (kb o : Nat) (cs : List Value) (r u y n : Int) (w : World) (b : BK w kb o cs r u y) (hn : 0 ≤ n) (hn1 : n < 18446744073709551616) :
    Calls Tryz.prog 107 #[.pointer (some ⟨kb, o, none⟩), .int .u64 n] w fun e w' => e = .returned (.tuple #[]) ∧ Has w' kb (cs.set (o + 2) (.int .i64 (tk r u y n))) 109 ∧ w.grownBy w' (some kb) := by
  have h0 : w.cell? ⟨kb, o, none⟩ = some (.int .i64 r) := b.has.cellv o _ b.c0
  have HC : Keep (cs[o]? = some (.int .i64 r) ∧ cs[o + 1]? = some (.int .i64 u) ∧ cs[o + 2]? = some (.int .i64 y)) := ⟨b.c0, b.c1, b.c2⟩
  have HT : Keep (0 ≤ tk r u y n ∧ tk r u y n ≤ 16 * u) := ⟨tk_lo b.r0 b.u0 b.h0 hn, tk_hi⟩
  have HH : Keep (Has w.drew kb cs 109 ∧ w.grownBy w.drew none) := ⟨b.has, gr_drew _ _⟩
  have HU : Keep (1 ≤ u ∧ u ≤ 1000) := ⟨b.u0, b.u1⟩
  have hm0 : 0 ≤ r * min n 16000 := Int.mul_nonneg b.r0 (by omega)
  have hm1 : r * min n 16000 ≤ 16000000 := by
    have := Int.mul_le_mul b.r1 (show min n 16000 ≤ 16000 by omega) (by omega) (by omega)
    omega
  have hh0 := b.h0
  have hh1 := b.h1
  have hu1 := b.u1
  have HM : Keep (tk r u y n = min (y + r * min n 16000) (16 * u)) := ⟨rfl⟩
  obtain ⟨m, hm⟩ : ∃ m, r * min n 16000 = m := ⟨_, rfl⟩
  have HW : Keep ((n ≤ 16000 → IntKind.i64.wrap (r * n) = m) ∧ (16000 < n → IntKind.i64.wrap (r * 16000) = m)) := ⟨fun q => by
    rw [Int.min_eq_left q] at hm hm0 hm1; rw [← hm]; exact wi _ (by omega) (by omega), fun q => by
    rw [Int.min_eq_right (by omega)] at hm hm0 hm1; rw [← hm]; exact wi _ (by omega) (by omega)⟩
  rw [hm] at hm0 hm1 HM
  clear hm b
  have hw2 : IntKind.i64.wrap (y + m) = y + m := wi _ (by omega) (by omega)
  obtain ⟨x, hx⟩ : ∃ x, y + m = x := ⟨_, rfl⟩
  rw [hx] at HM
  have hwx : IntKind.i64.wrap (y + m) = x := by rw [hw2, hx]
  clear hx hm0 hm1 hh0 hh1 hu1 hw2
  obtain ⟨U, hU⟩ : ∃ U, 16 * u = U := ⟨_, rfl⟩
  rw [hU] at HM
  have hHeld : True := trivial
  rcases Int.lt_or_le 16000 n with hq | hq
  case' inl => have hwm := HW.out.2 hq
  case' inr => have hwm := HW.out.1 hq
  all_goals
    clear HW
    rcases Int.lt_or_le U x with hp | hp
    case' inl => have hM : tk r u y n = U := by rw [HM.out]; omega
    case' inr => have hM : tk r u y n = x := by rw [HM.out]; omega
    all_goals
      clear HM
      have HHM : Keep (tk r u y n = _) := ⟨hM⟩
      clear hM
      go_enter Tryz.func107, Tryz.ntmps107
      go_wp2_with fail
      refine wp_region_held_drew (S := fun _ => True) (by kernel_rfl) trivial (fun _ => ?_)
      have HS : Keep (Has w.drew kb cs 109 ∧ w.grownBy w.drew none) := HH
      clear h0 HH
      generalize w.drew = w1 at HS ⊢
      refine wpAnyH_take (i := 0) (oi := _) (v := ?_) rfl (by kernel_rfl) (by kernel_rfl) (by kernel_rfl) (fun _ _ _ h => h) (Or.inl ⟨by rfl, ?_⟩) (by assumption) ?_
      rotate_left
      · (intro w hSw; go_simp; first | done | (with_reducible rfl))
      simp only [Act.put, List.getElem_toArray, List.getElem_cons_zero, List.setIfInBounds_toArray, List.set_cons_zero, List.set_cons_succ]
      refine wpAnyH_take (i := 1) (oi := _) (v := ?_) rfl (by kernel_rfl) (by kernel_rfl) (by kernel_rfl) (fun _ _ _ h => h) (Or.inl ⟨by rfl, ?_⟩) (by assumption) ?_
      rotate_left
      · (intro w hSw; go_simp; first | done | (with_reducible rfl))
      simp only [Act.put, List.getElem_toArray, List.getElem_cons_succ, List.getElem_cons_zero, List.setIfInBounds_toArray, List.set_cons_zero, List.set_cons_succ]
      refine wpAnyH_take (i := 2) (oi := _) (v := ?_) rfl (by kernel_rfl) (by kernel_rfl) (by kernel_rfl) (fun _ _ _ h => h) (Or.inl ⟨by rfl, ?_⟩) (by assumption) ?_
      rotate_left
      · (intro w hSw; go_simp; first | done | (with_reducible rfl))
      simp only [Act.put, List.getElem_toArray, List.getElem_cons_succ, List.getElem_cons_zero, List.setIfInBounds_toArray, List.set_cons_zero, List.set_cons_succ]
      refine wpAnyH_take (i := 3) (oi := _) (v := ?_) rfl (by kernel_rfl) (by kernel_rfl) (by kernel_rfl) (fun _ _ _ h => h) (Or.inl ⟨by rfl, ?_⟩) (by assumption) ?_
      rotate_left
      · (intro w hSw; go_simp; first | done | (with_reducible rfl))
      simp only [Act.put, List.getElem_toArray, List.getElem_cons_succ, List.getElem_cons_zero, List.setIfInBounds_toArray, List.set_cons_zero, List.set_cons_succ]
      refine wpAnyH_take (i := 5) (oi := _) (v := ?_) rfl (by kernel_rfl) (by kernel_rfl) (by kernel_rfl) (fun _ _ _ h => h) (Or.inl ⟨by rfl, ?_⟩) (by assumption) ?_
      rotate_left
      · (intro w hSw; go_simp; first | done | (with_reducible rfl))
      simp only [Act.put, List.getElem_toArray, List.getElem_cons_succ, List.getElem_cons_zero, List.setIfInBounds_toArray, List.set_cons_zero, List.set_cons_succ]
      refine wpAnyH_take (i := 7) (oi := _) (v := ?_) rfl (by kernel_rfl) (by kernel_rfl) (by kernel_rfl) (fun _ _ _ h => h) (Or.inl ⟨by rfl, ?_⟩) (by assumption) ?_
      rotate_left
      · (intro w hSw; go_simp; first | done | (with_reducible rfl))
      simp only [Act.put, List.getElem_toArray, List.getElem_cons_succ, List.getElem_cons_zero, List.setIfInBounds_toArray, List.set_cons_zero, List.set_cons_succ]
      refine wpAnyH_take (i := 8) (oi := _) (v := ?_) rfl (by kernel_rfl) (by kernel_rfl) (by kernel_rfl) (fun _ _ _ h => h) (Or.inl ⟨by rfl, ?_⟩) (by assumption) ?_
      rotate_left
      · (intro w hSw; go_simp; first | done | (with_reducible rfl))
      simp only [Act.put, List.getElem_toArray, List.getElem_cons_succ, List.getElem_cons_zero, List.setIfInBounds_toArray, List.set_cons_zero, List.set_cons_succ]
      have x0 := HS.out.1.cellv o _ HC.out.1
      have x1 := HS.out.1.cellv (o + 1) _ HC.out.2.1
      have x2 := HS.out.1.cellv (o + 2) _ HC.out.2.2
      refine wpAnyH_ready (rs := [4, 9]) (by kernel_rfl) (by simp) ?_
      refine AllReadyH.cons rfl (fun K hK => ?_) (AllReadyH.cons rfl (fun K hK => ?_) AllReadyH.nil)
      · go_simp
        refine hK.out _ _ trivial (fun _ => ?_)
        clear hK K
        refine wpAnyH_take (i := 6) (oi := _) (v := ?_) rfl (by kernel_rfl) (by kernel_rfl) (by kernel_rfl) (fun _ _ _ h => h) (Or.inl ⟨by rfl, ?_⟩) (by assumption) ?_
        rotate_left
        · (intro w hSw; go_simp; first | done | (with_reducible rfl))
        simp only [Act.put, List.getElem_toArray, List.getElem_cons_succ, List.getElem_cons_zero, List.setIfInBounds_toArray, List.set_cons_zero, List.set_cons_succ]
        refine wpAnyH_ready (rs := [9]) (by kernel_rfl) (by simp) ?_
        refine AllReadyH.cons rfl (fun K hK => ?_) AllReadyH.nil
        go_simp
        refine hK.out _ _ trivial (fun _ => ?_)
        clear hK K
        refine wpAnyH_ready (rs := [10]) (by kernel_rfl) (by simp) ?_
        refine AllReadyH.cons rfl (fun K hK => ?_) AllReadyH.nil
        go_simp
        refine (full_c r u y _ HU.out.1 HU.out.2).mono ?_
        rintro e w2 ⟨rfl, g1⟩
        replace HS : Keep (Has w2 kb cs 109 ∧ w.grownBy w2 none) := ⟨HS.out.1.kept g1 (by simp), HS.out.2.trans g1⟩
        clear g1
        refine hK.out _ _ trivial (fun _ => ?_)
        clear hK K x0 x1 x2 w1
        rename World => w1
        rw [hU]
        have x0 := HS.out.1.cellv o _ HC.out.1
        have x1 := HS.out.1.cellv (o + 1) _ HC.out.2.1
        have x2 := HS.out.1.cellv (o + 2) _ HC.out.2.2
        refine wpAnyH_take (i := 11) (oi := _) (v := ?_) rfl (by kernel_rfl) (by kernel_rfl) (by kernel_rfl) (fun _ _ _ h => h) (Or.inl ⟨by rfl, ?_⟩) (by assumption) ?_
        rotate_left
        · (intro w hSw; go_simp; first | done | (with_reducible rfl))
        simp only [Act.put, List.getElem_toArray, List.getElem_cons_succ, List.getElem_cons_zero, List.setIfInBounds_toArray, List.set_cons_zero, List.set_cons_succ]
        refine wpAnyH_take (i := 12) (oi := _) (v := ?_) rfl (by kernel_rfl) (by kernel_rfl) (by kernel_rfl) (fun _ _ _ h => h) (Or.inl ⟨by rfl, ?_⟩) (by assumption) ?_
        rotate_left
        · (intro w hSw; go_simp; first | done | (with_reducible rfl))
        simp only [Act.put, List.getElem_toArray, List.getElem_cons_succ, List.getElem_cons_zero, List.setIfInBounds_toArray, List.set_cons_zero, List.set_cons_succ]
        refine wpAnyH_take (i := 13) (oi := _) (v := ?_) rfl (by kernel_rfl) (by kernel_rfl) (by kernel_rfl) (fun _ _ _ h => h) (Or.inl ⟨by rfl, ?_⟩) (by assumption) ?_
        rotate_left
        · (intro w hSw; go_simp; first | done | (with_reducible rfl))
        simp only [Act.put, List.getElem_toArray, List.getElem_cons_succ, List.getElem_cons_zero, List.setIfInBounds_toArray, List.set_cons_zero, List.set_cons_succ]
        have hz : w1.frozen? ⟨kb, o + 2, none⟩ = false := HS.out.1.frozen (o + 2)
        refine wpAnyH_ready (rs := [14]) (by kernel_rfl) (by simp) ?_
        refine AllReadyH.cons rfl (fun K hK => ?_) AllReadyH.nil
        go_simp
        go_wp2_with fail
        refine hK.out _ _ trivial (fun _ => ?_)
        refine wpAnyH_done (by kernel_rfl) ?_ _
        clear hK K
        go_wp2_with fail
        go_end0
        have g := gr_set w1 kb (o + 2) (.int .i64 (tk r u y n))
        have hs := HS.out.1.setCell (o + 2) (.int .i64 (tk r u y n))
        rw [HHM.out] at g hs
        refine ⟨rfl, ?_, (gr_some HS.out.2 kb).trans g⟩
        rw [HHM.out]; exact hs
      · go_simp
        refine hK.out _ _ trivial (fun _ => ?_)
        clear hK K
        refine wpAnyH_ready (rs := [4, 10]) (by kernel_rfl) (by simp) ?_
        refine AllReadyH.cons rfl (fun K hK => ?_) (AllReadyH.cons rfl (fun K hK => ?_) AllReadyH.nil)
        · go_simp
          refine hK.out _ _ trivial (fun _ => ?_)
          clear hK K
          refine wpAnyH_take (i := 6) (oi := _) (v := ?_) rfl (by kernel_rfl) (by kernel_rfl) (by kernel_rfl) (fun _ _ _ h => h) (Or.inl ⟨by rfl, ?_⟩) (by assumption) ?_
          rotate_left
          · (intro w hSw; go_simp; first | done | (with_reducible rfl))
          simp only [Act.put, List.getElem_toArray, List.getElem_cons_succ, List.getElem_cons_zero, List.setIfInBounds_toArray, List.set_cons_zero, List.set_cons_succ]
          refine wpAnyH_ready (rs := [10]) (by kernel_rfl) (by simp) ?_
          refine AllReadyH.cons rfl (fun K hK => ?_) AllReadyH.nil
          go_simp
          refine (full_c r u y _ HU.out.1 HU.out.2).mono ?_
          rintro e w2 ⟨rfl, g1⟩
          replace HS : Keep (Has w2 kb cs 109 ∧ w.grownBy w2 none) := ⟨HS.out.1.kept g1 (by simp), HS.out.2.trans g1⟩
          clear g1
          refine hK.out _ _ trivial (fun _ => ?_)
          clear hK K x0 x1 x2 w1
          rename World => w1
          rw [hU]
          have x0 := HS.out.1.cellv o _ HC.out.1
          have x1 := HS.out.1.cellv (o + 1) _ HC.out.2.1
          have x2 := HS.out.1.cellv (o + 2) _ HC.out.2.2
          refine wpAnyH_take (i := 11) (oi := _) (v := ?_) rfl (by kernel_rfl) (by kernel_rfl) (by kernel_rfl) (fun _ _ _ h => h) (Or.inl ⟨by rfl, ?_⟩) (by assumption) ?_
          rotate_left
          · (intro w hSw; go_simp; first | done | (with_reducible rfl))
          simp only [Act.put, List.getElem_toArray, List.getElem_cons_succ, List.getElem_cons_zero, List.setIfInBounds_toArray, List.set_cons_zero, List.set_cons_succ]
          refine wpAnyH_take (i := 12) (oi := _) (v := ?_) rfl (by kernel_rfl) (by kernel_rfl) (by kernel_rfl) (fun _ _ _ h => h) (Or.inl ⟨by rfl, ?_⟩) (by assumption) ?_
          rotate_left
          · (intro w hSw; go_simp; first | done | (with_reducible rfl))
          simp only [Act.put, List.getElem_toArray, List.getElem_cons_succ, List.getElem_cons_zero, List.setIfInBounds_toArray, List.set_cons_zero, List.set_cons_succ]
          refine wpAnyH_take (i := 13) (oi := _) (v := ?_) rfl (by kernel_rfl) (by kernel_rfl) (by kernel_rfl) (fun _ _ _ h => h) (Or.inl ⟨by rfl, ?_⟩) (by assumption) ?_
          rotate_left
          · (intro w hSw; go_simp; first | done | (with_reducible rfl))
          simp only [Act.put, List.getElem_toArray, List.getElem_cons_succ, List.getElem_cons_zero, List.setIfInBounds_toArray, List.set_cons_zero, List.set_cons_succ]
          have hz : w1.frozen? ⟨kb, o + 2, none⟩ = false := HS.out.1.frozen (o + 2)
          refine wpAnyH_ready (rs := [14]) (by kernel_rfl) (by simp) ?_
          refine AllReadyH.cons rfl (fun K hK => ?_) AllReadyH.nil
          go_simp
          go_wp2_with fail
          refine hK.out _ _ trivial (fun _ => ?_)
          refine wpAnyH_done (by kernel_rfl) ?_ _
          clear hK K
          go_wp2_with fail
          go_end0
          have g := gr_set w1 kb (o + 2) (.int .i64 (tk r u y n))
          have hs := HS.out.1.setCell (o + 2) (.int .i64 (tk r u y n))
          rw [HHM.out] at g hs
          refine ⟨rfl, ?_, (gr_some HS.out.2 kb).trans g⟩
          rw [HHM.out]; exact hs
        · go_simp
          refine (full_c r u y _ HU.out.1 HU.out.2).mono ?_
          rintro e w2 ⟨rfl, g1⟩
          replace HS : Keep (Has w2 kb cs 109 ∧ w.grownBy w2 none) := ⟨HS.out.1.kept g1 (by simp), HS.out.2.trans g1⟩
          clear g1
          refine hK.out _ _ trivial (fun _ => ?_)
          clear hK K x0 x1 x2 w1
          rename World => w1
          rw [hU]
          have x0 := HS.out.1.cellv o _ HC.out.1
          have x1 := HS.out.1.cellv (o + 1) _ HC.out.2.1
          have x2 := HS.out.1.cellv (o + 2) _ HC.out.2.2
          refine wpAnyH_ready (rs := [4]) (by kernel_rfl) (by simp) ?_
          refine AllReadyH.cons rfl (fun K hK => ?_) AllReadyH.nil
          go_simp
          refine hK.out _ _ trivial (fun _ => ?_)
          clear hK K
          refine wpAnyH_take (i := 6) (oi := _) (v := ?_) rfl (by kernel_rfl) (by kernel_rfl) (by kernel_rfl) (fun _ _ _ h => h) (Or.inl ⟨by rfl, ?_⟩) (by assumption) ?_
          rotate_left
          · (intro w hSw; go_simp; first | done | (with_reducible rfl))
          simp only [Act.put, List.getElem_toArray, List.getElem_cons_succ, List.getElem_cons_zero, List.setIfInBounds_toArray, List.set_cons_zero, List.set_cons_succ]
          refine wpAnyH_take (i := 11) (oi := _) (v := ?_) rfl (by kernel_rfl) (by kernel_rfl) (by kernel_rfl) (fun _ _ _ h => h) (Or.inl ⟨by rfl, ?_⟩) (by assumption) ?_
          rotate_left
          · (intro w hSw; go_simp; first | done | (with_reducible rfl))
          simp only [Act.put, List.getElem_toArray, List.getElem_cons_succ, List.getElem_cons_zero, List.setIfInBounds_toArray, List.set_cons_zero, List.set_cons_succ]
          refine wpAnyH_take (i := 12) (oi := _) (v := ?_) rfl (by kernel_rfl) (by kernel_rfl) (by kernel_rfl) (fun _ _ _ h => h) (Or.inl ⟨by rfl, ?_⟩) (by assumption) ?_
          rotate_left
          · (intro w hSw; go_simp; first | done | (with_reducible rfl))
          simp only [Act.put, List.getElem_toArray, List.getElem_cons_succ, List.getElem_cons_zero, List.setIfInBounds_toArray, List.set_cons_zero, List.set_cons_succ]
          refine wpAnyH_take (i := 13) (oi := _) (v := ?_) rfl (by kernel_rfl) (by kernel_rfl) (by kernel_rfl) (fun _ _ _ h => h) (Or.inl ⟨by rfl, ?_⟩) (by assumption) ?_
          rotate_left
          · (intro w hSw; go_simp; first | done | (with_reducible rfl))
          simp only [Act.put, List.getElem_toArray, List.getElem_cons_succ, List.getElem_cons_zero, List.setIfInBounds_toArray, List.set_cons_zero, List.set_cons_succ]
          have hz : w1.frozen? ⟨kb, o + 2, none⟩ = false := HS.out.1.frozen (o + 2)
          refine wpAnyH_ready (rs := [14]) (by kernel_rfl) (by simp) ?_
          refine AllReadyH.cons rfl (fun K hK => ?_) AllReadyH.nil
          go_simp
          go_wp2_with fail
          refine hK.out _ _ trivial (fun _ => ?_)
          refine wpAnyH_done (by kernel_rfl) ?_ _
          clear hK K
          go_wp2_with fail
          go_end0
          have g := gr_set w1 kb (o + 2) (.int .i64 (tk r u y n))
          have hs := HS.out.1.setCell (o + 2) (.int .i64 (tk r u y n))
          rw [HHM.out] at g hs
          refine ⟨rfl, ?_, (gr_some HS.out.2 kb).trans g⟩
          rw [HHM.out]; exact hs
set_option maxRecDepth 100000 in
theorem tick_c (kb o : Nat) (cs : List Value) (r u y : Int) (w : World) (b : BK w kb o cs r u y) :
    Calls Tryz.prog 83 #[.pointer (some ⟨kb, o, none⟩)] w fun e w' => e = .returned (.tuple #[]) ∧ Has w' kb (cs.set (o + 2) (.int .i64 (tk r u y 1))) 109 ∧ w.grownBy w' (some kb) := by
  go_enter Tryz.func83, Tryz.ntmps83
  go_wp2_with fail
  refine (ticks_c kb o cs r u y 1 w b (by omega) (by omega)).mono ?_
  rintro e w' ⟨rfl, h1, h2⟩
  go_wp2_with fail
  go_end0
  exact ⟨rfl, h1, h2⟩
def okay (r u : Int) : Prop := 0 ≤ r ∧ r ≤ 1000 ∧ 1 ≤ u ∧ u ≤ 1000
abbrev bv (r u y : Int) : Value := .agg #[.int .i64 r, .int .i64 u, .int .i64 y]
set_option maxRecDepth 100000 in
theorem gr_put {w w1 : World} {b j : Nat} {v : Value} (h : w.grownBy w1 none) (hb : w.heap.size ≤ b) : w.grownBy (w1.setCell ⟨b, j, none⟩ v) none := gr_new h (gr_set w1 b j v) hb
set_option maxRecDepth 100000 in
theorem results_ct {fn : Func} {p q : Tmp} {ty : TypeId} (h : fn.results = #[.cell p ty, .tmp q]) (tmps : Array Value) (P : Program) (w : World) :
    (results fn tmps).run P w = ((asAddr (tmps.getD p undef)).run P w).andThen fun a w₁ => ((loadVar ty a).run P w₁).andThen fun v w₂ => .ok (.tuple #[v, tmps.getD q undef]) w₂ := by
  simp only [results, h]
  simp [Sem.run_bind, Result.andThen]
set_option maxRecDepth 100000 in
theorem ret_ct {P : Program} {fn : Func} {R : Ending → World → Prop} {a : Act} {w : World} {p q : Tmp} {ty t : TypeId} {b : Nat} {cs : List Value} {d : TypeDesc}
    (hr : fn.results = #[.cell p ty, .tmp q]) (hp : a.tmps.getD p undef = .pointer (some ⟨b, 0, none⟩)) (hh : Has w b cs t) (hu : P.underlying ty = some d) (hd : d.isRow = true)
    (hi : (P.info? ty).map (·.size) = some cs.length) (hdf : a.defers = []) (h : R (.returned (.tuple #[.agg cs.toArray, a.tmps.getD q undef])) w) : bodyPost P fn R .ret a w := by
  refine bodyPost_ret (v := .tuple #[.agg cs.toArray, a.tmps.getD q undef]) ?_ hdf h
  rw [results_ct hr, hp]
  simp [asAddr, Result.andThen, run_loadVar_mid w b 0 ty cs d hh.range hu hd hi]
set_option maxRecDepth 100000 in
theorem underB : ∃ d, Tryz.prog.underlying 60 = some d ∧ d.isRow = true := ⟨_, Tryz.underlying60, rfl⟩
set_option maxRecDepth 100000 in
theorem infoB : (Tryz.prog.info? 60).map (·.size) = some 3 := by kernel_rfl
set_option maxRecDepth 100000 in
theorem new_no (r u : Int) (w : World) (h : ¬ okay r u) :
    Calls Tryz.prog 21 #[.int .i64 r, .int .i64 u] w fun e w' => e = .returned (.tuple #[bv 0 0 0, .int .i64 110]) ∧ w.grownBy w' none := by
  obtain ⟨d, hdu, hdr⟩ := underB
  have HN := Has.new w (bks 0 0 0) 60
  go_enter Tryz.func21, Tryz.ntmps21
  go_wp2_with fail
  refine (check_no r u _ h).mono ?_
  rintro e w' ⟨rfl, rfl⟩
  go_wp2_with fail
  exact ret_ct rfl rfl (cs := bks 0 0 0) (t := 60) HN hdu hdr infoB rfl ⟨rfl, World.grownBy_alloc _ _ _⟩
set_option maxRecDepth 100000 in
theorem new_yes (r u : Int) (w : World) (h : okay r u) :
    Calls Tryz.prog 21 #[.int .i64 r, .int .i64 u] w fun e w' => e = .returned (.tuple #[bv r u (16 * u), .int .i64 0]) ∧ w.grownBy w' none := by
  obtain ⟨d, hdu, hdr⟩ := underB
  go_enter Tryz.func21, Tryz.ntmps21
  go_wp2_with fail
  refine (check_yes r u _ h.1 h.2.1 h.2.2.1 h.2.2.2).mono ?_
  rintro e w' ⟨rfl, rfl⟩
  go_wp2_with fail
  refine (full_c r u 0 _ h.2.2.1 h.2.2.2).mono ?_
  rintro e w2 ⟨rfl, g2⟩
  have A1 := ((Has.new w (bks 0 0 0) 60).alloc (.cells #[.int .i64 r, .int .i64 u, .int .i64 0] 60)).kept g2 (by simp)
  have A2 := (Has.new (w.alloc (.cells (bks 0 0 0).toArray 60)) (bks r u 0) 60).kept g2 (by simp)
  have g0 : w.grownBy w2 none := ((World.grownBy_alloc _ _ _).trans (World.grownBy_alloc _ _ _)).trans g2
  rw [World.size_alloc] at A2
  clear g2
  have HG : Keep (w.grownBy w2 none) := ⟨g0⟩
  have z2 := A2.frozen 2
  have z0 := A1.frozen 0
  have z1 := A1.frozen 1
  have z3 := A1.frozen 2
  have c0 := A2.cellv 0 _ rfl
  have c1 := A2.cellv 1 _ rfl
  have c2 := A2.cellv 2 _ rfl
  have c3 := A1.cellv 0 _ rfl
  have c4 := A1.cellv 1 _ rfl
  have c5 := A1.cellv 2 _ rfl
  have HA : Keep (Has w2 w.heap.size (bks 0 0 0) 60 ∧ Has w2 (w.heap.size + 1) (bks r u 0) 60) := ⟨A1, A2⟩
  clear A1 A2 g0
  go_wp2_with fail
  refine ret_ct rfl rfl (cs := bks r u (16 * u)) (t := 60) ((((HA.out.1.other ⟨w.heap.size + 1, 2, none⟩ _ (by simp)).setCell 0 _).setCell 1 _).setCell 2 _) hdu hdr infoB rfl ⟨rfl, ?_⟩
  exact gr_put (gr_put (gr_put (gr_put HG.out (by omega)) (by omega)) (by omega)) (by omega)
end Go.Proofs.YtplcicbpkbamnabGreatDoor.Lo.Bu

