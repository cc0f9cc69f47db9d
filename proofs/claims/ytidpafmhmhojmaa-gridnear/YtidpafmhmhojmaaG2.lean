/- grid: drop. -/
import Derived.Test.YtidpafmhmhojmaaG1
namespace Go.Proofs.Ytidpafmhmhojmaa
open Go Go.RowKit

theorem own_cut {lo : Nat} {W : World} {e : TypeId} {g n c m : Nat} {xs : List Value} (h : W.ownsRow lo e 1 (sl g n c) n xs) (hm : m ≤ n) : W.ownsRow lo e 1 (sl g m c) m (xs.take m) := by
  obtain ⟨h1, h2⟩ := h
  rcases h2 with ⟨h2, _⟩ | ⟨g', cap, cur, hv, hb, hheap, h3, h4, h5, h6⟩
  · cases h2
  · injection hv with e1 e2 e3
    cases e1
    refine ⟨by rw [List.length_take]; omega, .inr ⟨g, cap, cur, by rw [e3], hb, hheap, by omega, by omega, h5, ?_⟩⟩
    rw [← h6, List.take_take]
    congr 1
    omega
theorem Sep.cut {w0 W : World} {l : List As} {e : TypeId} {g n c m : Nat} {xs : List Value} (h : Sep w0 W (rowV e 1 (sl g n c) n xs :: l)) (hm : m ≤ n) : Sep w0 W (rowV e 1 (sl g m c) m (xs.take m) :: l) := by
  obtain ⟨F, ⟨h1, rfl⟩, _, hu⟩ := h.use
  exact hu _ [_] (Fr.refl _ _) (Loc.one (a := rowV _ _ _ _ _) _ ⟨own_cut h1 hm, rfl⟩ (fun i hi => .inl hi))
theorem own_cap {lo : Nat} {W : World} {e : TypeId} {g n c : Nat} {xs : List Value} (h : W.ownsRow lo e 1 (sl g n c) n xs) : n ≤ c ∧ xs.length = n ∧ ∀ (k : Nat) t, xs[k]? = some t → W.cell? ⟨g, k, none⟩ = some t ∧ W.frozen? ⟨g, k, none⟩ = false := by
  have h0 := h
  obtain ⟨h1, h2⟩ := h
  rcases h2 with ⟨h2, _⟩ | ⟨g', cap, cur, hv, hb, hheap, h3, h4, h5, h6⟩
  · cases h2
  · injection hv with e1 e2 e3
    cases e1
    refine ⟨by omega, by omega, fun k t ht => ?_⟩
    have hk := (List.getElem?_eq_some_iff.1 ht).1
    obtain ⟨g', c', e, q⟩ := own_any h0 (by omega)
    injection e with e1 _ _
    cases e1
    exact q k t ht

set_option maxRecDepth 100000 in
set_option maxHeartbeats 4000000 in
theorem dropL0 (w0 W : World) (l : List As) (g m c p : Nat) (xs : List Value) (tb : Nat) (a0 a1 a2 a4 : Value) (hp : p = m) (hm : m < 17592186044416) (hx : xs[m]? = some (pt tb)) (h : Sep w0 W (rowV 57 1 (sl g (m + 1) c) (m + 1) xs :: boxA tb [a0, a1, a2, iv p, a4] 60 :: l)) :
    Calls Try.prog 38 #[sl g (m + 1) c, iv 0, pt tb] W fun e W' => e = .returned (sl g m c) ∧ Sep w0 W' (rowV 57 1 (sl g m c) m ((xs.set p (pt tb)).take m) :: boxA tb [a0, a1, a2, iv p, a4] 60 :: l) := by
  obtain ⟨hc, hl, hce⟩ := own_cap (h.rowGet k0m)
  have x1 := (hce m _ hx).1
  have HB : Keep (Sep w0 W.drew (rowV 57 1 (sl g (m + 1) c) (m + 1) xs :: boxA tb [a0, a1, a2, iv p, a4] 60 :: l)) := ⟨h.grown (gr_drew _ _)⟩
  have HP : Keep (p ≤ m) := ⟨by omega⟩
  have HX : Keep (xs[m]? = some (pt tb) ∧ xs.length = m + 1) := ⟨hx, hl⟩
  obtain ⟨n, hn⟩ : ∃ n, m + 1 = n := ⟨_, rfl⟩
  have HN : Keep (m + 1 = n) := ⟨hn⟩
  have e1 : IntKind.i64.wrap ((n : Int) - 1) = (m : Int) := by rw [IntKind.wrap_i64]; omega
  have lt1 : (m : Int) < (n : Int) := by omega
  have lt2 : (p : Int) < (n : Int) := by omega
  have le2 : (m : Int) ≤ (c : Int) := by omega
  have le3 : m ≤ c := by omega
  have HCUT : Keep (m ≤ n) := ⟨by omega⟩
  rw [hn] at HB ⊢
  clear h hn hce hx hl hc hp
  go_enter Try.func38, Try.ntmps38
  go_wp2_with fail
  refine wp_region_held_drew (S := fun w' => w'.cell? ⟨tb, 3, none⟩ = some (iv p)) (by kernel_rfl) ((HB.out.boxGet k1m).cellv 3 _ rfl) (fun hHeld => ?_)
  obtain ⟨W0, hW0⟩ : ∃ W_, W.drew = W_ := ⟨_, rfl⟩
  rw [hW0] at HB hHeld ⊢
  clear hW0
  refine wpAnyH_take (i := 0) (oi := _) (v := ?_) rfl (by kernel_rfl) (by kernel_rfl) (by kernel_rfl) (fun _ _ _ h => h) (Or.inl ⟨by rfl, ?_⟩) (by assumption) ?_
  rotate_left
  · (intro w hSw; go_simp; first | done | (with_reducible rfl))
  simp only [Act.put, List.getElem_toArray, List.getElem_cons_zero, List.setIfInBounds_toArray, List.set_cons_zero, List.set_cons_succ]
  refine wpAnyH_take (i := 1) (oi := _) (v := ?_) rfl (by kernel_rfl) (by kernel_rfl) (by kernel_rfl) (fun _ _ _ h => h) (Or.inl ⟨by rfl, ?_⟩) (by assumption) ?_
  rotate_left
  · (intro w hSw; go_simp; first | done | (with_reducible rfl))
  simp only [Act.put, List.getElem_toArray, List.getElem_cons_succ, List.getElem_cons_zero, List.setIfInBounds_toArray, List.set_cons_zero, List.set_cons_succ]
  refine wpAnyH_take (i := 2) (oi := _) (v := ?_) rfl (by kernel_rfl) (by kernel_rfl) (by kernel_rfl) (fun _ _ _ h => h) (Or.inl ⟨by rfl, ?_⟩) (by assumption) ?_
  rotate_left
  · (intro w hSw; go_simp; first | done | (with_reducible rfl))
  simp only [Act.put, List.getElem_toArray, List.getElem_cons_succ, List.getElem_cons_zero, List.setIfInBounds_toArray, List.set_cons_zero, List.set_cons_succ]
  refine wpAnyH_take (i := 3) (oi := _) (v := ?_) rfl (by kernel_rfl) (by kernel_rfl) (by kernel_rfl) (fun _ _ _ h => h) (Or.inl ⟨by rfl, ?_⟩) (by assumption) ?_
  rotate_left
  · (intro w hSw; go_simp; first | done | (with_reducible rfl))
  simp only [Act.put, List.getElem_toArray, List.getElem_cons_succ, List.getElem_cons_zero, List.setIfInBounds_toArray, List.set_cons_zero, List.set_cons_succ]
  refine wpAnyH_take (i := 4) (oi := _) (v := ?_) rfl (by kernel_rfl) (by kernel_rfl) (by kernel_rfl) (fun _ _ _ h => h) (Or.inl ⟨by rfl, ?_⟩) (by assumption) ?_
  rotate_left
  · (intro w hSw; go_simp; first | done | (with_reducible rfl))
  simp only [Act.put, List.getElem_toArray, List.getElem_cons_succ, List.getElem_cons_zero, List.setIfInBounds_toArray, List.set_cons_zero, List.set_cons_succ]
  refine wpAnyH_take (i := 5) (oi := _) (v := ?_) rfl (by kernel_rfl) (by kernel_rfl) (by kernel_rfl) (fun _ _ _ h => h) (Or.inl ⟨by rfl, ?_⟩) (by assumption) ?_
  rotate_left
  · (intro w hSw; go_simp; first | done | (with_reducible rfl))
  simp only [Act.put, List.getElem_toArray, List.getElem_cons_succ, List.getElem_cons_zero, List.setIfInBounds_toArray, List.set_cons_zero, List.set_cons_succ]
  refine wpAnyH_take (i := 6) (oi := _) (v := ?_) rfl (by kernel_rfl) (by kernel_rfl) (by kernel_rfl) (fun _ _ _ h => h) (Or.inl ⟨by rfl, ?_⟩) (by assumption) ?_
  rotate_left
  · (intro w hSw; go_simp; first | done | (with_reducible rfl))
  simp only [Act.put, List.getElem_toArray, List.getElem_cons_succ, List.getElem_cons_zero, List.setIfInBounds_toArray, List.set_cons_zero, List.set_cons_succ]
  refine wpAnyH_take (i := 7) (oi := _) (v := ?_) rfl (by kernel_rfl) (by kernel_rfl) (by kernel_rfl) (fun _ _ _ h => h) (Or.inl ⟨by rfl, ?_⟩) (by assumption) ?_
  rotate_left
  · (intro w hSw; go_simp; first | done | (with_reducible rfl))
  simp only [Act.put, List.getElem_toArray, List.getElem_cons_succ, List.getElem_cons_zero, List.setIfInBounds_toArray, List.set_cons_zero, List.set_cons_succ]
  refine wpAnyH_take (i := 8) (oi := _) (v := ?_) rfl (by kernel_rfl) (by kernel_rfl) (by kernel_rfl) (fun _ _ _ h => h) (Or.inl ⟨by rfl, ?_⟩) (by assumption) ?_
  rotate_left
  · (intro w hSw; go_simp; first | done | (with_reducible rfl))
  simp only [Act.put, List.getElem_toArray, List.getElem_cons_succ, List.getElem_cons_zero, List.setIfInBounds_toArray, List.set_cons_zero, List.set_cons_succ]
  refine wpAnyH_take (i := 9) (oi := _) (v := ?_) rfl (by kernel_rfl) (by kernel_rfl) (by kernel_rfl) (fun _ _ _ h => h) (Or.inl ⟨by rfl, ?_⟩) (by assumption) ?_
  rotate_left
  · (intro w hSw; go_simp; first | done | (with_reducible rfl))
  simp only [Act.put, List.getElem_toArray, List.getElem_cons_succ, List.getElem_cons_zero, List.setIfInBounds_toArray, List.set_cons_zero, List.set_cons_succ]
  refine wpAnyH_take (i := 10) (oi := _) (v := ?_) rfl (by kernel_rfl) (by kernel_rfl) (by kernel_rfl) (fun _ _ _ h => h) (Or.inl ⟨by rfl, ?_⟩) (by assumption) ?_
  rotate_left
  · (intro w hSw; go_simp; first | done | (with_reducible rfl))
  simp only [Act.put, List.getElem_toArray, List.getElem_cons_succ, List.getElem_cons_zero, List.setIfInBounds_toArray, List.set_cons_zero, List.set_cons_succ]
  refine wpAnyH_ready (rs := [11]) (by kernel_rfl) (by simp) ?_
  refine AllReadyH.cons rfl (fun K hK => ?_) AllReadyH.nil
  have x0 := (HB.out.boxGet k1m).cellv 3 _ rfl
  have y0 := (HB.out.boxGet k1m).frozen 3
  have S_ := ((fr1 [_] HB.out).boxPut 3 (iv p))
  have S_ : Sep w0 (W0.setCell ⟨tb, 3, none⟩ (iv p)) (rowV 57 1 (sl g n c) n xs :: boxA tb [a0, a1, a2, iv p, a4] 60 :: l) := bk1 [_] S_
  have HS := Keep.mk S_
  clear S_ HB
  obtain ⟨W3, hW3⟩ : ∃ W3, W0.setCell ⟨tb, 3, none⟩ (iv p) = W3 := ⟨_, rfl⟩
  rw [hW3] at HS
  go_simp
  refine hK.out _ _ ((HS.out.boxGet k1m).cellv 3 _ rfl) (fun hHeld => ?_)
  clear hK K x0 y0 hW3 hHeld
  refine wpAnyH_done (by kernel_rfl) ?_ _
  have x2 : W3.cell? ⟨tb, 3, none⟩ = some (iv p) := (HS.out.boxGet k1m).cellv 3 _ rfl
  have HC := Keep.mk (own_cap (HS.out.rowGet k0m)).2.2
  obtain ⟨z, hz⟩ : ∃ z, xs[p]? = some z := ⟨_, List.getElem?_eq_getElem (by have := HX.out.2; have := HP.out; omega)⟩
  have x3 := (HC.out p z hz).1
  have y3 := (HC.out p z hz).2
  have S4 := HS.out.rowSet p (pt tb)
  obtain ⟨W4, hW4⟩ : ∃ W4, W3.setCell ⟨g, p, none⟩ (pt tb) = W4 := ⟨_, rfl⟩
  rw [hW4] at S4
  have hx5 : ∃ z5, (xs.set p (pt tb))[m]? = some z5 := ⟨_, List.getElem?_eq_getElem (by rw [List.length_set]; have := HX.out.2; omega)⟩
  obtain ⟨z5, hz5⟩ := hx5
  have x4 := ((own_cap (S4.rowGet k0m)).2.2 m z5 hz5).1
  have y4 := ((own_cap (S4.rowGet k0m)).2.2 m z5 hz5).2
  have S5 := S4.rowSet m (.pointer none)
  obtain ⟨W5, hW5⟩ : ∃ W5, W4.setCell ⟨g, m, none⟩ (.pointer none) = W5 := ⟨_, rfl⟩
  rw [hW5] at S5
  have HF := Keep.mk (S5.cut (m := m) HCUT.out)
  clear S4 S5 HS hz hz5
  go_wp2_with fail
  go_ret
  refine ⟨rfl, ?_⟩
  have q := HF.out
  rw [List.take_set_of_le (Nat.le_refl _)] at q
  exact q

set_option maxRecDepth 100000 in
set_option maxHeartbeats 4000000 in
theorem dropM0 (w0 W : World) (l : List As) (g m c p : Nat) (xs : List Value) (tb ub : Nat) (a0 a1 a2 a4 b0 b1 b2 b3 b4 : Value) (hp : p < m) (hm : m < 17592186044416) (hx : xs[m]? = some (pt ub)) (h : Sep w0 W (rowV 57 1 (sl g (m + 1) c) (m + 1) xs :: boxA tb [a0, a1, a2, iv p, a4] 60 :: boxA ub [b0, b1, b2, b3, b4] 60 :: l)) :
    Calls Try.prog 38 #[sl g (m + 1) c, iv 0, pt tb] W fun e W' => e = .returned (sl g m c) ∧ Sep w0 W' (rowV 57 1 (sl g m c) m ((xs.set p (pt ub)).take m) :: boxA tb [a0, a1, a2, iv p, a4] 60 :: boxA ub [b0, b1, b2, iv p, b4] 60 :: l) := by
  obtain ⟨hc, hl, hce⟩ := own_cap (h.rowGet k0m)
  have x1 := (hce m _ hx).1
  have HB : Keep (Sep w0 W.drew (rowV 57 1 (sl g (m + 1) c) (m + 1) xs :: boxA tb [a0, a1, a2, iv p, a4] 60 :: boxA ub [b0, b1, b2, b3, b4] 60 :: l)) := ⟨h.grown (gr_drew _ _)⟩
  have HP : Keep (p ≤ m) := ⟨by omega⟩
  have HX : Keep (xs[m]? = some (pt ub) ∧ xs.length = m + 1) := ⟨hx, hl⟩
  obtain ⟨n, hn⟩ : ∃ n, m + 1 = n := ⟨_, rfl⟩
  have HN : Keep (m + 1 = n) := ⟨hn⟩
  have e1 : IntKind.i64.wrap ((n : Int) - 1) = (m : Int) := by rw [IntKind.wrap_i64]; omega
  have lt1 : (m : Int) < (n : Int) := by omega
  have lt2 : (p : Int) < (n : Int) := by omega
  have le2 : (m : Int) ≤ (c : Int) := by omega
  have le3 : m ≤ c := by omega
  have HCUT : Keep (m ≤ n) := ⟨by omega⟩
  rw [hn] at HB ⊢
  clear h hn hce hx hl hc 
  go_enter Try.func38, Try.ntmps38
  go_wp2_with fail
  refine wp_region_held_drew (S := fun w' => w'.cell? ⟨tb, 3, none⟩ = some (iv p)) (by kernel_rfl) ((HB.out.boxGet k1m).cellv 3 _ rfl) (fun hHeld => ?_)
  obtain ⟨W0, hW0⟩ : ∃ W_, W.drew = W_ := ⟨_, rfl⟩
  rw [hW0] at HB hHeld ⊢
  clear hW0
  refine wpAnyH_take (i := 0) (oi := _) (v := ?_) rfl (by kernel_rfl) (by kernel_rfl) (by kernel_rfl) (fun _ _ _ h => h) (Or.inl ⟨by rfl, ?_⟩) (by assumption) ?_
  rotate_left
  · (intro w hSw; go_simp; first | done | (with_reducible rfl))
  simp only [Act.put, List.getElem_toArray, List.getElem_cons_zero, List.setIfInBounds_toArray, List.set_cons_zero, List.set_cons_succ]
  refine wpAnyH_take (i := 1) (oi := _) (v := ?_) rfl (by kernel_rfl) (by kernel_rfl) (by kernel_rfl) (fun _ _ _ h => h) (Or.inl ⟨by rfl, ?_⟩) (by assumption) ?_
  rotate_left
  · (intro w hSw; go_simp; first | done | (with_reducible rfl))
  simp only [Act.put, List.getElem_toArray, List.getElem_cons_succ, List.getElem_cons_zero, List.setIfInBounds_toArray, List.set_cons_zero, List.set_cons_succ]
  refine wpAnyH_take (i := 2) (oi := _) (v := ?_) rfl (by kernel_rfl) (by kernel_rfl) (by kernel_rfl) (fun _ _ _ h => h) (Or.inl ⟨by rfl, ?_⟩) (by assumption) ?_
  rotate_left
  · (intro w hSw; go_simp; first | done | (with_reducible rfl))
  simp only [Act.put, List.getElem_toArray, List.getElem_cons_succ, List.getElem_cons_zero, List.setIfInBounds_toArray, List.set_cons_zero, List.set_cons_succ]
  refine wpAnyH_take (i := 3) (oi := _) (v := ?_) rfl (by kernel_rfl) (by kernel_rfl) (by kernel_rfl) (fun _ _ _ h => h) (Or.inl ⟨by rfl, ?_⟩) (by assumption) ?_
  rotate_left
  · (intro w hSw; go_simp; first | done | (with_reducible rfl))
  simp only [Act.put, List.getElem_toArray, List.getElem_cons_succ, List.getElem_cons_zero, List.setIfInBounds_toArray, List.set_cons_zero, List.set_cons_succ]
  refine wpAnyH_take (i := 4) (oi := _) (v := ?_) rfl (by kernel_rfl) (by kernel_rfl) (by kernel_rfl) (fun _ _ _ h => h) (Or.inl ⟨by rfl, ?_⟩) (by assumption) ?_
  rotate_left
  · (intro w hSw; go_simp; first | done | (with_reducible rfl))
  simp only [Act.put, List.getElem_toArray, List.getElem_cons_succ, List.getElem_cons_zero, List.setIfInBounds_toArray, List.set_cons_zero, List.set_cons_succ]
  refine wpAnyH_take (i := 5) (oi := _) (v := ?_) rfl (by kernel_rfl) (by kernel_rfl) (by kernel_rfl) (fun _ _ _ h => h) (Or.inl ⟨by rfl, ?_⟩) (by assumption) ?_
  rotate_left
  · (intro w hSw; go_simp; first | done | (with_reducible rfl))
  simp only [Act.put, List.getElem_toArray, List.getElem_cons_succ, List.getElem_cons_zero, List.setIfInBounds_toArray, List.set_cons_zero, List.set_cons_succ]
  refine wpAnyH_take (i := 6) (oi := _) (v := ?_) rfl (by kernel_rfl) (by kernel_rfl) (by kernel_rfl) (fun _ _ _ h => h) (Or.inl ⟨by rfl, ?_⟩) (by assumption) ?_
  rotate_left
  · (intro w hSw; go_simp; first | done | (with_reducible rfl))
  simp only [Act.put, List.getElem_toArray, List.getElem_cons_succ, List.getElem_cons_zero, List.setIfInBounds_toArray, List.set_cons_zero, List.set_cons_succ]
  refine wpAnyH_take (i := 7) (oi := _) (v := ?_) rfl (by kernel_rfl) (by kernel_rfl) (by kernel_rfl) (fun _ _ _ h => h) (Or.inl ⟨by rfl, ?_⟩) (by assumption) ?_
  rotate_left
  · (intro w hSw; go_simp; first | done | (with_reducible rfl))
  simp only [Act.put, List.getElem_toArray, List.getElem_cons_succ, List.getElem_cons_zero, List.setIfInBounds_toArray, List.set_cons_zero, List.set_cons_succ]
  refine wpAnyH_take (i := 8) (oi := _) (v := ?_) rfl (by kernel_rfl) (by kernel_rfl) (by kernel_rfl) (fun _ _ _ h => h) (Or.inl ⟨by rfl, ?_⟩) (by assumption) ?_
  rotate_left
  · (intro w hSw; go_simp; first | done | (with_reducible rfl))
  simp only [Act.put, List.getElem_toArray, List.getElem_cons_succ, List.getElem_cons_zero, List.setIfInBounds_toArray, List.set_cons_zero, List.set_cons_succ]
  refine wpAnyH_take (i := 9) (oi := _) (v := ?_) rfl (by kernel_rfl) (by kernel_rfl) (by kernel_rfl) (fun _ _ _ h => h) (Or.inl ⟨by rfl, ?_⟩) (by assumption) ?_
  rotate_left
  · (intro w hSw; go_simp; first | done | (with_reducible rfl))
  simp only [Act.put, List.getElem_toArray, List.getElem_cons_succ, List.getElem_cons_zero, List.setIfInBounds_toArray, List.set_cons_zero, List.set_cons_succ]
  refine wpAnyH_take (i := 10) (oi := _) (v := ?_) rfl (by kernel_rfl) (by kernel_rfl) (by kernel_rfl) (fun _ _ _ h => h) (Or.inl ⟨by rfl, ?_⟩) (by assumption) ?_
  rotate_left
  · (intro w hSw; go_simp; first | done | (with_reducible rfl))
  simp only [Act.put, List.getElem_toArray, List.getElem_cons_succ, List.getElem_cons_zero, List.setIfInBounds_toArray, List.set_cons_zero, List.set_cons_succ]
  refine wpAnyH_ready (rs := [11]) (by kernel_rfl) (by simp) ?_
  refine AllReadyH.cons rfl (fun K hK => ?_) AllReadyH.nil
  have x0 := (HB.out.boxGet k2m).cellv 3 _ rfl
  have y0 := (HB.out.boxGet k2m).frozen 3
  have S_ := (fr1 [_, _] HB.out).boxPut 3 (iv p)
  have S_ : Sep w0 (W0.setCell ⟨ub, 3, none⟩ (iv p)) (rowV 57 1 (sl g n c) n xs :: boxA tb [a0, a1, a2, iv p, a4] 60 :: boxA ub [b0, b1, b2, iv p, b4] 60 :: l) := bk1 [_, _] S_
  have HS := Keep.mk S_
  clear S_ HB
  obtain ⟨W3, hW3⟩ : ∃ W3, W0.setCell ⟨ub, 3, none⟩ (iv p) = W3 := ⟨_, rfl⟩
  rw [hW3] at HS
  go_simp
  refine hK.out _ _ ((HS.out.boxGet k1m).cellv 3 _ rfl) (fun hHeld => ?_)
  clear hK K x0 y0 hW3 hHeld
  refine wpAnyH_done (by kernel_rfl) ?_ _
  have x2 : W3.cell? ⟨tb, 3, none⟩ = some (iv p) := (HS.out.boxGet k1m).cellv 3 _ rfl
  have HC := Keep.mk (own_cap (HS.out.rowGet k0m)).2.2
  obtain ⟨z, hz⟩ : ∃ z, xs[p]? = some z := ⟨_, List.getElem?_eq_getElem (by have := HX.out.2; have := HP.out; omega)⟩
  have x3 := (HC.out p z hz).1
  have y3 := (HC.out p z hz).2
  have S4 := HS.out.rowSet p (pt ub)
  obtain ⟨W4, hW4⟩ : ∃ W4, W3.setCell ⟨g, p, none⟩ (pt ub) = W4 := ⟨_, rfl⟩
  rw [hW4] at S4
  have hx5 : ∃ z5, (xs.set p (pt ub))[m]? = some z5 := ⟨_, List.getElem?_eq_getElem (by rw [List.length_set]; have := HX.out.2; omega)⟩
  obtain ⟨z5, hz5⟩ := hx5
  have x4 := ((own_cap (S4.rowGet k0m)).2.2 m z5 hz5).1
  have y4 := ((own_cap (S4.rowGet k0m)).2.2 m z5 hz5).2
  have S5 := S4.rowSet m (.pointer none)
  obtain ⟨W5, hW5⟩ : ∃ W5, W4.setCell ⟨g, m, none⟩ (.pointer none) = W5 := ⟨_, rfl⟩
  rw [hW5] at S5
  have HF := Keep.mk (S5.cut (m := m) HCUT.out)
  clear S4 S5 HS hz hz5
  go_wp2_with fail
  go_ret
  refine ⟨rfl, ?_⟩
  have q := HF.out
  rw [List.take_set_of_le (Nat.le_refl _)] at q
  exact q

set_option maxRecDepth 100000 in
set_option maxHeartbeats 4000000 in
theorem dropL1 (w0 W : World) (l : List As) (g m c p : Nat) (xs : List Value) (tb : Nat) (a0 a1 a2 a3 : Value) (hp : p = m) (hm : m < 17592186044416) (hx : xs[m]? = some (pt tb)) (h : Sep w0 W (rowV 57 1 (sl g (m + 1) c) (m + 1) xs :: boxA tb [a0, a1, a2, a3, iv p] 60 :: l)) :
    Calls Try.prog 38 #[sl g (m + 1) c, iv 1, pt tb] W fun e W' => e = .returned (sl g m c) ∧ Sep w0 W' (rowV 57 1 (sl g m c) m ((xs.set p (pt tb)).take m) :: boxA tb [a0, a1, a2, a3, iv p] 60 :: l) := by
  obtain ⟨hc, hl, hce⟩ := own_cap (h.rowGet k0m)
  have x1 := (hce m _ hx).1
  have HB : Keep (Sep w0 W.drew (rowV 57 1 (sl g (m + 1) c) (m + 1) xs :: boxA tb [a0, a1, a2, a3, iv p] 60 :: l)) := ⟨h.grown (gr_drew _ _)⟩
  have HP : Keep (p ≤ m) := ⟨by omega⟩
  have HX : Keep (xs[m]? = some (pt tb) ∧ xs.length = m + 1) := ⟨hx, hl⟩
  obtain ⟨n, hn⟩ : ∃ n, m + 1 = n := ⟨_, rfl⟩
  have HN : Keep (m + 1 = n) := ⟨hn⟩
  have e1 : IntKind.i64.wrap ((n : Int) - 1) = (m : Int) := by rw [IntKind.wrap_i64]; omega
  have lt1 : (m : Int) < (n : Int) := by omega
  have lt2 : (p : Int) < (n : Int) := by omega
  have le2 : (m : Int) ≤ (c : Int) := by omega
  have le3 : m ≤ c := by omega
  have HCUT : Keep (m ≤ n) := ⟨by omega⟩
  rw [hn] at HB ⊢
  clear h hn hce hx hl hc hp
  go_enter Try.func38, Try.ntmps38
  go_wp2_with fail
  refine wp_region_held_drew (S := fun w' => w'.cell? ⟨tb, 4, none⟩ = some (iv p)) (by kernel_rfl) ((HB.out.boxGet k1m).cellv 4 _ rfl) (fun hHeld => ?_)
  obtain ⟨W0, hW0⟩ : ∃ W_, W.drew = W_ := ⟨_, rfl⟩
  rw [hW0] at HB hHeld ⊢
  clear hW0
  refine wpAnyH_take (i := 0) (oi := _) (v := ?_) rfl (by kernel_rfl) (by kernel_rfl) (by kernel_rfl) (fun _ _ _ h => h) (Or.inl ⟨by rfl, ?_⟩) (by assumption) ?_
  rotate_left
  · (intro w hSw; go_simp; first | done | (with_reducible rfl))
  simp only [Act.put, List.getElem_toArray, List.getElem_cons_zero, List.setIfInBounds_toArray, List.set_cons_zero, List.set_cons_succ]
  refine wpAnyH_take (i := 1) (oi := _) (v := ?_) rfl (by kernel_rfl) (by kernel_rfl) (by kernel_rfl) (fun _ _ _ h => h) (Or.inl ⟨by rfl, ?_⟩) (by assumption) ?_
  rotate_left
  · (intro w hSw; go_simp; first | done | (with_reducible rfl))
  simp only [Act.put, List.getElem_toArray, List.getElem_cons_succ, List.getElem_cons_zero, List.setIfInBounds_toArray, List.set_cons_zero, List.set_cons_succ]
  refine wpAnyH_take (i := 2) (oi := _) (v := ?_) rfl (by kernel_rfl) (by kernel_rfl) (by kernel_rfl) (fun _ _ _ h => h) (Or.inl ⟨by rfl, ?_⟩) (by assumption) ?_
  rotate_left
  · (intro w hSw; go_simp; first | done | (with_reducible rfl))
  simp only [Act.put, List.getElem_toArray, List.getElem_cons_succ, List.getElem_cons_zero, List.setIfInBounds_toArray, List.set_cons_zero, List.set_cons_succ]
  refine wpAnyH_take (i := 3) (oi := _) (v := ?_) rfl (by kernel_rfl) (by kernel_rfl) (by kernel_rfl) (fun _ _ _ h => h) (Or.inl ⟨by rfl, ?_⟩) (by assumption) ?_
  rotate_left
  · (intro w hSw; go_simp; first | done | (with_reducible rfl))
  simp only [Act.put, List.getElem_toArray, List.getElem_cons_succ, List.getElem_cons_zero, List.setIfInBounds_toArray, List.set_cons_zero, List.set_cons_succ]
  refine wpAnyH_take (i := 4) (oi := _) (v := ?_) rfl (by kernel_rfl) (by kernel_rfl) (by kernel_rfl) (fun _ _ _ h => h) (Or.inl ⟨by rfl, ?_⟩) (by assumption) ?_
  rotate_left
  · (intro w hSw; go_simp; first | done | (with_reducible rfl))
  simp only [Act.put, List.getElem_toArray, List.getElem_cons_succ, List.getElem_cons_zero, List.setIfInBounds_toArray, List.set_cons_zero, List.set_cons_succ]
  refine wpAnyH_take (i := 5) (oi := _) (v := ?_) rfl (by kernel_rfl) (by kernel_rfl) (by kernel_rfl) (fun _ _ _ h => h) (Or.inl ⟨by rfl, ?_⟩) (by assumption) ?_
  rotate_left
  · (intro w hSw; go_simp; first | done | (with_reducible rfl))
  simp only [Act.put, List.getElem_toArray, List.getElem_cons_succ, List.getElem_cons_zero, List.setIfInBounds_toArray, List.set_cons_zero, List.set_cons_succ]
  refine wpAnyH_take (i := 6) (oi := _) (v := ?_) rfl (by kernel_rfl) (by kernel_rfl) (by kernel_rfl) (fun _ _ _ h => h) (Or.inl ⟨by rfl, ?_⟩) (by assumption) ?_
  rotate_left
  · (intro w hSw; go_simp; first | done | (with_reducible rfl))
  simp only [Act.put, List.getElem_toArray, List.getElem_cons_succ, List.getElem_cons_zero, List.setIfInBounds_toArray, List.set_cons_zero, List.set_cons_succ]
  refine wpAnyH_take (i := 7) (oi := _) (v := ?_) rfl (by kernel_rfl) (by kernel_rfl) (by kernel_rfl) (fun _ _ _ h => h) (Or.inl ⟨by rfl, ?_⟩) (by assumption) ?_
  rotate_left
  · (intro w hSw; go_simp; first | done | (with_reducible rfl))
  simp only [Act.put, List.getElem_toArray, List.getElem_cons_succ, List.getElem_cons_zero, List.setIfInBounds_toArray, List.set_cons_zero, List.set_cons_succ]
  refine wpAnyH_take (i := 8) (oi := _) (v := ?_) rfl (by kernel_rfl) (by kernel_rfl) (by kernel_rfl) (fun _ _ _ h => h) (Or.inl ⟨by rfl, ?_⟩) (by assumption) ?_
  rotate_left
  · (intro w hSw; go_simp; first | done | (with_reducible rfl))
  simp only [Act.put, List.getElem_toArray, List.getElem_cons_succ, List.getElem_cons_zero, List.setIfInBounds_toArray, List.set_cons_zero, List.set_cons_succ]
  refine wpAnyH_take (i := 9) (oi := _) (v := ?_) rfl (by kernel_rfl) (by kernel_rfl) (by kernel_rfl) (fun _ _ _ h => h) (Or.inl ⟨by rfl, ?_⟩) (by assumption) ?_
  rotate_left
  · (intro w hSw; go_simp; first | done | (with_reducible rfl))
  simp only [Act.put, List.getElem_toArray, List.getElem_cons_succ, List.getElem_cons_zero, List.setIfInBounds_toArray, List.set_cons_zero, List.set_cons_succ]
  refine wpAnyH_take (i := 10) (oi := _) (v := ?_) rfl (by kernel_rfl) (by kernel_rfl) (by kernel_rfl) (fun _ _ _ h => h) (Or.inl ⟨by rfl, ?_⟩) (by assumption) ?_
  rotate_left
  · (intro w hSw; go_simp; first | done | (with_reducible rfl))
  simp only [Act.put, List.getElem_toArray, List.getElem_cons_succ, List.getElem_cons_zero, List.setIfInBounds_toArray, List.set_cons_zero, List.set_cons_succ]
  refine wpAnyH_ready (rs := [11]) (by kernel_rfl) (by simp) ?_
  refine AllReadyH.cons rfl (fun K hK => ?_) AllReadyH.nil
  have x0 := (HB.out.boxGet k1m).cellv 4 _ rfl
  have y0 := (HB.out.boxGet k1m).frozen 4
  have S_ := ((fr1 [_] HB.out).boxPut 4 (iv p))
  have S_ : Sep w0 (W0.setCell ⟨tb, 4, none⟩ (iv p)) (rowV 57 1 (sl g n c) n xs :: boxA tb [a0, a1, a2, a3, iv p] 60 :: l) := bk1 [_] S_
  have HS := Keep.mk S_
  clear S_ HB
  obtain ⟨W3, hW3⟩ : ∃ W3, W0.setCell ⟨tb, 4, none⟩ (iv p) = W3 := ⟨_, rfl⟩
  rw [hW3] at HS
  go_simp
  refine hK.out _ _ ((HS.out.boxGet k1m).cellv 4 _ rfl) (fun hHeld => ?_)
  clear hK K x0 y0 hW3 hHeld
  refine wpAnyH_done (by kernel_rfl) ?_ _
  have x2 : W3.cell? ⟨tb, 4, none⟩ = some (iv p) := (HS.out.boxGet k1m).cellv 4 _ rfl
  have HC := Keep.mk (own_cap (HS.out.rowGet k0m)).2.2
  obtain ⟨z, hz⟩ : ∃ z, xs[p]? = some z := ⟨_, List.getElem?_eq_getElem (by have := HX.out.2; have := HP.out; omega)⟩
  have x3 := (HC.out p z hz).1
  have y3 := (HC.out p z hz).2
  have S4 := HS.out.rowSet p (pt tb)
  obtain ⟨W4, hW4⟩ : ∃ W4, W3.setCell ⟨g, p, none⟩ (pt tb) = W4 := ⟨_, rfl⟩
  rw [hW4] at S4
  have hx5 : ∃ z5, (xs.set p (pt tb))[m]? = some z5 := ⟨_, List.getElem?_eq_getElem (by rw [List.length_set]; have := HX.out.2; omega)⟩
  obtain ⟨z5, hz5⟩ := hx5
  have x4 := ((own_cap (S4.rowGet k0m)).2.2 m z5 hz5).1
  have y4 := ((own_cap (S4.rowGet k0m)).2.2 m z5 hz5).2
  have S5 := S4.rowSet m (.pointer none)
  obtain ⟨W5, hW5⟩ : ∃ W5, W4.setCell ⟨g, m, none⟩ (.pointer none) = W5 := ⟨_, rfl⟩
  rw [hW5] at S5
  have HF := Keep.mk (S5.cut (m := m) HCUT.out)
  clear S4 S5 HS hz hz5
  go_wp2_with fail
  go_ret
  refine ⟨rfl, ?_⟩
  have q := HF.out
  rw [List.take_set_of_le (Nat.le_refl _)] at q
  exact q

set_option maxRecDepth 100000 in
set_option maxHeartbeats 4000000 in
theorem dropM1 (w0 W : World) (l : List As) (g m c p : Nat) (xs : List Value) (tb ub : Nat) (a0 a1 a2 a3 b0 b1 b2 b3 b4 : Value) (hp : p < m) (hm : m < 17592186044416) (hx : xs[m]? = some (pt ub)) (h : Sep w0 W (rowV 57 1 (sl g (m + 1) c) (m + 1) xs :: boxA tb [a0, a1, a2, a3, iv p] 60 :: boxA ub [b0, b1, b2, b3, b4] 60 :: l)) :
    Calls Try.prog 38 #[sl g (m + 1) c, iv 1, pt tb] W fun e W' => e = .returned (sl g m c) ∧ Sep w0 W' (rowV 57 1 (sl g m c) m ((xs.set p (pt ub)).take m) :: boxA tb [a0, a1, a2, a3, iv p] 60 :: boxA ub [b0, b1, b2, b3, iv p] 60 :: l) := by
  obtain ⟨hc, hl, hce⟩ := own_cap (h.rowGet k0m)
  have x1 := (hce m _ hx).1
  have HB : Keep (Sep w0 W.drew (rowV 57 1 (sl g (m + 1) c) (m + 1) xs :: boxA tb [a0, a1, a2, a3, iv p] 60 :: boxA ub [b0, b1, b2, b3, b4] 60 :: l)) := ⟨h.grown (gr_drew _ _)⟩
  have HP : Keep (p ≤ m) := ⟨by omega⟩
  have HX : Keep (xs[m]? = some (pt ub) ∧ xs.length = m + 1) := ⟨hx, hl⟩
  obtain ⟨n, hn⟩ : ∃ n, m + 1 = n := ⟨_, rfl⟩
  have HN : Keep (m + 1 = n) := ⟨hn⟩
  have e1 : IntKind.i64.wrap ((n : Int) - 1) = (m : Int) := by rw [IntKind.wrap_i64]; omega
  have lt1 : (m : Int) < (n : Int) := by omega
  have lt2 : (p : Int) < (n : Int) := by omega
  have le2 : (m : Int) ≤ (c : Int) := by omega
  have le3 : m ≤ c := by omega
  have HCUT : Keep (m ≤ n) := ⟨by omega⟩
  rw [hn] at HB ⊢
  clear h hn hce hx hl hc 
  go_enter Try.func38, Try.ntmps38
  go_wp2_with fail
  refine wp_region_held_drew (S := fun w' => w'.cell? ⟨tb, 4, none⟩ = some (iv p)) (by kernel_rfl) ((HB.out.boxGet k1m).cellv 4 _ rfl) (fun hHeld => ?_)
  obtain ⟨W0, hW0⟩ : ∃ W_, W.drew = W_ := ⟨_, rfl⟩
  rw [hW0] at HB hHeld ⊢
  clear hW0
  refine wpAnyH_take (i := 0) (oi := _) (v := ?_) rfl (by kernel_rfl) (by kernel_rfl) (by kernel_rfl) (fun _ _ _ h => h) (Or.inl ⟨by rfl, ?_⟩) (by assumption) ?_
  rotate_left
  · (intro w hSw; go_simp; first | done | (with_reducible rfl))
  simp only [Act.put, List.getElem_toArray, List.getElem_cons_zero, List.setIfInBounds_toArray, List.set_cons_zero, List.set_cons_succ]
  refine wpAnyH_take (i := 1) (oi := _) (v := ?_) rfl (by kernel_rfl) (by kernel_rfl) (by kernel_rfl) (fun _ _ _ h => h) (Or.inl ⟨by rfl, ?_⟩) (by assumption) ?_
  rotate_left
  · (intro w hSw; go_simp; first | done | (with_reducible rfl))
  simp only [Act.put, List.getElem_toArray, List.getElem_cons_succ, List.getElem_cons_zero, List.setIfInBounds_toArray, List.set_cons_zero, List.set_cons_succ]
  refine wpAnyH_take (i := 2) (oi := _) (v := ?_) rfl (by kernel_rfl) (by kernel_rfl) (by kernel_rfl) (fun _ _ _ h => h) (Or.inl ⟨by rfl, ?_⟩) (by assumption) ?_
  rotate_left
  · (intro w hSw; go_simp; first | done | (with_reducible rfl))
  simp only [Act.put, List.getElem_toArray, List.getElem_cons_succ, List.getElem_cons_zero, List.setIfInBounds_toArray, List.set_cons_zero, List.set_cons_succ]
  refine wpAnyH_take (i := 3) (oi := _) (v := ?_) rfl (by kernel_rfl) (by kernel_rfl) (by kernel_rfl) (fun _ _ _ h => h) (Or.inl ⟨by rfl, ?_⟩) (by assumption) ?_
  rotate_left
  · (intro w hSw; go_simp; first | done | (with_reducible rfl))
  simp only [Act.put, List.getElem_toArray, List.getElem_cons_succ, List.getElem_cons_zero, List.setIfInBounds_toArray, List.set_cons_zero, List.set_cons_succ]
  refine wpAnyH_take (i := 4) (oi := _) (v := ?_) rfl (by kernel_rfl) (by kernel_rfl) (by kernel_rfl) (fun _ _ _ h => h) (Or.inl ⟨by rfl, ?_⟩) (by assumption) ?_
  rotate_left
  · (intro w hSw; go_simp; first | done | (with_reducible rfl))
  simp only [Act.put, List.getElem_toArray, List.getElem_cons_succ, List.getElem_cons_zero, List.setIfInBounds_toArray, List.set_cons_zero, List.set_cons_succ]
  refine wpAnyH_take (i := 5) (oi := _) (v := ?_) rfl (by kernel_rfl) (by kernel_rfl) (by kernel_rfl) (fun _ _ _ h => h) (Or.inl ⟨by rfl, ?_⟩) (by assumption) ?_
  rotate_left
  · (intro w hSw; go_simp; first | done | (with_reducible rfl))
  simp only [Act.put, List.getElem_toArray, List.getElem_cons_succ, List.getElem_cons_zero, List.setIfInBounds_toArray, List.set_cons_zero, List.set_cons_succ]
  refine wpAnyH_take (i := 6) (oi := _) (v := ?_) rfl (by kernel_rfl) (by kernel_rfl) (by kernel_rfl) (fun _ _ _ h => h) (Or.inl ⟨by rfl, ?_⟩) (by assumption) ?_
  rotate_left
  · (intro w hSw; go_simp; first | done | (with_reducible rfl))
  simp only [Act.put, List.getElem_toArray, List.getElem_cons_succ, List.getElem_cons_zero, List.setIfInBounds_toArray, List.set_cons_zero, List.set_cons_succ]
  refine wpAnyH_take (i := 7) (oi := _) (v := ?_) rfl (by kernel_rfl) (by kernel_rfl) (by kernel_rfl) (fun _ _ _ h => h) (Or.inl ⟨by rfl, ?_⟩) (by assumption) ?_
  rotate_left
  · (intro w hSw; go_simp; first | done | (with_reducible rfl))
  simp only [Act.put, List.getElem_toArray, List.getElem_cons_succ, List.getElem_cons_zero, List.setIfInBounds_toArray, List.set_cons_zero, List.set_cons_succ]
  refine wpAnyH_take (i := 8) (oi := _) (v := ?_) rfl (by kernel_rfl) (by kernel_rfl) (by kernel_rfl) (fun _ _ _ h => h) (Or.inl ⟨by rfl, ?_⟩) (by assumption) ?_
  rotate_left
  · (intro w hSw; go_simp; first | done | (with_reducible rfl))
  simp only [Act.put, List.getElem_toArray, List.getElem_cons_succ, List.getElem_cons_zero, List.setIfInBounds_toArray, List.set_cons_zero, List.set_cons_succ]
  refine wpAnyH_take (i := 9) (oi := _) (v := ?_) rfl (by kernel_rfl) (by kernel_rfl) (by kernel_rfl) (fun _ _ _ h => h) (Or.inl ⟨by rfl, ?_⟩) (by assumption) ?_
  rotate_left
  · (intro w hSw; go_simp; first | done | (with_reducible rfl))
  simp only [Act.put, List.getElem_toArray, List.getElem_cons_succ, List.getElem_cons_zero, List.setIfInBounds_toArray, List.set_cons_zero, List.set_cons_succ]
  refine wpAnyH_take (i := 10) (oi := _) (v := ?_) rfl (by kernel_rfl) (by kernel_rfl) (by kernel_rfl) (fun _ _ _ h => h) (Or.inl ⟨by rfl, ?_⟩) (by assumption) ?_
  rotate_left
  · (intro w hSw; go_simp; first | done | (with_reducible rfl))
  simp only [Act.put, List.getElem_toArray, List.getElem_cons_succ, List.getElem_cons_zero, List.setIfInBounds_toArray, List.set_cons_zero, List.set_cons_succ]
  refine wpAnyH_ready (rs := [11]) (by kernel_rfl) (by simp) ?_
  refine AllReadyH.cons rfl (fun K hK => ?_) AllReadyH.nil
  have x0 := (HB.out.boxGet k2m).cellv 4 _ rfl
  have y0 := (HB.out.boxGet k2m).frozen 4
  have S_ := (fr1 [_, _] HB.out).boxPut 4 (iv p)
  have S_ : Sep w0 (W0.setCell ⟨ub, 4, none⟩ (iv p)) (rowV 57 1 (sl g n c) n xs :: boxA tb [a0, a1, a2, a3, iv p] 60 :: boxA ub [b0, b1, b2, b3, iv p] 60 :: l) := bk1 [_, _] S_
  have HS := Keep.mk S_
  clear S_ HB
  obtain ⟨W3, hW3⟩ : ∃ W3, W0.setCell ⟨ub, 4, none⟩ (iv p) = W3 := ⟨_, rfl⟩
  rw [hW3] at HS
  go_simp
  refine hK.out _ _ ((HS.out.boxGet k1m).cellv 4 _ rfl) (fun hHeld => ?_)
  clear hK K x0 y0 hW3 hHeld
  refine wpAnyH_done (by kernel_rfl) ?_ _
  have x2 : W3.cell? ⟨tb, 4, none⟩ = some (iv p) := (HS.out.boxGet k1m).cellv 4 _ rfl
  have HC := Keep.mk (own_cap (HS.out.rowGet k0m)).2.2
  obtain ⟨z, hz⟩ : ∃ z, xs[p]? = some z := ⟨_, List.getElem?_eq_getElem (by have := HX.out.2; have := HP.out; omega)⟩
  have x3 := (HC.out p z hz).1
  have y3 := (HC.out p z hz).2
  have S4 := HS.out.rowSet p (pt ub)
  obtain ⟨W4, hW4⟩ : ∃ W4, W3.setCell ⟨g, p, none⟩ (pt ub) = W4 := ⟨_, rfl⟩
  rw [hW4] at S4
  have hx5 : ∃ z5, (xs.set p (pt ub))[m]? = some z5 := ⟨_, List.getElem?_eq_getElem (by rw [List.length_set]; have := HX.out.2; omega)⟩
  obtain ⟨z5, hz5⟩ := hx5
  have x4 := ((own_cap (S4.rowGet k0m)).2.2 m z5 hz5).1
  have y4 := ((own_cap (S4.rowGet k0m)).2.2 m z5 hz5).2
  have S5 := S4.rowSet m (.pointer none)
  obtain ⟨W5, hW5⟩ : ∃ W5, W4.setCell ⟨g, m, none⟩ (.pointer none) = W5 := ⟨_, rfl⟩
  rw [hW5] at S5
  have HF := Keep.mk (S5.cut (m := m) HCUT.out)
  clear S4 S5 HS hz hz5
  go_wp2_with fail
  go_ret
  refine ⟨rfl, ?_⟩
  have q := HF.out
  rw [List.take_set_of_le (Nat.le_refl _)] at q
  exact q
end Go.Proofs.Ytidpafmhmhojmaa
