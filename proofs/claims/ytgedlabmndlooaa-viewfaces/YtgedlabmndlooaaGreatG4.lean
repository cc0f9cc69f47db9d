/- G2, G3, G4 -/
import Derived.Test.YtgedlabmndlooaaGreatG1
namespace Go.Proofs.YtgedlabmndlooaaGreat
open Go Go.RowKit

set_option maxRecDepth 100000 in
theorem own_cut {lo : Nat} {W : World} {e : TypeId} {g n c m : Nat} {xs : List Value} (h : W.ownsRow lo e 1 (sl g n c) n xs) (hm : m ≤ n) : W.ownsRow lo e 1 (sl g m c) m (xs.take m) := by
  obtain ⟨h1, h2⟩ := h
  rcases h2 with ⟨h2, _⟩ | ⟨g', cap, cur, hv, hb, hheap, h3, h4, h5, h6⟩
  · cases h2
  · injection hv with e1 e2 e3
    cases e1
    refine ⟨by rw [List.length_take]; omega, .inr ⟨g, cap, cur, by rw [e3], hb, hheap, by omega, by omega, h5, ?_⟩⟩
    rw [← h6, List.take_take]
    congr 1
    omega
set_option maxRecDepth 100000 in
theorem Sep.cut {w0 W : World} {l : List As} {e : TypeId} {g n c m : Nat} {xs : List Value} (h : Sep w0 W (rowV e 1 (sl g n c) n xs :: l)) (hm : m ≤ n) : Sep w0 W (rowV e 1 (sl g m c) m (xs.take m) :: l) := by
  obtain ⟨F, ⟨h1, rfl⟩, _, hu⟩ := h.use
  exact hu _ [_] (Fr.refl _ _) (Loc.one (a := rowV _ _ _ _ _) _ ⟨own_cut h1 hm, rfl⟩ (fun i hi => .inl hi))
set_option maxRecDepth 100000 in
theorem own_cap {lo : Nat} {W : World} {e : TypeId} {g n c : Nat} {xs : List Value} (h : W.ownsRow lo e 1 (sl g n c) n xs) : n ≤ c ∧ xs.length = n ∧ ∀ (k : Nat) t, xs[k]? = some t → W.cell? ⟨g, k, none⟩ = some t ∧ W.frozen? ⟨g, k, none⟩ = false := by
  have h0 := h
  obtain ⟨h1, h2⟩ := h
  rcases h2 with ⟨h2, _⟩ | ⟨g', cap, cur, hv, hb, hheap, h3, h4, h5, h6⟩
  · cases h2
  · injection hv with e1 e2 e3
    cases e1
    refine ⟨by omega, by omega, fun k t ht => ?_⟩
    have hk := (List.getElem?_eq_some_iff.1 ht).1
    obtain ⟨g', c', e, q⟩ := own_any h0 (by omega)
    injection e with e1 _ _
    cases e1
    exact q k t ht

set_option maxRecDepth 100000 in
set_option maxHeartbeats 4000000 in
theorem dropL0 (w0 W : World) (l : List As) (g m c p : Nat) (xs : List Value) (tb : Nat) (a0 a1 a2 a4 : Value) (hp : p = m) (hm : m < 17592186044416) (hx : xs[m]? = some (pt tb)) (h : Sep w0 W (rowV 119 1 (sl g (m + 1) c) (m + 1) xs :: boxA tb [a0, a1, a2, iv p, a4] 122 :: l)) :
    Calls Tryz.prog 86 #[sl g (m + 1) c, iv 0, pt tb] W fun e W' => e = .returned (sl g m c) ∧ Sep w0 W' (rowV 119 1 (sl g m c) m ((xs.set p (pt tb)).take m) :: boxA tb [a0, a1, a2, iv p, a4] 122 :: l) := by
  obtain ⟨hc, hl, hce⟩ := own_cap (h.rowGet k0m)
  have x1 := (hce m _ hx).1
  have HB : Keep (Sep w0 W.drew (rowV 119 1 (sl g (m + 1) c) (m + 1) xs :: boxA tb [a0, a1, a2, iv p, a4] 122 :: l)) := ⟨h.grown (gr_drew _ _)⟩
  have HP : Keep (p ≤ m) := ⟨by omega⟩
  have HX : Keep (xs[m]? = some (pt tb) ∧ xs.length = m + 1) := ⟨hx, hl⟩
  obtain ⟨n, hn⟩ : ∃ n, m + 1 = n := ⟨_, rfl⟩
  have HN : Keep (m + 1 = n) := ⟨hn⟩
  have e1 : IntKind.i64.wrap ((n : Int) - 1) = (m : Int) := by rw [IntKind.wrap_i64]; omega
  have lt1 : (m : Int) < (n : Int) := by omega
  have lt2 : (p : Int) < (n : Int) := by omega
  have le2 : (m : Int) ≤ (c : Int) := by omega
  have le3 : m ≤ c := by omega
  have HCUT : Keep (m ≤ n) := ⟨by omega⟩
  rw [hn] at HB ⊢
  clear h hn hce hx hl hc hp
  go_enter Tryz.func86, Tryz.ntmps86
  go_wp2_with fail
  refine wp_region_held_drew (S := fun w' => w'.cell? ⟨tb, 3, none⟩ = some (iv p)) (by kernel_rfl) ((HB.out.boxGet k1m).cellv 3 _ rfl) (fun hHeld => ?_)
  obtain ⟨W0, hW0⟩ : ∃ W_, W.drew = W_ := ⟨_, rfl⟩
  rw [hW0] at HB hHeld ⊢
  clear hW0
  refine wpAnyH_take (i := 0) (oi := _) (v := ?_) rfl (by kernel_rfl) (by kernel_rfl) (by kernel_rfl) (fun _ _ _ h => h) (Or.inl ⟨by rfl, ?_⟩) (by assumption) ?_
  rotate_left
  · (intro w hSw; go_simp; first | done | (with_reducible rfl))
  simp only [Act.put, A1, A3, A4, A5, A6]
  refine wpAnyH_take (i := 1) (oi := _) (v := ?_) rfl (by kernel_rfl) (by kernel_rfl) (by kernel_rfl) (fun _ _ _ h => h) (Or.inl ⟨by rfl, ?_⟩) (by assumption) ?_
  rotate_left
  · (intro w hSw; go_simp; first | done | (with_reducible rfl))
  simp only [Act.put, A1, A2, A3, A4, A5, A6]
  refine wpAnyH_take (i := 2) (oi := _) (v := ?_) rfl (by kernel_rfl) (by kernel_rfl) (by kernel_rfl) (fun _ _ _ h => h) (Or.inl ⟨by rfl, ?_⟩) (by assumption) ?_
  rotate_left
  · (intro w hSw; go_simp; first | done | (with_reducible rfl))
  simp only [Act.put, A1, A2, A3, A4, A5, A6]
  refine wpAnyH_take (i := 3) (oi := _) (v := ?_) rfl (by kernel_rfl) (by kernel_rfl) (by kernel_rfl) (fun _ _ _ h => h) (Or.inl ⟨by rfl, ?_⟩) (by assumption) ?_
  rotate_left
  · (intro w hSw; go_simp; first | done | (with_reducible rfl))
  simp only [Act.put, A1, A2, A3, A4, A5, A6]
  refine wpAnyH_take (i := 4) (oi := _) (v := ?_) rfl (by kernel_rfl) (by kernel_rfl) (by kernel_rfl) (fun _ _ _ h => h) (Or.inl ⟨by rfl, ?_⟩) (by assumption) ?_
  rotate_left
  · (intro w hSw; go_simp; first | done | (with_reducible rfl))
  simp only [Act.put, A1, A2, A3, A4, A5, A6]
  refine wpAnyH_take (i := 5) (oi := _) (v := ?_) rfl (by kernel_rfl) (by kernel_rfl) (by kernel_rfl) (fun _ _ _ h => h) (Or.inl ⟨by rfl, ?_⟩) (by assumption) ?_
  rotate_left
  · (intro w hSw; go_simp; first | done | (with_reducible rfl))
  simp only [Act.put, A1, A2, A3, A4, A5, A6]
  refine wpAnyH_take (i := 6) (oi := _) (v := ?_) rfl (by kernel_rfl) (by kernel_rfl) (by kernel_rfl) (fun _ _ _ h => h) (Or.inl ⟨by rfl, ?_⟩) (by assumption) ?_
  rotate_left
  · (intro w hSw; go_simp; first | done | (with_reducible rfl))
  simp only [Act.put, A1, A2, A3, A4, A5, A6]
  refine wpAnyH_take (i := 7) (oi := _) (v := ?_) rfl (by kernel_rfl) (by kernel_rfl) (by kernel_rfl) (fun _ _ _ h => h) (Or.inl ⟨by rfl, ?_⟩) (by assumption) ?_
  rotate_left
  · (intro w hSw; go_simp; first | done | (with_reducible rfl))
  simp only [Act.put, A1, A2, A3, A4, A5, A6]
  refine wpAnyH_take (i := 8) (oi := _) (v := ?_) rfl (by kernel_rfl) (by kernel_rfl) (by kernel_rfl) (fun _ _ _ h => h) (Or.inl ⟨by rfl, ?_⟩) (by assumption) ?_
  rotate_left
  · (intro w hSw; go_simp; first | done | (with_reducible rfl))
  simp only [Act.put, A1, A2, A3, A4, A5, A6]
  refine wpAnyH_take (i := 9) (oi := _) (v := ?_) rfl (by kernel_rfl) (by kernel_rfl) (by kernel_rfl) (fun _ _ _ h => h) (Or.inl ⟨by rfl, ?_⟩) (by assumption) ?_
  rotate_left
  · (intro w hSw; go_simp; first | done | (with_reducible rfl))
  simp only [Act.put, A1, A2, A3, A4, A5, A6]
  refine wpAnyH_take (i := 10) (oi := _) (v := ?_) rfl (by kernel_rfl) (by kernel_rfl) (by kernel_rfl) (fun _ _ _ h => h) (Or.inl ⟨by rfl, ?_⟩) (by assumption) ?_
  rotate_left
  · (intro w hSw; go_simp; first | done | (with_reducible rfl))
  simp only [Act.put, A1, A2, A3, A4, A5, A6]
  refine wpAnyH_ready (rs := [11]) (by kernel_rfl) (by simp) ?_
  refine AllReadyH.cons rfl (fun K hK => ?_) AllReadyH.nil
  have x0 := (HB.out.boxGet k1m).cellv 3 _ rfl
  have y0 := (HB.out.boxGet k1m).frozen 3
  have S_ := ((fr1 [_] HB.out).boxPut 3 (iv p))
  have S_ : Sep w0 (W0.setCell ⟨tb, 3, none⟩ (iv p)) (rowV 119 1 (sl g n c) n xs :: boxA tb [a0, a1, a2, iv p, a4] 122 :: l) := bk1 [_] S_
  have HS := Keep.mk S_
  clear S_ HB
  obtain ⟨W3, hW3⟩ : ∃ W3, W0.setCell ⟨tb, 3, none⟩ (iv p) = W3 := ⟨_, rfl⟩
  rw [hW3] at HS
  go_simp
  refine hK.out _ _ ((HS.out.boxGet k1m).cellv 3 _ rfl) (fun hHeld => ?_)
  clear hK K x0 y0 hW3 hHeld
  refine wpAnyH_done (by kernel_rfl) ?_ _
  have x2 : W3.cell? ⟨tb, 3, none⟩ = some (iv p) := (HS.out.boxGet k1m).cellv 3 _ rfl
  have HC := Keep.mk (own_cap (HS.out.rowGet k0m)).2.2
  obtain ⟨z, hz⟩ : ∃ z, xs[p]? = some z := ⟨_, List.getElem?_eq_getElem (by have := HX.out.2; have := HP.out; omega)⟩
  have x3 := (HC.out p z hz).1
  have y3 := (HC.out p z hz).2
  have S4 := HS.out.rowSet p (pt tb)
  obtain ⟨W4, hW4⟩ : ∃ W4, W3.setCell ⟨g, p, none⟩ (pt tb) = W4 := ⟨_, rfl⟩
  rw [hW4] at S4
  have hx5 : ∃ z5, (xs.set p (pt tb))[m]? = some z5 := ⟨_, List.getElem?_eq_getElem (by rw [List.length_set]; have := HX.out.2; omega)⟩
  obtain ⟨z5, hz5⟩ := hx5
  have x4 := ((own_cap (S4.rowGet k0m)).2.2 m z5 hz5).1
  have y4 := ((own_cap (S4.rowGet k0m)).2.2 m z5 hz5).2
  have S5 := S4.rowSet m (.pointer none)
  obtain ⟨W5, hW5⟩ : ∃ W5, W4.setCell ⟨g, m, none⟩ (.pointer none) = W5 := ⟨_, rfl⟩
  rw [hW5] at S5
  have HF := Keep.mk (S5.cut (m := m) HCUT.out)
  clear S4 S5 HS hz hz5
  go_wp2_with fail
  go_ret
  refine ⟨rfl, ?_⟩
  have q := HF.out
  rw [List.take_set_of_le (Nat.le_refl _)] at q
  exact q

set_option maxRecDepth 100000 in
set_option maxHeartbeats 4000000 in
theorem dropM0 (w0 W : World) (l : List As) (g m c p : Nat) (xs : List Value) (tb ub : Nat) (a0 a1 a2 a4 b0 b1 b2 b3 b4 : Value) (hp : p < m) (hm : m < 17592186044416) (hx : xs[m]? = some (pt ub)) (h : Sep w0 W (rowV 119 1 (sl g (m + 1) c) (m + 1) xs :: boxA tb [a0, a1, a2, iv p, a4] 122 :: boxA ub [b0, b1, b2, b3, b4] 122 :: l)) :
    Calls Tryz.prog 86 #[sl g (m + 1) c, iv 0, pt tb] W fun e W' => e = .returned (sl g m c) ∧ Sep w0 W' (rowV 119 1 (sl g m c) m ((xs.set p (pt ub)).take m) :: boxA tb [a0, a1, a2, iv p, a4] 122 :: boxA ub [b0, b1, b2, iv p, b4] 122 :: l) := by
  obtain ⟨hc, hl, hce⟩ := own_cap (h.rowGet k0m)
  have x1 := (hce m _ hx).1
  have HB : Keep (Sep w0 W.drew (rowV 119 1 (sl g (m + 1) c) (m + 1) xs :: boxA tb [a0, a1, a2, iv p, a4] 122 :: boxA ub [b0, b1, b2, b3, b4] 122 :: l)) := ⟨h.grown (gr_drew _ _)⟩
  have HP : Keep (p ≤ m) := ⟨by omega⟩
  have HX : Keep (xs[m]? = some (pt ub) ∧ xs.length = m + 1) := ⟨hx, hl⟩
  obtain ⟨n, hn⟩ : ∃ n, m + 1 = n := ⟨_, rfl⟩
  have HN : Keep (m + 1 = n) := ⟨hn⟩
  have e1 : IntKind.i64.wrap ((n : Int) - 1) = (m : Int) := by rw [IntKind.wrap_i64]; omega
  have lt1 : (m : Int) < (n : Int) := by omega
  have lt2 : (p : Int) < (n : Int) := by omega
  have le2 : (m : Int) ≤ (c : Int) := by omega
  have le3 : m ≤ c := by omega
  have HCUT : Keep (m ≤ n) := ⟨by omega⟩
  rw [hn] at HB ⊢
  clear h hn hce hx hl hc 
  go_enter Tryz.func86, Tryz.ntmps86
  go_wp2_with fail
  refine wp_region_held_drew (S := fun w' => w'.cell? ⟨tb, 3, none⟩ = some (iv p)) (by kernel_rfl) ((HB.out.boxGet k1m).cellv 3 _ rfl) (fun hHeld => ?_)
  obtain ⟨W0, hW0⟩ : ∃ W_, W.drew = W_ := ⟨_, rfl⟩
  rw [hW0] at HB hHeld ⊢
  clear hW0
  refine wpAnyH_take (i := 0) (oi := _) (v := ?_) rfl (by kernel_rfl) (by kernel_rfl) (by kernel_rfl) (fun _ _ _ h => h) (Or.inl ⟨by rfl, ?_⟩) (by assumption) ?_
  rotate_left
  · (intro w hSw; go_simp; first | done | (with_reducible rfl))
  simp only [Act.put, A1, A3, A4, A5, A6]
  refine wpAnyH_take (i := 1) (oi := _) (v := ?_) rfl (by kernel_rfl) (by kernel_rfl) (by kernel_rfl) (fun _ _ _ h => h) (Or.inl ⟨by rfl, ?_⟩) (by assumption) ?_
  rotate_left
  · (intro w hSw; go_simp; first | done | (with_reducible rfl))
  simp only [Act.put, A1, A2, A3, A4, A5, A6]
  refine wpAnyH_take (i := 2) (oi := _) (v := ?_) rfl (by kernel_rfl) (by kernel_rfl) (by kernel_rfl) (fun _ _ _ h => h) (Or.inl ⟨by rfl, ?_⟩) (by assumption) ?_
  rotate_left
  · (intro w hSw; go_simp; first | done | (with_reducible rfl))
  simp only [Act.put, A1, A2, A3, A4, A5, A6]
  refine wpAnyH_take (i := 3) (oi := _) (v := ?_) rfl (by kernel_rfl) (by kernel_rfl) (by kernel_rfl) (fun _ _ _ h => h) (Or.inl ⟨by rfl, ?_⟩) (by assumption) ?_
  rotate_left
  · (intro w hSw; go_simp; first | done | (with_reducible rfl))
  simp only [Act.put, A1, A2, A3, A4, A5, A6]
  refine wpAnyH_take (i := 4) (oi := _) (v := ?_) rfl (by kernel_rfl) (by kernel_rfl) (by kernel_rfl) (fun _ _ _ h => h) (Or.inl ⟨by rfl, ?_⟩) (by assumption) ?_
  rotate_left
  · (intro w hSw; go_simp; first | done | (with_reducible rfl))
  simp only [Act.put, A1, A2, A3, A4, A5, A6]
  refine wpAnyH_take (i := 5) (oi := _) (v := ?_) rfl (by kernel_rfl) (by kernel_rfl) (by kernel_rfl) (fun _ _ _ h => h) (Or.inl ⟨by rfl, ?_⟩) (by assumption) ?_
  rotate_left
  · (intro w hSw; go_simp; first | done | (with_reducible rfl))
  simp only [Act.put, A1, A2, A3, A4, A5, A6]
  refine wpAnyH_take (i := 6) (oi := _) (v := ?_) rfl (by kernel_rfl) (by kernel_rfl) (by kernel_rfl) (fun _ _ _ h => h) (Or.inl ⟨by rfl, ?_⟩) (by assumption) ?_
  rotate_left
  · (intro w hSw; go_simp; first | done | (with_reducible rfl))
  simp only [Act.put, A1, A2, A3, A4, A5, A6]
  refine wpAnyH_take (i := 7) (oi := _) (v := ?_) rfl (by kernel_rfl) (by kernel_rfl) (by kernel_rfl) (fun _ _ _ h => h) (Or.inl ⟨by rfl, ?_⟩) (by assumption) ?_
  rotate_left
  · (intro w hSw; go_simp; first | done | (with_reducible rfl))
  simp only [Act.put, A1, A2, A3, A4, A5, A6]
  refine wpAnyH_take (i := 8) (oi := _) (v := ?_) rfl (by kernel_rfl) (by kernel_rfl) (by kernel_rfl) (fun _ _ _ h => h) (Or.inl ⟨by rfl, ?_⟩) (by assumption) ?_
  rotate_left
  · (intro w hSw; go_simp; first | done | (with_reducible rfl))
  simp only [Act.put, A1, A2, A3, A4, A5, A6]
  refine wpAnyH_take (i := 9) (oi := _) (v := ?_) rfl (by kernel_rfl) (by kernel_rfl) (by kernel_rfl) (fun _ _ _ h => h) (Or.inl ⟨by rfl, ?_⟩) (by assumption) ?_
  rotate_left
  · (intro w hSw; go_simp; first | done | (with_reducible rfl))
  simp only [Act.put, A1, A2, A3, A4, A5, A6]
  refine wpAnyH_take (i := 10) (oi := _) (v := ?_) rfl (by kernel_rfl) (by kernel_rfl) (by kernel_rfl) (fun _ _ _ h => h) (Or.inl ⟨by rfl, ?_⟩) (by assumption) ?_
  rotate_left
  · (intro w hSw; go_simp; first | done | (with_reducible rfl))
  simp only [Act.put, A1, A2, A3, A4, A5, A6]
  refine wpAnyH_ready (rs := [11]) (by kernel_rfl) (by simp) ?_
  refine AllReadyH.cons rfl (fun K hK => ?_) AllReadyH.nil
  have x0 := (HB.out.boxGet k2m).cellv 3 _ rfl
  have y0 := (HB.out.boxGet k2m).frozen 3
  have S_ := (fr1 [_, _] HB.out).boxPut 3 (iv p)
  have S_ : Sep w0 (W0.setCell ⟨ub, 3, none⟩ (iv p)) (rowV 119 1 (sl g n c) n xs :: boxA tb [a0, a1, a2, iv p, a4] 122 :: boxA ub [b0, b1, b2, iv p, b4] 122 :: l) := bk1 [_, _] S_
  have HS := Keep.mk S_
  clear S_ HB
  obtain ⟨W3, hW3⟩ : ∃ W3, W0.setCell ⟨ub, 3, none⟩ (iv p) = W3 := ⟨_, rfl⟩
  rw [hW3] at HS
  go_simp
  refine hK.out _ _ ((HS.out.boxGet k1m).cellv 3 _ rfl) (fun hHeld => ?_)
  clear hK K x0 y0 hW3 hHeld
  refine wpAnyH_done (by kernel_rfl) ?_ _
  have x2 : W3.cell? ⟨tb, 3, none⟩ = some (iv p) := (HS.out.boxGet k1m).cellv 3 _ rfl
  have HC := Keep.mk (own_cap (HS.out.rowGet k0m)).2.2
  obtain ⟨z, hz⟩ : ∃ z, xs[p]? = some z := ⟨_, List.getElem?_eq_getElem (by have := HX.out.2; have := HP.out; omega)⟩
  have x3 := (HC.out p z hz).1
  have y3 := (HC.out p z hz).2
  have S4 := HS.out.rowSet p (pt ub)
  obtain ⟨W4, hW4⟩ : ∃ W4, W3.setCell ⟨g, p, none⟩ (pt ub) = W4 := ⟨_, rfl⟩
  rw [hW4] at S4
  have hx5 : ∃ z5, (xs.set p (pt ub))[m]? = some z5 := ⟨_, List.getElem?_eq_getElem (by rw [List.length_set]; have := HX.out.2; omega)⟩
  obtain ⟨z5, hz5⟩ := hx5
  have x4 := ((own_cap (S4.rowGet k0m)).2.2 m z5 hz5).1
  have y4 := ((own_cap (S4.rowGet k0m)).2.2 m z5 hz5).2
  have S5 := S4.rowSet m (.pointer none)
  obtain ⟨W5, hW5⟩ : ∃ W5, W4.setCell ⟨g, m, none⟩ (.pointer none) = W5 := ⟨_, rfl⟩
  rw [hW5] at S5
  have HF := Keep.mk (S5.cut (m := m) HCUT.out)
  clear S4 S5 HS hz hz5
  go_wp2_with fail
  go_ret
  refine ⟨rfl, ?_⟩
  have q := HF.out
  rw [List.take_set_of_le (Nat.le_refl _)] at q
  exact q

set_option maxRecDepth 100000 in
set_option maxHeartbeats 4000000 in
theorem dropL1 (w0 W : World) (l : List As) (g m c p : Nat) (xs : List Value) (tb : Nat) (a0 a1 a2 a3 : Value) (hp : p = m) (hm : m < 17592186044416) (hx : xs[m]? = some (pt tb)) (h : Sep w0 W (rowV 119 1 (sl g (m + 1) c) (m + 1) xs :: boxA tb [a0, a1, a2, a3, iv p] 122 :: l)) :
    Calls Tryz.prog 86 #[sl g (m + 1) c, iv 1, pt tb] W fun e W' => e = .returned (sl g m c) ∧ Sep w0 W' (rowV 119 1 (sl g m c) m ((xs.set p (pt tb)).take m) :: boxA tb [a0, a1, a2, a3, iv p] 122 :: l) := by
  obtain ⟨hc, hl, hce⟩ := own_cap (h.rowGet k0m)
  have x1 := (hce m _ hx).1
  have HB : Keep (Sep w0 W.drew (rowV 119 1 (sl g (m + 1) c) (m + 1) xs :: boxA tb [a0, a1, a2, a3, iv p] 122 :: l)) := ⟨h.grown (gr_drew _ _)⟩
  have HP : Keep (p ≤ m) := ⟨by omega⟩
  have HX : Keep (xs[m]? = some (pt tb) ∧ xs.length = m + 1) := ⟨hx, hl⟩
  obtain ⟨n, hn⟩ : ∃ n, m + 1 = n := ⟨_, rfl⟩
  have HN : Keep (m + 1 = n) := ⟨hn⟩
  have e1 : IntKind.i64.wrap ((n : Int) - 1) = (m : Int) := by rw [IntKind.wrap_i64]; omega
  have lt1 : (m : Int) < (n : Int) := by omega
  have lt2 : (p : Int) < (n : Int) := by omega
  have le2 : (m : Int) ≤ (c : Int) := by omega
  have le3 : m ≤ c := by omega
  have HCUT : Keep (m ≤ n) := ⟨by omega⟩
  rw [hn] at HB ⊢
  clear h hn hce hx hl hc hp
  go_enter Tryz.func86, Tryz.ntmps86
  go_wp2_with fail
  refine wp_region_held_drew (S := fun w' => w'.cell? ⟨tb, 4, none⟩ = some (iv p)) (by kernel_rfl) ((HB.out.boxGet k1m).cellv 4 _ rfl) (fun hHeld => ?_)
  obtain ⟨W0, hW0⟩ : ∃ W_, W.drew = W_ := ⟨_, rfl⟩
  rw [hW0] at HB hHeld ⊢
  clear hW0
  refine wpAnyH_take (i := 0) (oi := _) (v := ?_) rfl (by kernel_rfl) (by kernel_rfl) (by kernel_rfl) (fun _ _ _ h => h) (Or.inl ⟨by rfl, ?_⟩) (by assumption) ?_
  rotate_left
  · (intro w hSw; go_simp; first | done | (with_reducible rfl))
  simp only [Act.put, A1, A3, A4, A5, A6]
  refine wpAnyH_take (i := 1) (oi := _) (v := ?_) rfl (by kernel_rfl) (by kernel_rfl) (by kernel_rfl) (fun _ _ _ h => h) (Or.inl ⟨by rfl, ?_⟩) (by assumption) ?_
  rotate_left
  · (intro w hSw; go_simp; first | done | (with_reducible rfl))
  simp only [Act.put, A1, A2, A3, A4, A5, A6]
  refine wpAnyH_take (i := 2) (oi := _) (v := ?_) rfl (by kernel_rfl) (by kernel_rfl) (by kernel_rfl) (fun _ _ _ h => h) (Or.inl ⟨by rfl, ?_⟩) (by assumption) ?_
  rotate_left
  · (intro w hSw; go_simp; first | done | (with_reducible rfl))
  simp only [Act.put, A1, A2, A3, A4, A5, A6]
  refine wpAnyH_take (i := 3) (oi := _) (v := ?_) rfl (by kernel_rfl) (by kernel_rfl) (by kernel_rfl) (fun _ _ _ h => h) (Or.inl ⟨by rfl, ?_⟩) (by assumption) ?_
  rotate_left
  · (intro w hSw; go_simp; first | done | (with_reducible rfl))
  simp only [Act.put, A1, A2, A3, A4, A5, A6]
  refine wpAnyH_take (i := 4) (oi := _) (v := ?_) rfl (by kernel_rfl) (by kernel_rfl) (by kernel_rfl) (fun _ _ _ h => h) (Or.inl ⟨by rfl, ?_⟩) (by assumption) ?_
  rotate_left
  · (intro w hSw; go_simp; first | done | (with_reducible rfl))
  simp only [Act.put, A1, A2, A3, A4, A5, A6]
  refine wpAnyH_take (i := 5) (oi := _) (v := ?_) rfl (by kernel_rfl) (by kernel_rfl) (by kernel_rfl) (fun _ _ _ h => h) (Or.inl ⟨by rfl, ?_⟩) (by assumption) ?_
  rotate_left
  · (intro w hSw; go_simp; first | done | (with_reducible rfl))
  simp only [Act.put, A1, A2, A3, A4, A5, A6]
  refine wpAnyH_take (i := 6) (oi := _) (v := ?_) rfl (by kernel_rfl) (by kernel_rfl) (by kernel_rfl) (fun _ _ _ h => h) (Or.inl ⟨by rfl, ?_⟩) (by assumption) ?_
  rotate_left
  · (intro w hSw; go_simp; first | done | (with_reducible rfl))
  simp only [Act.put, A1, A2, A3, A4, A5, A6]
  refine wpAnyH_take (i := 7) (oi := _) (v := ?_) rfl (by kernel_rfl) (by kernel_rfl) (by kernel_rfl) (fun _ _ _ h => h) (Or.inl ⟨by rfl, ?_⟩) (by assumption) ?_
  rotate_left
  · (intro w hSw; go_simp; first | done | (with_reducible rfl))
  simp only [Act.put, A1, A2, A3, A4, A5, A6]
  refine wpAnyH_take (i := 8) (oi := _) (v := ?_) rfl (by kernel_rfl) (by kernel_rfl) (by kernel_rfl) (fun _ _ _ h => h) (Or.inl ⟨by rfl, ?_⟩) (by assumption) ?_
  rotate_left
  · (intro w hSw; go_simp; first | done | (with_reducible rfl))
  simp only [Act.put, A1, A2, A3, A4, A5, A6]
  refine wpAnyH_take (i := 9) (oi := _) (v := ?_) rfl (by kernel_rfl) (by kernel_rfl) (by kernel_rfl) (fun _ _ _ h => h) (Or.inl ⟨by rfl, ?_⟩) (by assumption) ?_
  rotate_left
  · (intro w hSw; go_simp; first | done | (with_reducible rfl))
  simp only [Act.put, A1, A2, A3, A4, A5, A6]
  refine wpAnyH_take (i := 10) (oi := _) (v := ?_) rfl (by kernel_rfl) (by kernel_rfl) (by kernel_rfl) (fun _ _ _ h => h) (Or.inl ⟨by rfl, ?_⟩) (by assumption) ?_
  rotate_left
  · (intro w hSw; go_simp; first | done | (with_reducible rfl))
  simp only [Act.put, A1, A2, A3, A4, A5, A6]
  refine wpAnyH_ready (rs := [11]) (by kernel_rfl) (by simp) ?_
  refine AllReadyH.cons rfl (fun K hK => ?_) AllReadyH.nil
  have x0 := (HB.out.boxGet k1m).cellv 4 _ rfl
  have y0 := (HB.out.boxGet k1m).frozen 4
  have S_ := ((fr1 [_] HB.out).boxPut 4 (iv p))
  have S_ : Sep w0 (W0.setCell ⟨tb, 4, none⟩ (iv p)) (rowV 119 1 (sl g n c) n xs :: boxA tb [a0, a1, a2, a3, iv p] 122 :: l) := bk1 [_] S_
  have HS := Keep.mk S_
  clear S_ HB
  obtain ⟨W3, hW3⟩ : ∃ W3, W0.setCell ⟨tb, 4, none⟩ (iv p) = W3 := ⟨_, rfl⟩
  rw [hW3] at HS
  go_simp
  refine hK.out _ _ ((HS.out.boxGet k1m).cellv 4 _ rfl) (fun hHeld => ?_)
  clear hK K x0 y0 hW3 hHeld
  refine wpAnyH_done (by kernel_rfl) ?_ _
  have x2 : W3.cell? ⟨tb, 4, none⟩ = some (iv p) := (HS.out.boxGet k1m).cellv 4 _ rfl
  have HC := Keep.mk (own_cap (HS.out.rowGet k0m)).2.2
  obtain ⟨z, hz⟩ : ∃ z, xs[p]? = some z := ⟨_, List.getElem?_eq_getElem (by have := HX.out.2; have := HP.out; omega)⟩
  have x3 := (HC.out p z hz).1
  have y3 := (HC.out p z hz).2
  have S4 := HS.out.rowSet p (pt tb)
  obtain ⟨W4, hW4⟩ : ∃ W4, W3.setCell ⟨g, p, none⟩ (pt tb) = W4 := ⟨_, rfl⟩
  rw [hW4] at S4
  have hx5 : ∃ z5, (xs.set p (pt tb))[m]? = some z5 := ⟨_, List.getElem?_eq_getElem (by rw [List.length_set]; have := HX.out.2; omega)⟩
  obtain ⟨z5, hz5⟩ := hx5
  have x4 := ((own_cap (S4.rowGet k0m)).2.2 m z5 hz5).1
  have y4 := ((own_cap (S4.rowGet k0m)).2.2 m z5 hz5).2
  have S5 := S4.rowSet m (.pointer none)
  obtain ⟨W5, hW5⟩ : ∃ W5, W4.setCell ⟨g, m, none⟩ (.pointer none) = W5 := ⟨_, rfl⟩
  rw [hW5] at S5
  have HF := Keep.mk (S5.cut (m := m) HCUT.out)
  clear S4 S5 HS hz hz5
  go_wp2_with fail
  go_ret
  refine ⟨rfl, ?_⟩
  have q := HF.out
  rw [List.take_set_of_le (Nat.le_refl _)] at q
  exact q

set_option maxRecDepth 100000 in
set_option maxHeartbeats 4000000 in
theorem dropM1 (w0 W : World) (l : List As) (g m c p : Nat) (xs : List Value) (tb ub : Nat) (a0 a1 a2 a3 b0 b1 b2 b3 b4 : Value) (hp : p < m) (hm : m < 17592186044416) (hx : xs[m]? = some (pt ub)) (h : Sep w0 W (rowV 119 1 (sl g (m + 1) c) (m + 1) xs :: boxA tb [a0, a1, a2, a3, iv p] 122 :: boxA ub [b0, b1, b2, b3, b4] 122 :: l)) :
    Calls Tryz.prog 86 #[sl g (m + 1) c, iv 1, pt tb] W fun e W' => e = .returned (sl g m c) ∧ Sep w0 W' (rowV 119 1 (sl g m c) m ((xs.set p (pt ub)).take m) :: boxA tb [a0, a1, a2, a3, iv p] 122 :: boxA ub [b0, b1, b2, b3, iv p] 122 :: l) := by
  obtain ⟨hc, hl, hce⟩ := own_cap (h.rowGet k0m)
  have x1 := (hce m _ hx).1
  have HB : Keep (Sep w0 W.drew (rowV 119 1 (sl g (m + 1) c) (m + 1) xs :: boxA tb [a0, a1, a2, a3, iv p] 122 :: boxA ub [b0, b1, b2, b3, b4] 122 :: l)) := ⟨h.grown (gr_drew _ _)⟩
  have HP : Keep (p ≤ m) := ⟨by omega⟩
  have HX : Keep (xs[m]? = some (pt ub) ∧ xs.length = m + 1) := ⟨hx, hl⟩
  obtain ⟨n, hn⟩ : ∃ n, m + 1 = n := ⟨_, rfl⟩
  have HN : Keep (m + 1 = n) := ⟨hn⟩
  have e1 : IntKind.i64.wrap ((n : Int) - 1) = (m : Int) := by rw [IntKind.wrap_i64]; omega
  have lt1 : (m : Int) < (n : Int) := by omega
  have lt2 : (p : Int) < (n : Int) := by omega
  have le2 : (m : Int) ≤ (c : Int) := by omega
  have le3 : m ≤ c := by omega
  have HCUT : Keep (m ≤ n) := ⟨by omega⟩
  rw [hn] at HB ⊢
  clear h hn hce hx hl hc 
  go_enter Tryz.func86, Tryz.ntmps86
  go_wp2_with fail
  refine wp_region_held_drew (S := fun w' => w'.cell? ⟨tb, 4, none⟩ = some (iv p)) (by kernel_rfl) ((HB.out.boxGet k1m).cellv 4 _ rfl) (fun hHeld => ?_)
  obtain ⟨W0, hW0⟩ : ∃ W_, W.drew = W_ := ⟨_, rfl⟩
  rw [hW0] at HB hHeld ⊢
  clear hW0
  refine wpAnyH_take (i := 0) (oi := _) (v := ?_) rfl (by kernel_rfl) (by kernel_rfl) (by kernel_rfl) (fun _ _ _ h => h) (Or.inl ⟨by rfl, ?_⟩) (by assumption) ?_
  rotate_left
  · (intro w hSw; go_simp; first | done | (with_reducible rfl))
  simp only [Act.put, A1, A3, A4, A5, A6]
  refine wpAnyH_take (i := 1) (oi := _) (v := ?_) rfl (by kernel_rfl) (by kernel_rfl) (by kernel_rfl) (fun _ _ _ h => h) (Or.inl ⟨by rfl, ?_⟩) (by assumption) ?_
  rotate_left
  · (intro w hSw; go_simp; first | done | (with_reducible rfl))
  simp only [Act.put, A1, A2, A3, A4, A5, A6]
  refine wpAnyH_take (i := 2) (oi := _) (v := ?_) rfl (by kernel_rfl) (by kernel_rfl) (by kernel_rfl) (fun _ _ _ h => h) (Or.inl ⟨by rfl, ?_⟩) (by assumption) ?_
  rotate_left
  · (intro w hSw; go_simp; first | done | (with_reducible rfl))
  simp only [Act.put, A1, A2, A3, A4, A5, A6]
  refine wpAnyH_take (i := 3) (oi := _) (v := ?_) rfl (by kernel_rfl) (by kernel_rfl) (by kernel_rfl) (fun _ _ _ h => h) (Or.inl ⟨by rfl, ?_⟩) (by assumption) ?_
  rotate_left
  · (intro w hSw; go_simp; first | done | (with_reducible rfl))
  simp only [Act.put, A1, A2, A3, A4, A5, A6]
  refine wpAnyH_take (i := 4) (oi := _) (v := ?_) rfl (by kernel_rfl) (by kernel_rfl) (by kernel_rfl) (fun _ _ _ h => h) (Or.inl ⟨by rfl, ?_⟩) (by assumption) ?_
  rotate_left
  · (intro w hSw; go_simp; first | done | (with_reducible rfl))
  simp only [Act.put, A1, A2, A3, A4, A5, A6]
  refine wpAnyH_take (i := 5) (oi := _) (v := ?_) rfl (by kernel_rfl) (by kernel_rfl) (by kernel_rfl) (fun _ _ _ h => h) (Or.inl ⟨by rfl, ?_⟩) (by assumption) ?_
  rotate_left
  · (intro w hSw; go_simp; first | done | (with_reducible rfl))
  simp only [Act.put, A1, A2, A3, A4, A5, A6]
  refine wpAnyH_take (i := 6) (oi := _) (v := ?_) rfl (by kernel_rfl) (by kernel_rfl) (by kernel_rfl) (fun _ _ _ h => h) (Or.inl ⟨by rfl, ?_⟩) (by assumption) ?_
  rotate_left
  · (intro w hSw; go_simp; first | done | (with_reducible rfl))
  simp only [Act.put, A1, A2, A3, A4, A5, A6]
  refine wpAnyH_take (i := 7) (oi := _) (v := ?_) rfl (by kernel_rfl) (by kernel_rfl) (by kernel_rfl) (fun _ _ _ h => h) (Or.inl ⟨by rfl, ?_⟩) (by assumption) ?_
  rotate_left
  · (intro w hSw; go_simp; first | done | (with_reducible rfl))
  simp only [Act.put, A1, A2, A3, A4, A5, A6]
  refine wpAnyH_take (i := 8) (oi := _) (v := ?_) rfl (by kernel_rfl) (by kernel_rfl) (by kernel_rfl) (fun _ _ _ h => h) (Or.inl ⟨by rfl, ?_⟩) (by assumption) ?_
  rotate_left
  · (intro w hSw; go_simp; first | done | (with_reducible rfl))
  simp only [Act.put, A1, A2, A3, A4, A5, A6]
  refine wpAnyH_take (i := 9) (oi := _) (v := ?_) rfl (by kernel_rfl) (by kernel_rfl) (by kernel_rfl) (fun _ _ _ h => h) (Or.inl ⟨by rfl, ?_⟩) (by assumption) ?_
  rotate_left
  · (intro w hSw; go_simp; first | done | (with_reducible rfl))
  simp only [Act.put, A1, A2, A3, A4, A5, A6]
  refine wpAnyH_take (i := 10) (oi := _) (v := ?_) rfl (by kernel_rfl) (by kernel_rfl) (by kernel_rfl) (fun _ _ _ h => h) (Or.inl ⟨by rfl, ?_⟩) (by assumption) ?_
  rotate_left
  · (intro w hSw; go_simp; first | done | (with_reducible rfl))
  simp only [Act.put, A1, A2, A3, A4, A5, A6]
  refine wpAnyH_ready (rs := [11]) (by kernel_rfl) (by simp) ?_
  refine AllReadyH.cons rfl (fun K hK => ?_) AllReadyH.nil
  have x0 := (HB.out.boxGet k2m).cellv 4 _ rfl
  have y0 := (HB.out.boxGet k2m).frozen 4
  have S_ := (fr1 [_, _] HB.out).boxPut 4 (iv p)
  have S_ : Sep w0 (W0.setCell ⟨ub, 4, none⟩ (iv p)) (rowV 119 1 (sl g n c) n xs :: boxA tb [a0, a1, a2, a3, iv p] 122 :: boxA ub [b0, b1, b2, b3, iv p] 122 :: l) := bk1 [_, _] S_
  have HS := Keep.mk S_
  clear S_ HB
  obtain ⟨W3, hW3⟩ : ∃ W3, W0.setCell ⟨ub, 4, none⟩ (iv p) = W3 := ⟨_, rfl⟩
  rw [hW3] at HS
  go_simp
  refine hK.out _ _ ((HS.out.boxGet k1m).cellv 4 _ rfl) (fun hHeld => ?_)
  clear hK K x0 y0 hW3 hHeld
  refine wpAnyH_done (by kernel_rfl) ?_ _
  have x2 : W3.cell? ⟨tb, 4, none⟩ = some (iv p) := (HS.out.boxGet k1m).cellv 4 _ rfl
  have HC := Keep.mk (own_cap (HS.out.rowGet k0m)).2.2
  obtain ⟨z, hz⟩ : ∃ z, xs[p]? = some z := ⟨_, List.getElem?_eq_getElem (by have := HX.out.2; have := HP.out; omega)⟩
  have x3 := (HC.out p z hz).1
  have y3 := (HC.out p z hz).2
  have S4 := HS.out.rowSet p (pt ub)
  obtain ⟨W4, hW4⟩ : ∃ W4, W3.setCell ⟨g, p, none⟩ (pt ub) = W4 := ⟨_, rfl⟩
  rw [hW4] at S4
  have hx5 : ∃ z5, (xs.set p (pt ub))[m]? = some z5 := ⟨_, List.getElem?_eq_getElem (by rw [List.length_set]; have := HX.out.2; omega)⟩
  obtain ⟨z5, hz5⟩ := hx5
  have x4 := ((own_cap (S4.rowGet k0m)).2.2 m z5 hz5).1
  have y4 := ((own_cap (S4.rowGet k0m)).2.2 m z5 hz5).2
  have S5 := S4.rowSet m (.pointer none)
  obtain ⟨W5, hW5⟩ : ∃ W5, W4.setCell ⟨g, m, none⟩ (.pointer none) = W5 := ⟨_, rfl⟩
  rw [hW5] at S5
  have HF := Keep.mk (S5.cut (m := m) HCUT.out)
  clear S4 S5 HS hz hz5
  go_wp2_with fail
  go_ret
  refine ⟨rfl, ?_⟩
  have q := HF.out
  rw [List.take_set_of_le (Nat.le_refl _)] at q
  exact q
end Go.Proofs.YtgedlabmndlooaaGreat

namespace Go.Proofs.YtgedlabmndlooaaGreat
open Go Go.RowKit

def tgv (t : Tg) : List Value := [iv t.id, iv t.x, iv t.y, iv t.s, iv t.p]
def tgA (t : Tg) : As := boxA t.b [iv t.id, iv t.x, iv t.y, iv t.s, iv t.p] 122
def clA (c : Cl) : As := rowV 119 1 (sl c.g c.L.length c.c) c.L.length (c.L.map pt)
def clS (c : Cl) : Sl := (c.g + 1, c.L.length, c.c)
def clf (C : List Cl) : Int × Int → Option Sl := fun k => (C.find? (fun c => decide (c.k = k))).map clS
def idf (A : List Tg) : Int → Option Nat := fun k => (A.find? (fun t => decide (t.id = k))).map (fun t => t.b + 1)
set_option maxRecDepth 100000 in
theorem clf_cons (c : Cl) (D : List Cl) (k : Int × Int) : clf (c :: D) k = if c.k = k then some (clS c) else clf D k := by
  unfold clf
  rw [List.find?_cons]
  by_cases h : c.k = k
  · simp [h]
  · simp [h]
set_option maxRecDepth 100000 in
theorem clf_none {C : List Cl} {k : Int × Int} (h : ∀ c ∈ C, c.k ≠ k) : clf C k = none := by
  induction C with
  | nil => rfl
  | cons c D ih =>
    rw [clf_cons, if_neg (h c (List.mem_cons_self ..)), ih (fun d hd => h d (List.mem_cons_of_mem _ hd))]
set_option maxRecDepth 100000 in
theorem clf_mem {C : List Cl} (hk : C.Pairwise (fun a b => a.k ≠ b.k)) {c : Cl} (hc : c ∈ C) : clf C c.k = some (clS c) := by
  induction C with
  | nil => cases hc
  | cons d D ih =>
    obtain ⟨h1, h2⟩ := List.pairwise_cons.1 hk
    rw [clf_cons]
    rcases List.mem_cons.1 hc with rfl | hc
    · simp
    · rw [if_neg (h1 c hc), ih h2 hc]
set_option maxRecDepth 100000 in
theorem clf_perm {C C' : List Cl} (hk : C.Pairwise (fun a b => a.k ≠ b.k)) (hp : C.Perm C') : clf C = clf C' := by
  funext k
  by_cases h : ∃ c ∈ C, c.k = k
  · obtain ⟨c, hc, rfl⟩ := h
    rw [clf_mem hk hc, clf_mem ((hp.pairwise_iff (fun {_ _} q => Ne.symm q)).1 hk) (hp.mem_iff.1 hc)]
  · rw [clf_none (fun c hc e => h ⟨c, hc, e⟩), clf_none (fun c hc e => h ⟨c, hp.mem_iff.2 hc, e⟩)]
set_option maxRecDepth 100000 in
theorem clf_upd {c c' : Cl} {D : List Cl} (h : c'.k = c.k) : upd (clf (c :: D)) c.k (some (clS c')) = clf (c' :: D) := by
  funext k
  rw [clf_cons]
  by_cases e : c'.k = k
  · rw [if_pos e, ← e, h, upd_same]
  · rw [if_neg e, upd_other _ _ (fun q => e (by rw [h, q])), clf_cons, if_neg (by rw [← h]; exact e)]
set_option maxRecDepth 100000 in
theorem clf_del {c : Cl} {D : List Cl} (h : ∀ d ∈ D, d.k ≠ c.k) : upd (clf (c :: D)) c.k none = clf D := by
  funext k
  by_cases e : k = c.k
  · subst e
    rw [upd_same, clf_none h]
  · rw [upd_other _ _ e, clf_cons, if_neg (Ne.symm e)]
set_option maxRecDepth 100000 in
theorem clf_new {c' : Cl} {D : List Cl} : upd (clf D) c'.k (some (clS c')) = clf (c' :: D) := by
  funext k
  rw [clf_cons]
  by_cases e : c'.k = k
  · rw [if_pos e, ← e, upd_same]
  · rw [if_neg e, upd_other _ _ (Ne.symm e)]
set_option maxRecDepth 100000 in
theorem Sep.left {w0 W : World} (A : List As) {B : List As} (h : Sep w0 W (A ++ B)) : Sep w0 W A := Sep.dropL (B := B) (h.perm List.perm_append_comm)
set_option maxRecDepth 100000 in
theorem Sep.front {w0 W : World} (A : List As) {B l : List As} (h : Sep w0 W (A ++ (B ++ l))) : Sep w0 W (B ++ (A ++ l)) := by
  refine h.perm ?_
  rw [← List.append_assoc, ← List.append_assoc]
  exact List.perm_append_comm.append_right l

set_option maxRecDepth 100000 in
set_option maxHeartbeats 8000000 in
theorem enter_w (w0 W : World) (l : List As) (gb mc m tb n : Nat) (sd x y : Int) (va mi v a0 a3 a4 : Value) (xs : List Value) (f : Int × Int → Option Sl) (hs : 1 ≤ sd ∧ sd ≤ 1099511627776) (hx : I64 x) (hy : I64 y) (hv : cellsM.ev ((f (x / sd, y / sd)).getD cellsM.z) = v) (hn : (n + 1) * 8 ≤ 140737488355328) (hm : m < 9223372036854775807) (m2 : Nat) (hm2 : (if (f (x / sd, y / sd)).isSome then m else m + 1) = m2)
    (h : Sep w0 W (boxA gb [iv sd, va, mi, .map (some mc)] 103 :: mapA cellsM mc m f :: rowV 119 1 v n xs :: boxA tb [a0, iv x, iv y, a3, a4] 122 :: l)) :
    Calls Tryz.prog 76 #[pt gb, pt tb] W fun e W' => ∃ g c, e = .returned (.tuple #[]) ∧ Sep w0 W' (boxA gb [iv sd, va, mi, .map (some mc)] 103 :: mapA cellsM mc m2 (upd f (x / sd, y / sd) (some (g + 1, n + 1, c))) :: rowV 119 1 (sl g (n + 1) c) (n + 1) (xs ++ [pt tb]) :: boxA tb [a0, iv x, iv y, a3, iv n] 122 :: l) := by
  have HC := Keep.mk (cellOf_c W gb sd x y _ hs hx hy (h.boxGet k0m))
  have HK : Keep (I64p (x / sd, y / sd)) := ⟨div_I64 sd x hs.1 hx, div_I64 sd y hs.1 hy⟩
  have HV := Keep.mk hv
  have HN := Keep.mk hn
  have HM := Keep.mk hm
  have HB := Keep.mk h
  have HM2 := Keep.mk hm2
  have q1 := (h.boxGet k3m).cellv 1 _ rfl
  have q2 := (h.boxGet k3m).cellv 2 _ rfl
  clear h hn hm hs hx hy hv hm2
  generalize x / sd = kx at *
  generalize y / sd = ky at *
  go_enter Tryz.func76, Tryz.ntmps76
  go_wp2_with fail
  refine HC.out.mono ?_
  rintro e w1 ⟨rfl, g1⟩
  have S1 := (HB.out.grown g1).newBox #[iv kx, iv ky] 138
  obtain ⟨W2, hW2⟩ : ∃ W2, w1.alloc (.cells #[iv kx, iv ky] 138) = W2 := ⟨_, rfl⟩
  obtain ⟨kb, hkb⟩ : ∃ b, w1.heap.size = b := ⟨_, rfl⟩
  rw [hW2, hkb] at S1
  have HB : Keep (Sep w0 W2 (boxA kb [iv kx, iv ky] 138 :: boxA gb [iv sd, va, mi, .map (some mc)] 103 :: mapA cellsM mc m f :: rowV 119 1 v n xs :: boxA tb [a0, iv x, iv y, a3, a4] 122 :: l)) := ⟨S1⟩
  clear S1 g1 HC q1 q2
  go_wp2_with fail
  clear hW2 hkb
  replace HB := Keep.mk (HB.out.grown (gr_drew _ none))
  refine region_X (S := fun w' => Sep w0 w' [boxA kb [iv kx, iv ky] 138, boxA gb [iv sd, va, mi, .map (some mc)] 103, mapA cellsM mc m f]) [13] (by kernel_rfl) (HB.out.left [_, _, _]) (fun hHeld => ?_)
  obtain ⟨W0, hW0⟩ : ∃ W_, W2.drew = W_ := ⟨_, rfl⟩
  rw [hW0] at HB hHeld ⊢
  clear hW0
  refine wpAnyX_take (i := 0) (oi := _) (v := ?_) rfl (by kernel_rfl) (by kernel_rfl) (by kernel_rfl) (by kernel_rfl) (by kernel_rfl) (fun _ _ _ h => h) (Or.inl ⟨by rfl, ?_⟩) (by assumption) ?_
  rotate_left
  · (intro w hSw; go_simp; first | done | (with_reducible rfl))
  simp only [Act.put, A1, A3, A4, A5, A6]
  refine wpAnyX_take (i := 1) (oi := _) (v := ?_) rfl (by kernel_rfl) (by kernel_rfl) (by kernel_rfl) (by kernel_rfl) (by kernel_rfl) (fun _ _ _ h => h) (Or.inl ⟨by rfl, ?_⟩) (by assumption) ?_
  rotate_left
  · (intro w hSw; go_simp; first | done | (with_reducible rfl))
  simp only [Act.put, A1, A2, A3, A4, A5, A6]
  refine wpAnyX_take (i := 2) (oi := _) (v := ?_) rfl (by kernel_rfl) (by kernel_rfl) (by kernel_rfl) (by kernel_rfl) (by kernel_rfl) (fun _ _ _ h => h) (Or.inl ⟨by rfl, ?_⟩) (by assumption) ?_
  rotate_left
  · (intro w hSw; go_simp; first | done | (with_reducible rfl))
  simp only [Act.put, A1, A2, A3, A4, A5, A6]
  refine wpAnyX_take (i := 3) (oi := _) (v := ?_) rfl (by kernel_rfl) (by kernel_rfl) (by kernel_rfl) (by kernel_rfl) (by kernel_rfl) (fun _ _ _ h => h) (Or.inl ⟨by rfl, ?_⟩) (by assumption) ?_
  rotate_left
  · (intro w hSw; have q3 := (hSw.boxGet k1m).cellv 3 _ rfl; go_simp; first | done | (with_reducible rfl))
  simp only [Act.put, A1, A2, A3, A4, A5, A6]
  refine wpAnyX_take (i := 4) (oi := _) (v := .agg #[iv kx, iv ky]) rfl (by kernel_rfl) (by kernel_rfl) (by kernel_rfl) (by kernel_rfl) (by kernel_rfl) (fun _ _ _ h => h) (Or.inl ⟨by rfl, ?_⟩) (by assumption) ?_
  · (intro w hSw; have q0 := (hSw.boxGet k0m).cellv 0 _ rfl; have q1 := (hSw.boxGet k0m).cellv 1 _ rfl; go_simp; first | done | rfl | (simp; done) | trace_state)
  simp only [Act.put, A1, A2, A3, A4, A5, A6]
  refine wpAnyX_take (i := 5) (oi := _) (v := ?_) rfl (by kernel_rfl) (by kernel_rfl) (by kernel_rfl) (by kernel_rfl) (by kernel_rfl) (fun _ _ _ h => h) (Or.inl ⟨by rfl, ?_⟩) (by assumption) ?_
  rotate_left
  · (intro w hSw; go_simp; first | done | (with_reducible rfl))
  simp only [Act.put, A1, A2, A3, A4, A5, A6]
  refine wpAnyX_take (i := 6) (oi := _) (v := ?_) rfl (by kernel_rfl) (by kernel_rfl) (by kernel_rfl) (by kernel_rfl) (by kernel_rfl) (fun _ _ _ h => h) (Or.inl ⟨by rfl, ?_⟩) (by assumption) ?_
  rotate_left
  · (intro w hSw; go_simp; first | done | (with_reducible rfl))
  simp only [Act.put, A1, A2, A3, A4, A5, A6]
  refine wpAnyX_take (i := 7) (oi := _) (v := ?_) rfl (by kernel_rfl) (by kernel_rfl) (by kernel_rfl) (by kernel_rfl) (by kernel_rfl) (fun _ _ _ h => h) (Or.inl ⟨by rfl, ?_⟩) (by assumption) ?_
  rotate_left
  · (intro w hSw; go_simp; first | done | (with_reducible rfl))
  simp only [Act.put, A1, A2, A3, A4, A5, A6]
  refine wpAnyX_take (i := 8) (oi := _) (v := ?_) rfl (by kernel_rfl) (by kernel_rfl) (by kernel_rfl) (by kernel_rfl) (by kernel_rfl) (fun _ _ _ h => h) (Or.inl ⟨by rfl, ?_⟩) (by assumption) ?_
  rotate_left
  · (intro w hSw; have q3 := (hSw.boxGet k1m).cellv 3 _ rfl; go_simp; first | done | (with_reducible rfl))
  simp only [Act.put, A1, A2, A3, A4, A5, A6]
  refine wpAnyX_take (i := 9) (oi := _) (v := .agg #[iv kx, iv ky]) rfl (by kernel_rfl) (by kernel_rfl) (by kernel_rfl) (by kernel_rfl) (by kernel_rfl) (fun _ _ _ h => h) (Or.inl ⟨by rfl, ?_⟩) (by assumption) ?_
  · (intro w hSw; have q0 := (hSw.boxGet k0m).cellv 0 _ rfl; have q1 := (hSw.boxGet k0m).cellv 1 _ rfl; go_simp; first | done | rfl | (simp; done) | trace_state)
  simp only [Act.put, A1, A2, A3, A4, A5, A6]
  refine wpAnyX_take (i := 10) (oi := _) (v := v) rfl (by kernel_rfl) (by kernel_rfl) (by kernel_rfl) (by kernel_rfl) (by kernel_rfl) (fun _ _ _ h => h) (Or.inl ⟨by rfl, ?_⟩) (by assumption) ?_
  · (intro w hSw; have ql : (Instr.lookup 100 (.map (some mc)) (.agg #[iv kx, iv ky]) false).run Tryz.prog w = .ok v w := (by have q := (hSw.mapGet k2m).look (kx, ky) HK.out; rw [HV.out] at q; exact q); go_simp; first | done | rfl | (simp; done) | trace_state)
  simp only [Act.put, A1, A2, A3, A4, A5, A6]
  refine wpAnyX_take (i := 11) (oi := _) (v := ?_) rfl (by kernel_rfl) (by kernel_rfl) (by kernel_rfl) (by kernel_rfl) (by kernel_rfl) (fun _ _ _ h => h) (Or.inl ⟨by rfl, ?_⟩) (by assumption) ?_
  rotate_left
  · (intro w hSw; go_simp; first | done | (with_reducible rfl))
  simp only [Act.put, A1, A2, A3, A4, A5, A6]
  refine wpAnyX_one (i := 12) (by kernel_rfl) rfl (fun K hK => ?_)
  go_simp
  refine (lay1_c w0 _ (boxA kb [iv kx, iv ky] 138 :: boxA gb [iv sd, va, mi, .map (some mc)] 103 :: mapA cellsM mc m f :: l) v n xs tb a0 (iv x) (iv y) a3 a4 HN.out (by exact Sep.front [_, _, _] (B := [_, _]) HB.out)).mono ?_
  rintro e wg ⟨g9, c9, rfl, S9⟩
  have S9 : Sep w0 wg ([boxA kb [iv kx, iv ky] 138, boxA gb [iv sd, va, mi, .map (some mc)] 103, mapA cellsM mc m f] ++ (rowV 119 1 (sl g9 (n + 1) c9) (n + 1) (xs ++ [pt tb]) :: boxA tb [a0, iv x, iv y, a3, iv n] 122 :: l)) := Sep.front [_, _] (B := [_, _, _]) S9
  refine hK.out _ _ S9.left (fun hHeld => ?_)
  have HS := Keep.mk S9
  clear hK K S9 HB
  refine wpAnyX_late (i := 13) (by kernel_rfl) rfl (by kernel_rfl) (fun K hK => ?_)
  obtain ⟨W9, r9, m9, G9, _⟩ := (HS.out.mapGet k2m).put (kx, ky) HK.out (g9 + 1, n + 1, c9) HM.out
  have r9 : (Instr.mapUpdate 100 (.map (some mc)) (.agg #[iv kx, iv ky]) (sl g9 (n + 1) c9)).run Tryz.prog wg = .ok () W9 := r9
  rw [HM2.out] at m9
  have S9 := ((fr1 [_, _] HS.out).mapTo m9 G9)
  have HF := Keep.mk S9
  clear S9 m9 G9 HS
  obtain ⟨n1, hn1⟩ : ∃ n1, n + 1 = n1 := ⟨_, rfl⟩
  rw [hn1] at r9 HF ⊢
  go_simp
  refine hK.out _ _ ?_
  clear hK K r9 hHeld
  refine wpAnyX_done (by kernel_rfl) ?_ _
  go_wp2_with fail
  go_end0
  exact ⟨g9, c9, rfl, by rw [hn1]; have := (fr1 [_] HF.out).tail; exact bk1 [_] this⟩
end Go.Proofs.YtgedlabmndlooaaGreat

namespace Go.Proofs.YtgedlabmndlooaaGreat
open Go Go.RowKit


set_option maxRecDepth 100000 in
set_option maxHeartbeats 8000000 in
theorem leave_some (w0 W : World) (l X Y : List As) (gb mc mm tb g m c : Nat) (sd x y : Int) (va mi v a0 a3 a4 : Value) (f : Int × Int → Option Sl) (hs : 1 ≤ sd ∧ sd ≤ 1099511627776) (hx : I64 x) (hy : I64 y) (hv : cellsM.ev ((f (x / sd, y / sd)).getD cellsM.z) = v) (hm0 : 0 < m) (hmm : mm < 9223372036854775807) (m2 : Nat) (hm2 : (if (f (x / sd, y / sd)).isSome then mm else mm + 1) = m2)
    (hD : ∀ (w0 W : World) (l : List As), Sep w0 W (X ++ l) → Calls Tryz.prog 86 #[v, iv 1, pt tb] W fun e W' => e = .returned (sl g m c) ∧ Sep w0 W' (Y ++ l)) (hX : boxA tb [a0, iv x, iv y, a3, a4] 122 ∈ X)
    (h : Sep w0 W (boxA gb [iv sd, va, mi, .map (some mc)] 103 :: mapA cellsM mc mm f :: (X ++ l))) :
    Calls Tryz.prog 75 #[pt gb, pt tb] W fun e W' => e = .returned (.tuple #[]) ∧ Sep w0 W' (boxA gb [iv sd, va, mi, .map (some mc)] 103 :: mapA cellsM mc m2 (upd f (x / sd, y / sd) (some (g + 1, m, c))) :: (Y ++ l)) := by
  have HC := Keep.mk (cellOf_c W gb sd x y _ hs hx hy (h.boxGet k0m))
  have HK : Keep (I64p (x / sd, y / sd)) := ⟨div_I64 sd x hs.1 hx, div_I64 sd y hs.1 hy⟩
  have HV := Keep.mk hv
  have HM := Keep.mk hmm
  have HM2 := Keep.mk hm2
  have HB := Keep.mk h
  have HD := Keep.mk hD
  have hX2 : boxA tb [a0, iv x, iv y, a3, a4] 122 ∈ boxA gb [iv sd, va, mi, .map (some mc)] 103 :: mapA cellsM mc mm f :: (X ++ l) := List.mem_cons_of_mem _ (List.mem_cons_of_mem _ (List.mem_append_left _ hX))
  have q1 := (h.boxGet hX2).cellv 1 _ rfl
  have q2 := (h.boxGet hX2).cellv 2 _ rfl
  clear h hmm hs hx hy hv hm2 hX hX2 hD
  generalize x / sd = kx at *
  generalize y / sd = ky at *
  have d1 : (0 : Int) < (m : Int) := by omega
  have d2' : 0 < m := hm0
  go_enter Tryz.func75, Tryz.ntmps75
  go_wp2_with fail
  refine HC.out.mono ?_
  rintro e w1 ⟨rfl, g1⟩
  have S1 := (HB.out.grown g1).newBox #[iv kx, iv ky] 138
  obtain ⟨W2, hW2⟩ : ∃ W2, w1.alloc (.cells #[iv kx, iv ky] 138) = W2 := ⟨_, rfl⟩
  obtain ⟨kb, hkb⟩ : ∃ b, w1.heap.size = b := ⟨_, rfl⟩
  rw [hW2, hkb] at S1
  have HB : Keep (Sep w0 W2 (boxA kb [iv kx, iv ky] 138 :: boxA gb [iv sd, va, mi, .map (some mc)] 103 :: mapA cellsM mc mm f :: (X ++ l))) := ⟨S1⟩
  clear S1 g1 HC q1 q2
  go_wp2_with fail
  clear hW2 hkb
  replace HB := Keep.mk (HB.out.grown (gr_drew _ none))
  refine region_X (S := fun w' => Sep w0 w' [boxA kb [iv kx, iv ky] 138, boxA gb [iv sd, va, mi, .map (some mc)] 103, mapA cellsM mc mm f]) [] (by kernel_rfl) (HB.out.left [_, _, _]) (fun hHeld => ?_)
  obtain ⟨W0, hW0⟩ : ∃ W_, W2.drew = W_ := ⟨_, rfl⟩
  rw [hW0] at HB hHeld ⊢
  clear hW0
  refine wpAnyX_take (i := 0) (oi := _) (v := ?_) rfl (by kernel_rfl) (by kernel_rfl) (by kernel_rfl) (by kernel_rfl) (by kernel_rfl) (fun _ _ _ h => h) (Or.inl ⟨by rfl, ?_⟩) (by assumption) ?_
  rotate_left
  · (intro w hSw; go_simp; first | done | (with_reducible rfl))
  simp only [Act.put, A1, A3, A4, A5, A6]
  refine wpAnyX_take (i := 1) (oi := _) (v := ?_) rfl (by kernel_rfl) (by kernel_rfl) (by kernel_rfl) (by kernel_rfl) (by kernel_rfl) (fun _ _ _ h => h) (Or.inl ⟨by rfl, ?_⟩) (by assumption) ?_
  rotate_left
  · (intro w hSw; go_simp; first | done | (with_reducible rfl))
  simp only [Act.put, A1, A2, A3, A4, A5, A6]
  refine wpAnyX_take (i := 2) (oi := _) (v := ?_) rfl (by kernel_rfl) (by kernel_rfl) (by kernel_rfl) (by kernel_rfl) (by kernel_rfl) (fun _ _ _ h => h) (Or.inl ⟨by rfl, ?_⟩) (by assumption) ?_
  rotate_left
  · (intro w hSw; go_simp; first | done | (with_reducible rfl))
  simp only [Act.put, A1, A2, A3, A4, A5, A6]
  refine wpAnyX_take (i := 3) (oi := _) (v := ?_) rfl (by kernel_rfl) (by kernel_rfl) (by kernel_rfl) (by kernel_rfl) (by kernel_rfl) (fun _ _ _ h => h) (Or.inl ⟨by rfl, ?_⟩) (by assumption) ?_
  rotate_left
  · (intro w hSw; have q3 := (hSw.boxGet k1m).cellv 3 _ rfl; go_simp; first | done | (with_reducible rfl))
  simp only [Act.put, A1, A2, A3, A4, A5, A6]
  refine wpAnyX_take (i := 4) (oi := _) (v := .agg #[iv kx, iv ky]) rfl (by kernel_rfl) (by kernel_rfl) (by kernel_rfl) (by kernel_rfl) (by kernel_rfl) (fun _ _ _ h => h) (Or.inl ⟨by rfl, ?_⟩) (by assumption) ?_
  · (intro w hSw; have q0 := (hSw.boxGet k0m).cellv 0 _ rfl; have q1 := (hSw.boxGet k0m).cellv 1 _ rfl; go_simp; first | done | rfl | (simp; done) | trace_state)
  simp only [Act.put, A1, A2, A3, A4, A5, A6]
  refine wpAnyX_take (i := 5) (oi := _) (v := v) rfl (by kernel_rfl) (by kernel_rfl) (by kernel_rfl) (by kernel_rfl) (by kernel_rfl) (fun _ _ _ h => h) (Or.inl ⟨by rfl, ?_⟩) (by assumption) ?_
  · (intro w hSw; have ql : (Instr.lookup 100 (.map (some mc)) (.agg #[iv kx, iv ky]) false).run Tryz.prog w = .ok v w := (by have q := (hSw.mapGet k2m).look (kx, ky) HK.out; rw [HV.out] at q; exact q); go_simp; first | done | rfl | (simp; done) | trace_state)
  simp only [Act.put, A1, A2, A3, A4, A5, A6]
  refine wpAnyX_take (i := 6) (oi := _) (v := ?_) rfl (by kernel_rfl) (by kernel_rfl) (by kernel_rfl) (by kernel_rfl) (by kernel_rfl) (fun _ _ _ h => h) (Or.inl ⟨by rfl, ?_⟩) (by assumption) ?_
  rotate_left
  · (intro w hSw; go_simp; first | done | (with_reducible rfl))
  simp only [Act.put, A1, A2, A3, A4, A5, A6]
  refine wpAnyX_one (i := 7) (by kernel_rfl) rfl (fun K hK => ?_)
  go_simp
  refine (HD.out w0 _ (boxA kb [iv kx, iv ky] 138 :: boxA gb [iv sd, va, mi, .map (some mc)] 103 :: mapA cellsM mc mm f :: l) (Sep.front [_, _, _] HB.out)).mono ?_
  rintro e wg ⟨rfl, S9⟩
  have S9 : Sep w0 wg ([boxA kb [iv kx, iv ky] 138, boxA gb [iv sd, va, mi, .map (some mc)] 103, mapA cellsM mc mm f] ++ (Y ++ l)) := Sep.front Y (B := [_, _, _]) S9
  refine hK.out _ _ S9.left (fun hHeld => ?_)
  have HS := Keep.mk S9
  clear hK K S9 HB
  refine wpAnyX_one (i := 8) (by kernel_rfl) rfl (fun K hK => ?_)
  go_simp
  refine hK.out _ _ hHeld (fun hHeld => ?_)
  clear hK K
  refine wpAnyX_done (by kernel_rfl) ?_ _
  go_wp2_with fail
  replace HS := Keep.mk (HS.out.grown (gr_drew _ none))
  refine region_X (S := fun w' => Sep w0 w' [boxA kb [iv kx, iv ky] 138, boxA gb [iv sd, va, mi, .map (some mc)] 103]) [] (by kernel_rfl) (HS.out.left [_, _]) (fun hHeld => ?_)
  obtain ⟨W5, hW5⟩ : ∃ W_, wg.drew = W_ := ⟨_, rfl⟩
  rw [hW5] at HS hHeld ⊢
  clear hW5
  refine wpAnyX_take (i := 0) (oi := _) (v := ?_) rfl (by kernel_rfl) (by kernel_rfl) (by kernel_rfl) (by kernel_rfl) (by kernel_rfl) (fun _ _ _ h => h) (Or.inl ⟨by rfl, ?_⟩) (by assumption) ?_
  rotate_left
  · (intro w hSw; go_simp; first | done | (with_reducible rfl))
  simp only [Act.put, A1, A3, A4, A5, A6]
  refine wpAnyX_take (i := 1) (oi := _) (v := ?_) rfl (by kernel_rfl) (by kernel_rfl) (by kernel_rfl) (by kernel_rfl) (by kernel_rfl) (fun _ _ _ h => h) (Or.inl ⟨by rfl, ?_⟩) (by assumption) ?_
  rotate_left
  · (intro w hSw; go_simp; first | done | (with_reducible rfl))
  simp only [Act.put, A1, A2, A3, A4, A5, A6]
  refine wpAnyX_take (i := 2) (oi := _) (v := ?_) rfl (by kernel_rfl) (by kernel_rfl) (by kernel_rfl) (by kernel_rfl) (by kernel_rfl) (fun _ _ _ h => h) (Or.inl ⟨by rfl, ?_⟩) (by assumption) ?_
  rotate_left
  · (intro w hSw; go_simp; first | done | (with_reducible rfl))
  simp only [Act.put, A1, A2, A3, A4, A5, A6]
  refine wpAnyX_take (i := 3) (oi := _) (v := ?_) rfl (by kernel_rfl) (by kernel_rfl) (by kernel_rfl) (by kernel_rfl) (by kernel_rfl) (fun _ _ _ h => h) (Or.inl ⟨by rfl, ?_⟩) (by assumption) ?_
  rotate_left
  · (intro w hSw; have q3 := (hSw.boxGet k1m).cellv 3 _ rfl; go_simp; first | done | (with_reducible rfl))
  simp only [Act.put, A1, A2, A3, A4, A5, A6]
  refine wpAnyX_take (i := 4) (oi := _) (v := .agg #[iv kx, iv ky]) rfl (by kernel_rfl) (by kernel_rfl) (by kernel_rfl) (by kernel_rfl) (by kernel_rfl) (fun _ _ _ h => h) (Or.inl ⟨by rfl, ?_⟩) (by assumption) ?_
  · (intro w hSw; have q0 := (hSw.boxGet k0m).cellv 0 _ rfl; have q1 := (hSw.boxGet k0m).cellv 1 _ rfl; go_simp; first | done | rfl | (simp; done) | trace_state)
  simp only [Act.put, A1, A2, A3, A4, A5, A6]
  refine wpAnyX_take (i := 5) (oi := _) (v := ?_) rfl (by kernel_rfl) (by kernel_rfl) (by kernel_rfl) (by kernel_rfl) (by kernel_rfl) (fun _ _ _ h => h) (Or.inl ⟨by rfl, ?_⟩) (by assumption) ?_
  rotate_left
  · (intro w hSw; go_simp; first | done | (with_reducible rfl))
  simp only [Act.put, A1, A2, A3, A4, A5, A6]
  refine wpAnyX_one (i := 6) (by kernel_rfl) rfl (fun K hK => ?_)
  obtain ⟨W9, r9, m9, G9, _⟩ := (HS.out.mapGet k2m).put (kx, ky) HK.out (g + 1, m, c) HM.out
  have r9 : (Instr.mapUpdate 100 (.map (some mc)) (.agg #[iv kx, iv ky]) (sl g m c)).run Tryz.prog W5 = .ok () W9 := r9
  rw [HM2.out] at m9
  have S9 := ((fr1 [_, _] HS.out).mapTo m9 G9)
  have HF := Keep.mk S9
  go_simp
  refine hK.out _ _ ((fr1 [_, _] HS.out).mapTo m9 G9).tail.left (fun hHeld => ?_)
  clear hK K r9 hHeld S9 m9 G9 HS
  refine wpAnyX_done (by kernel_rfl) ?_ _
  go_wp2_with fail
  go_end0
  exact ⟨rfl, by have := (fr1 [_] HF.out).tail; exact bk1 [_] this⟩

set_option maxRecDepth 100000 in
set_option maxHeartbeats 8000000 in
theorem leave_none (w0 W : World) (l X Y : List As) (gb mc mm tb g m c : Nat) (sd x y : Int) (va mi v a0 a3 a4 : Value) (f : Int × Int → Option Sl) (hs : 1 ≤ sd ∧ sd ≤ 1099511627776) (hx : I64 x) (hy : I64 y) (hv : cellsM.ev ((f (x / sd, y / sd)).getD cellsM.z) = v) (hm0 : m = 0) (hmm : mm < 9223372036854775807) (m2 : Nat) (hm2 : (if (f (x / sd, y / sd)).isSome then mm - 1 else mm) = m2)
    (hD : ∀ (w0 W : World) (l : List As), Sep w0 W (X ++ l) → Calls Tryz.prog 86 #[v, iv 1, pt tb] W fun e W' => e = .returned (sl g m c) ∧ Sep w0 W' (Y ++ l)) (hX : boxA tb [a0, iv x, iv y, a3, a4] 122 ∈ X)
    (h : Sep w0 W (boxA gb [iv sd, va, mi, .map (some mc)] 103 :: mapA cellsM mc mm f :: (X ++ l))) :
    Calls Tryz.prog 75 #[pt gb, pt tb] W fun e W' => e = .returned (.tuple #[]) ∧ Sep w0 W' (boxA gb [iv sd, va, mi, .map (some mc)] 103 :: mapA cellsM mc m2 (upd f (x / sd, y / sd) none) :: (Y ++ l)) := by
  have HC := Keep.mk (cellOf_c W gb sd x y _ hs hx hy (h.boxGet k0m))
  have HK : Keep (I64p (x / sd, y / sd)) := ⟨div_I64 sd x hs.1 hx, div_I64 sd y hs.1 hy⟩
  have HV := Keep.mk hv
  have HM := Keep.mk hmm
  have HM2 := Keep.mk hm2
  have HB := Keep.mk h
  have HD := Keep.mk hD
  have hX2 : boxA tb [a0, iv x, iv y, a3, a4] 122 ∈ boxA gb [iv sd, va, mi, .map (some mc)] 103 :: mapA cellsM mc mm f :: (X ++ l) := List.mem_cons_of_mem _ (List.mem_cons_of_mem _ (List.mem_append_left _ hX))
  have q1 := (h.boxGet hX2).cellv 1 _ rfl
  have q2 := (h.boxGet hX2).cellv 2 _ rfl
  clear h hmm hs hx hy hv hm2 hX hX2 hD
  generalize x / sd = kx at *
  generalize y / sd = ky at *
  subst hm0
  have d0 : True := trivial
  go_enter Tryz.func75, Tryz.ntmps75
  go_wp2_with fail
  refine HC.out.mono ?_
  rintro e w1 ⟨rfl, g1⟩
  have S1 := (HB.out.grown g1).newBox #[iv kx, iv ky] 138
  obtain ⟨W2, hW2⟩ : ∃ W2, w1.alloc (.cells #[iv kx, iv ky] 138) = W2 := ⟨_, rfl⟩
  obtain ⟨kb, hkb⟩ : ∃ b, w1.heap.size = b := ⟨_, rfl⟩
  rw [hW2, hkb] at S1
  have HB : Keep (Sep w0 W2 (boxA kb [iv kx, iv ky] 138 :: boxA gb [iv sd, va, mi, .map (some mc)] 103 :: mapA cellsM mc mm f :: (X ++ l))) := ⟨S1⟩
  clear S1 g1 HC q1 q2
  go_wp2_with fail
  clear hW2 hkb
  replace HB := Keep.mk (HB.out.grown (gr_drew _ none))
  refine region_X (S := fun w' => Sep w0 w' [boxA kb [iv kx, iv ky] 138, boxA gb [iv sd, va, mi, .map (some mc)] 103, mapA cellsM mc mm f]) [] (by kernel_rfl) (HB.out.left [_, _, _]) (fun hHeld => ?_)
  obtain ⟨W0, hW0⟩ : ∃ W_, W2.drew = W_ := ⟨_, rfl⟩
  rw [hW0] at HB hHeld ⊢
  clear hW0
  refine wpAnyX_take (i := 0) (oi := _) (v := ?_) rfl (by kernel_rfl) (by kernel_rfl) (by kernel_rfl) (by kernel_rfl) (by kernel_rfl) (fun _ _ _ h => h) (Or.inl ⟨by rfl, ?_⟩) (by assumption) ?_
  rotate_left
  · (intro w hSw; go_simp; first | done | (with_reducible rfl))
  simp only [Act.put, A1, A3, A4, A5, A6]
  refine wpAnyX_take (i := 1) (oi := _) (v := ?_) rfl (by kernel_rfl) (by kernel_rfl) (by kernel_rfl) (by kernel_rfl) (by kernel_rfl) (fun _ _ _ h => h) (Or.inl ⟨by rfl, ?_⟩) (by assumption) ?_
  rotate_left
  · (intro w hSw; go_simp; first | done | (with_reducible rfl))
  simp only [Act.put, A1, A2, A3, A4, A5, A6]
  refine wpAnyX_take (i := 2) (oi := _) (v := ?_) rfl (by kernel_rfl) (by kernel_rfl) (by kernel_rfl) (by kernel_rfl) (by kernel_rfl) (fun _ _ _ h => h) (Or.inl ⟨by rfl, ?_⟩) (by assumption) ?_
  rotate_left
  · (intro w hSw; go_simp; first | done | (with_reducible rfl))
  simp only [Act.put, A1, A2, A3, A4, A5, A6]
  refine wpAnyX_take (i := 3) (oi := _) (v := ?_) rfl (by kernel_rfl) (by kernel_rfl) (by kernel_rfl) (by kernel_rfl) (by kernel_rfl) (fun _ _ _ h => h) (Or.inl ⟨by rfl, ?_⟩) (by assumption) ?_
  rotate_left
  · (intro w hSw; have q3 := (hSw.boxGet k1m).cellv 3 _ rfl; go_simp; first | done | (with_reducible rfl))
  simp only [Act.put, A1, A2, A3, A4, A5, A6]
  refine wpAnyX_take (i := 4) (oi := _) (v := .agg #[iv kx, iv ky]) rfl (by kernel_rfl) (by kernel_rfl) (by kernel_rfl) (by kernel_rfl) (by kernel_rfl) (fun _ _ _ h => h) (Or.inl ⟨by rfl, ?_⟩) (by assumption) ?_
  · (intro w hSw; have q0 := (hSw.boxGet k0m).cellv 0 _ rfl; have q1 := (hSw.boxGet k0m).cellv 1 _ rfl; go_simp; first | done | rfl | (simp; done) | trace_state)
  simp only [Act.put, A1, A2, A3, A4, A5, A6]
  refine wpAnyX_take (i := 5) (oi := _) (v := v) rfl (by kernel_rfl) (by kernel_rfl) (by kernel_rfl) (by kernel_rfl) (by kernel_rfl) (fun _ _ _ h => h) (Or.inl ⟨by rfl, ?_⟩) (by assumption) ?_
  · (intro w hSw; have ql : (Instr.lookup 100 (.map (some mc)) (.agg #[iv kx, iv ky]) false).run Tryz.prog w = .ok v w := (by have q := (hSw.mapGet k2m).look (kx, ky) HK.out; rw [HV.out] at q; exact q); go_simp; first | done | rfl | (simp; done) | trace_state)
  simp only [Act.put, A1, A2, A3, A4, A5, A6]
  refine wpAnyX_take (i := 6) (oi := _) (v := ?_) rfl (by kernel_rfl) (by kernel_rfl) (by kernel_rfl) (by kernel_rfl) (by kernel_rfl) (fun _ _ _ h => h) (Or.inl ⟨by rfl, ?_⟩) (by assumption) ?_
  rotate_left
  · (intro w hSw; go_simp; first | done | (with_reducible rfl))
  simp only [Act.put, A1, A2, A3, A4, A5, A6]
  refine wpAnyX_one (i := 7) (by kernel_rfl) rfl (fun K hK => ?_)
  go_simp
  refine (HD.out w0 _ (boxA kb [iv kx, iv ky] 138 :: boxA gb [iv sd, va, mi, .map (some mc)] 103 :: mapA cellsM mc mm f :: l) (Sep.front [_, _, _] HB.out)).mono ?_
  rintro e wg ⟨rfl, S9⟩
  have S9 : Sep w0 wg ([boxA kb [iv kx, iv ky] 138, boxA gb [iv sd, va, mi, .map (some mc)] 103, mapA cellsM mc mm f] ++ (Y ++ l)) := Sep.front Y (B := [_, _, _]) S9
  refine hK.out _ _ S9.left (fun hHeld => ?_)
  have HS := Keep.mk S9
  clear hK K S9 HB
  refine wpAnyX_one (i := 8) (by kernel_rfl) rfl (fun K hK => ?_)
  go_simp
  refine hK.out _ _ hHeld (fun hHeld => ?_)
  clear hK K
  refine wpAnyX_done (by kernel_rfl) ?_ _
  go_wp2_with fail
  replace HS := Keep.mk (HS.out.grown (gr_drew _ none))
  refine region_X (S := fun w' => Sep w0 w' [boxA kb [iv kx, iv ky] 138, boxA gb [iv sd, va, mi, .map (some mc)] 103]) [] (by kernel_rfl) (HS.out.left [_, _]) (fun hHeld => ?_)
  obtain ⟨W5, hW5⟩ : ∃ W_, wg.drew = W_ := ⟨_, rfl⟩
  rw [hW5] at HS hHeld ⊢
  clear hW5
  refine wpAnyX_take (i := 0) (oi := _) (v := ?_) rfl (by kernel_rfl) (by kernel_rfl) (by kernel_rfl) (by kernel_rfl) (by kernel_rfl) (fun _ _ _ h => h) (Or.inl ⟨by rfl, ?_⟩) (by assumption) ?_
  rotate_left
  · (intro w hSw; go_simp; first | done | (with_reducible rfl))
  simp only [Act.put, A1, A3, A4, A5, A6]
  refine wpAnyX_take (i := 1) (oi := _) (v := ?_) rfl (by kernel_rfl) (by kernel_rfl) (by kernel_rfl) (by kernel_rfl) (by kernel_rfl) (fun _ _ _ h => h) (Or.inl ⟨by rfl, ?_⟩) (by assumption) ?_
  rotate_left
  · (intro w hSw; go_simp; first | done | (with_reducible rfl))
  simp only [Act.put, A1, A2, A3, A4, A5, A6]
  refine wpAnyX_take (i := 2) (oi := _) (v := ?_) rfl (by kernel_rfl) (by kernel_rfl) (by kernel_rfl) (by kernel_rfl) (by kernel_rfl) (fun _ _ _ h => h) (Or.inl ⟨by rfl, ?_⟩) (by assumption) ?_
  rotate_left
  · (intro w hSw; go_simp; first | done | (with_reducible rfl))
  simp only [Act.put, A1, A2, A3, A4, A5, A6]
  refine wpAnyX_take (i := 3) (oi := _) (v := ?_) rfl (by kernel_rfl) (by kernel_rfl) (by kernel_rfl) (by kernel_rfl) (by kernel_rfl) (fun _ _ _ h => h) (Or.inl ⟨by rfl, ?_⟩) (by assumption) ?_
  rotate_left
  · (intro w hSw; have q3 := (hSw.boxGet k1m).cellv 3 _ rfl; go_simp; first | done | (with_reducible rfl))
  simp only [Act.put, A1, A2, A3, A4, A5, A6]
  refine wpAnyX_take (i := 4) (oi := _) (v := .agg #[iv kx, iv ky]) rfl (by kernel_rfl) (by kernel_rfl) (by kernel_rfl) (by kernel_rfl) (by kernel_rfl) (fun _ _ _ h => h) (Or.inl ⟨by rfl, ?_⟩) (by assumption) ?_
  · (intro w hSw; have q0 := (hSw.boxGet k0m).cellv 0 _ rfl; have q1 := (hSw.boxGet k0m).cellv 1 _ rfl; go_simp; first | done | rfl | (simp; done) | trace_state)
  simp only [Act.put, A1, A2, A3, A4, A5, A6]
  refine wpAnyX_one (i := 5) (by kernel_rfl) rfl (fun K hK => ?_)
  obtain ⟨W9, r9, m9, G9, _⟩ := (HS.out.mapGet k2m).drop (kx, ky) HK.out 0
  have r9 : (Builtin.delete_ #[100, 138] 0 #[.map (some mc), .agg #[iv kx, iv ky]]).run Tryz.prog W5 = .ok (.tuple #[]) W9 := r9
  rw [HM2.out] at m9
  have S9 := ((fr1 [_, _] HS.out).mapTo m9 G9)
  have HF := Keep.mk S9
  go_simp
  refine hK.out _ _ ((fr1 [_, _] HS.out).mapTo m9 G9).tail.left (fun hHeld => ?_)
  clear hK K r9 hHeld S9 m9 G9 HS
  refine wpAnyX_done (by kernel_rfl) ?_ _
  go_wp2_with fail
  go_end0
  exact ⟨rfl, by have := (fr1 [_] HF.out).tail; exact bk1 [_] this⟩
end Go.Proofs.YtgedlabmndlooaaGreat
