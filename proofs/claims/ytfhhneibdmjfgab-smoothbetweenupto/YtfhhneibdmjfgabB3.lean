/- same: two lists of places -/
import Derived.Test.YtfhhneibdmjfgabM3
namespace Go.Proofs.Ytfhhneibdmjfgab
open Go Go.RowKit Go.Maps Sm
set_option maxRecDepth 100000
attribute [local go_sem] run_store_fl
/-- a list of places as it is read -/
structure RdP (W : World) (v : Value) (P : List Pt) : Prop where
  o : ∃ a c, v = .slice a P.length c ∧ (0 < P.length → ∃ g, a = some ⟨g, 0, none⟩ ∧ ∀ j p, P[j]? = some p → W.cell? ⟨g, j * 3, none⟩ = some (fv p.x) ∧ W.cell? ⟨g, j * 3 + 1, none⟩ = some (fv p.y) ∧ W.cell? ⟨g, j * 3 + 2, none⟩ = some (fv p.a))
theorem RdP.kept {W W' : World} {v : Value} {P : List Pt} (h : RdP W v P) (g : W.grownBy W' none) : RdP W' v P := by
  obtain ⟨a, c, e, q⟩ := h.o
  exact ⟨a, c, e, fun hn => by
    obtain ⟨b, e2, r⟩ := q hn
    exact ⟨b, e2, fun j p hp => ⟨cell_kept (r j p hp).1 g, cell_kept (r j p hp).2.1 g, cell_kept (r j p hp).2.2 g⟩⟩⟩
theorem rdP_row {W : World} {v : Value} {P : List Pt} (h : W.ownsRow 0 42 3 v P.length (pls P)) : RdP W v P := by
  obtain ⟨a, c, rfl⟩ := own_slice h
  refine ⟨a, c, rfl, fun hn => ?_⟩
  obtain ⟨g, c', e, _⟩ := own_any h hn
  injection e with e1 _ _
  subst e1
  exact ⟨g, rfl, fun j p hp => row_cells h hn hp⟩
theorem vP_get {P Q : List Pt} (h : P.map vP = Q.map vP) {j : Nat} {p q : Pt} (hp : P[j]? = some p) (hq : Q[j]? = some q) : vP p = vP q := by
  have h1 : (P.map vP)[j]? = some (vP p) := by rw [List.getElem?_map, hp]; rfl
  have h2 : (Q.map vP)[j]? = some (vP q) := by rw [List.getElem?_map, hq]; rfl
  rw [h, h2] at h1
  exact (Option.some.inj h1).symm
set_option maxHeartbeats 8000000 in
theorem same_c (W : World) (v u : Value) (P Q : List Pt) (hv : RdP W v P) (hu : RdP W u Q) (h : P.map vP = Q.map vP) (hn : P.length ≤ 281474976710656) :
    Calls Try.prog 6 #[v, u] W fun e W' => e = .returned (.bool true) ∧ W.grownBy W' none := by
  have hlen : P.length = Q.length := by
    have := congrArg List.length h
    rwa [List.length_map, List.length_map] at this
  obtain ⟨a, c, rfl, hqa⟩ := hv.o
  obtain ⟨b, d, rfl, hqb⟩ := hu.o
  obtain ⟨n, hP⟩ : ∃ n, P.length = n := ⟨_, rfl⟩
  have hQ : Q.length = n := by rw [← hlen]; exact hP
  rw [hP] at hqa hn ⊢
  rw [hQ] at hqb ⊢
  have HA := Keep.mk hqa
  have HB := Keep.mk hqb
  have HN := Keep.mk (And.intro hP (And.intro hQ h))
  clear hlen hqa hqb hP hQ h hv hu
  go_enter Try.func6, Try.ntmps6
  go_wp2_with fail
  go_loopw [5] (fun u wr => ∃ i : Nat, i ≤ n ∧ u = iv i ∧ Keep (W.grownBy wr none)) (fun u _ => (n - intOf u).toNat)
  case atStart => exact ⟨0, by omega, rfl, ⟨World.grownBy.refl _ _⟩⟩
  case round =>
    obtain ⟨i, hi, rfl, HG⟩ := hrel
    by_cases hlt : i < n
    · obtain ⟨p, hp⟩ : ∃ p, P[i]? = some p := ⟨_, List.getElem?_eq_getElem (by rw [HN.out.1]; exact hlt)⟩
      obtain ⟨q, hq⟩ : ∃ q, Q[i]? = some q := ⟨_, List.getElem?_eq_getElem (by rw [HN.out.2.1]; exact hlt)⟩
      obtain ⟨g1, rfl, hc1⟩ := HA.out (by omega)
      obtain ⟨g2, rfl, hc2⟩ := HB.out (by omega)
      have HC1 : Keep (∀ w, wr.grownBy w none → w.cell? ⟨g1, i * 3, none⟩ = some (fv p.x) ∧ w.cell? ⟨g1, i * 3 + 1, none⟩ = some (fv p.y) ∧ w.cell? ⟨g1, i * 3 + 2, none⟩ = some (fv p.a)) := ⟨fun w h => by
        have z := hc1 i p hp
        exact ⟨cell_kept z.1 (HG.out.trans h), cell_kept z.2.1 (HG.out.trans h), cell_kept z.2.2 (HG.out.trans h)⟩⟩
      have HC2 : Keep (∀ w, wr.grownBy w none → w.cell? ⟨g2, i * 3, none⟩ = some (fv q.x) ∧ w.cell? ⟨g2, i * 3 + 1, none⟩ = some (fv q.y) ∧ w.cell? ⟨g2, i * 3 + 2, none⟩ = some (fv q.a)) := ⟨fun w h => by
        have z := hc2 i q hq
        exact ⟨cell_kept z.1 (HG.out.trans h), cell_kept z.2.1 (HG.out.trans h), cell_kept z.2.2 (HG.out.trans h)⟩⟩
      have HE := Keep.mk (vP_get HN.out.2.2 hp hq)
      have hi0 : (0 : Int) ≤ (i : Int) := by omega
      have hi1 : (i : Int) < (n : Nat) := by omega
      have hti : ((i : Nat) : Int).toNat = i := by omega
      have hwi : IntKind.i64.wrap ((i : Int) + 1) = ((i + 1 : Nat) : Int) := by rw [wi _ (by omega) (by omega)]; omega
      clear hc1 hc2 hp hq
      go_wp2_with fail
      refine region_R (fun w => wr.grownBy w none) [] [8] (fun i v => if i = 8 then (fun v => v = .bool true) v else False) 0 10 (by kernel_rfl) (by rfl) (gr_drew _ _) (fun hHeld => ?_)
      refine wpR_pure (i := 0) (oi := _) (v := ?_) rfl (by kernel_rfl) (by kernel_rfl) (by kernel_rfl) (by kernel_rfl) (by kernel_rfl) (by kernel_rfl) hHeld (Or.inl ⟨by rfl, ?_⟩) ?_
      rotate_left
      · (intro w hSw; go_simp; first | done | (with_reducible rfl))
      simp only [Act.put, List.getElem_toArray, List.getElem_cons_zero, List.setIfInBounds_toArray, List.set_cons_zero, List.set_cons_succ]
      refine wpR_pure (i := 1) (oi := _) (v := ?_) rfl (by kernel_rfl) (by kernel_rfl) (by kernel_rfl) (by kernel_rfl) (by kernel_rfl) (by kernel_rfl) hHeld (Or.inl ⟨by rfl, ?_⟩) ?_
      rotate_left
      · (intro w hSw; go_simp; first | done | (with_reducible rfl))
      simp only [Act.put, List.getElem_toArray, List.getElem_cons_succ, List.getElem_cons_zero, List.setIfInBounds_toArray, List.set_cons_zero, List.set_cons_succ]
      refine wpR_pure (i := 2) (oi := _) (v := ?_) rfl (by kernel_rfl) (by kernel_rfl) (by kernel_rfl) (by kernel_rfl) (by kernel_rfl) (by kernel_rfl) hHeld (Or.inl ⟨by rfl, ?_⟩) ?_
      rotate_left
      · (intro w hSw; go_simp; first | done | (with_reducible rfl))
      simp only [Act.put, List.getElem_toArray, List.getElem_cons_succ, List.getElem_cons_zero, List.setIfInBounds_toArray, List.set_cons_zero, List.set_cons_succ]
      refine wpR_pure (i := 3) (oi := _) (v := ?_) rfl (by kernel_rfl) (by kernel_rfl) (by kernel_rfl) (by kernel_rfl) (by kernel_rfl) (by kernel_rfl) hHeld (Or.inl ⟨by rfl, ?_⟩) ?_
      rotate_left
      · (intro w hSw; obtain ⟨q0, q1, q2⟩ := HC1.out w hSw; go_simp; first | done | (with_reducible rfl))
      simp only [Act.put, List.getElem_toArray, List.getElem_cons_succ, List.getElem_cons_zero, List.setIfInBounds_toArray, List.set_cons_zero, List.set_cons_succ]
      refine wpR_pure (i := 4) (oi := _) (v := ?_) rfl (by kernel_rfl) (by kernel_rfl) (by kernel_rfl) (by kernel_rfl) (by kernel_rfl) (by kernel_rfl) hHeld (Or.inl ⟨by rfl, ?_⟩) ?_
      rotate_left
      · (intro w hSw; go_simp; first | done | (with_reducible rfl))
      simp only [Act.put, List.getElem_toArray, List.getElem_cons_succ, List.getElem_cons_zero, List.setIfInBounds_toArray, List.set_cons_zero, List.set_cons_succ]
      refine wpR_pure (i := 5) (oi := _) (v := ?_) rfl (by kernel_rfl) (by kernel_rfl) (by kernel_rfl) (by kernel_rfl) (by kernel_rfl) (by kernel_rfl) hHeld (Or.inl ⟨by rfl, ?_⟩) ?_
      rotate_left
      · (intro w hSw; go_simp; first | done | (with_reducible rfl))
      simp only [Act.put, List.getElem_toArray, List.getElem_cons_succ, List.getElem_cons_zero, List.setIfInBounds_toArray, List.set_cons_zero, List.set_cons_succ]
      refine wpR_pure (i := 6) (oi := _) (v := ?_) rfl (by kernel_rfl) (by kernel_rfl) (by kernel_rfl) (by kernel_rfl) (by kernel_rfl) (by kernel_rfl) hHeld (Or.inl ⟨by rfl, ?_⟩) ?_
      rotate_left
      · (intro w hSw; go_simp; first | done | (with_reducible rfl))
      simp only [Act.put, List.getElem_toArray, List.getElem_cons_succ, List.getElem_cons_zero, List.setIfInBounds_toArray, List.set_cons_zero, List.set_cons_succ]
      refine wpR_pure (i := 7) (oi := _) (v := ?_) rfl (by kernel_rfl) (by kernel_rfl) (by kernel_rfl) (by kernel_rfl) (by kernel_rfl) (by kernel_rfl) hHeld (Or.inl ⟨by rfl, ?_⟩) ?_
      rotate_left
      · (intro w hSw; obtain ⟨q0, q1, q2⟩ := HC2.out w hSw; go_simp; first | done | (with_reducible rfl))
      simp only [Act.put, List.getElem_toArray, List.getElem_cons_succ, List.getElem_cons_zero, List.setIfInBounds_toArray, List.set_cons_zero, List.set_cons_succ]
      refine wpR_some (i := 8) (oi := _) rfl (by kernel_rfl) (by kernel_rfl) (by kernel_rfl) (by kernel_rfl) (by kernel_rfl) (by kernel_rfl) hHeld (fun v => v = .bool true) rfl ⟨_, rfl⟩ ⟨by rfl, ?_⟩ ?_
      · refine .inr ⟨13, #[pv p.x p.y p.a, pv q.x q.y q.a], fun w => ?_, fun w hSw => ?_⟩
        · (go_simp; first | done | (with_reducible rfl))
        refine (one_c _ _ (vP p) ⟨_, _, _, rfl, rfl, rfl, rfl⟩ ⟨_, _, _, rfl, by rw [HE.out]; rfl, by rw [HE.out]; rfl, by rw [HE.out]; rfl⟩ w).mono ?_
        rintro e w' ⟨rfl, g⟩
        exact ⟨_, rfl, rfl, World.grownBy.trans hSw g⟩
      rintro v rfl
      simp only [Act.put, List.getElem_toArray, List.getElem_cons_succ, List.getElem_cons_zero, List.setIfInBounds_toArray, List.set_cons_zero, List.set_cons_succ]
      refine wpR_pure (i := 9) (oi := _) (v := ?_) rfl (by kernel_rfl) (by kernel_rfl) (by kernel_rfl) (by kernel_rfl) (by kernel_rfl) (by kernel_rfl) hHeld (Or.inl ⟨by rfl, ?_⟩) ?_
      rotate_left
      · (intro w hSw; go_simp; first | done | (with_reducible rfl))
      simp only [Act.put, List.getElem_toArray, List.getElem_cons_succ, List.getElem_cons_zero, List.setIfInBounds_toArray, List.set_cons_zero, List.set_cons_succ]
      refine wpR_end (by kernel_rfl) (fun w hSw => ?_)
      refine any_done (by kernel_rfl) ?_ _
      have HG2 := Keep.mk (HG.out.trans hSw)
      clear hSw HG hHeld
      go_wp2_with fail
      go_roundw
      case rel => exact ⟨i + 1, by omega, rfl, HG2⟩
      case measure => simp [intOf]; omega
    · have hi1 : ¬ (i : Int) < (n : Nat) := by omega
      go_wp2_with fail
      go_ret
      exact ⟨rfl, HG.out⟩
end Go.Proofs.Ytfhhneibdmjfgab
