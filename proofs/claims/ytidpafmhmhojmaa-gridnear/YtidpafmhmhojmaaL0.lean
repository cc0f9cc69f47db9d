/- the laws' ints, side. -/
import Derived.Test.YtidpafmhmhojmaaH9
namespace Go.Proofs.Ytidpafmhmhojmaa
open Go Go.RowKit

theorem own_rd {w0 W : World} {l : List As} {g n c : Nat} {L : List Int} (h : Sep w0 W l) (hm : rowV 3 1 (sl g n c) n (L.map iv) ∈ l) (_ : L.length = n) : ∀ (k : Nat) (z : Int), L[k]? = some z → W.cell? ⟨g, k, none⟩ = some (iv z) := by
  intro k z hz
  have hk := (List.getElem?_eq_some_iff.1 hz).1
  obtain ⟨g', c', e, q⟩ := own_any (h.rowGet hm) (by omega)
  injection e with e1 e2 e3
  cases e1
  exact (q k (iv z) (by rw [List.getElem?_map, hz]; rfl)).1
set_option maxRecDepth 100000 in
set_option maxHeartbeats 4000000 in
theorem ints_c (w0 W : World) (l : List As) (va vb : Value) (L : List Int) (hn : L.length < 1000000000000000000) (h : Sep w0 W l) (h1 : nums va L ∈ l) (h2 : nums vb L ∈ l) :
    Calls Try.prog 16 #[va, vb] W fun e W' => e = .returned (.bool true) ∧ W.grownBy W' none := by
  obtain ⟨a1, c1, rfl⟩ := own_slice (h.rowGet h1)
  obtain ⟨a2, c2, rfl⟩ := own_slice (h.rowGet h2)
  obtain ⟨n, hnn⟩ : ∃ n, L.length = n := ⟨_, rfl⟩
  have HL := Keep.mk hnn
  have HH := Keep.mk h
  have H1 : Keep (rowV 3 1 (.slice a1 n c1) n (L.map iv) ∈ l) := ⟨by rw [← hnn]; exact h1⟩
  have H2 : Keep (rowV 3 1 (.slice a2 n c2) n (L.map iv) ∈ l) := ⟨by rw [← hnn]; exact h2⟩
  rw [hnn]
  rw [hnn] at hn
  clear h h1 h2 hnn
  go_enter Try.func16, Try.ntmps16
  go_wp2_with fail
  go_loopw [5] (fun u wr => ∃ i : Nat, i ≤ n ∧ u = iv i ∧ Keep (W.grownBy wr none)) (fun u _ => (n - intOf u).toNat)
  case atStart => exact ⟨0, by omega, rfl, ⟨World.grownBy.refl _ _⟩⟩
  case round =>
    obtain ⟨i, hi, rfl, hg⟩ := hrel
    by_cases hlt : i < n
    · obtain ⟨z, hz⟩ : ∃ z, L[i]? = some z := ⟨_, List.getElem?_eq_getElem (by rw [HL.out]; exact hlt)⟩
      have HZ := Keep.mk hz
      have HB := Keep.mk (HH.out.grown hg.out)
      obtain ⟨g1, c1', e1, _⟩ := own_any (HB.out.rowGet H1.out) (by omega)
      injection e1 with e1 _ e3
      subst e1
      obtain ⟨g2, c2', e2, _⟩ := own_any (HB.out.rowGet H2.out) (by omega)
      injection e2 with e2 _ e4
      subst e2
      have m1 : rowV 3 1 (sl g1 n c1) n (L.map iv) ∈ l := H1.out
      have m2 : rowV 3 1 (sl g2 n c2) n (L.map iv) ∈ l := H2.out
      have hi0 : (i : Int) < (n : Int) := by omega
      have hii : IntKind.i64.wrap ((i : Int) + 1) = ((i + 1 : Nat) : Int) := by rw [IntKind.wrap_i64]; omega
      have dz : (z == z) = true := by simp
      clear hz e3 e4
      go_wp2_with fail
      have HGD : Keep (wr.grownBy wr.drew none) := ⟨gr_drew _ _⟩
      refine region_X (S := fun w' => Sep w0 w' l) [] (by kernel_rfl) (HB.out.grown (gr_drew _ _)) (fun hHeld => ?_)
      replace HB := Keep.mk hHeld
      obtain ⟨W0, hW0⟩ : ∃ W_, wr.drew = W_ := ⟨_, rfl⟩
      rw [hW0] at HB hHeld HGD ⊢
      clear hW0
      refine wpAnyX_take (i := 0) (oi := _) (v := ?_) rfl (by kernel_rfl) (by kernel_rfl) (by kernel_rfl) (by kernel_rfl) (by kernel_rfl) (fun _ _ _ h => h) (Or.inl ⟨by rfl, ?_⟩) (by assumption) ?_
      rotate_left
      · (intro w hSw; go_simp; first | done | (with_reducible rfl))
      simp only [Act.put, List.getElem_toArray, List.getElem_cons_zero, List.setIfInBounds_toArray, List.set_cons_zero, List.set_cons_succ]
      refine wpAnyX_take (i := 1) (oi := _) (v := ?_) rfl (by kernel_rfl) (by kernel_rfl) (by kernel_rfl) (by kernel_rfl) (by kernel_rfl) (fun _ _ _ h => h) (Or.inl ⟨by rfl, ?_⟩) (by assumption) ?_
      rotate_left
      · (intro w hSw; go_simp; first | done | (with_reducible rfl))
      simp only [Act.put, List.getElem_toArray, List.getElem_cons_succ, List.getElem_cons_zero, List.setIfInBounds_toArray, List.set_cons_zero, List.set_cons_succ]
      refine wpAnyX_take (i := 2) (oi := _) (v := ?_) rfl (by kernel_rfl) (by kernel_rfl) (by kernel_rfl) (by kernel_rfl) (by kernel_rfl) (fun _ _ _ h => h) (Or.inl ⟨by rfl, ?_⟩) (by assumption) ?_
      rotate_left
      · (intro w hSw; go_simp; first | done | (with_reducible rfl))
      simp only [Act.put, List.getElem_toArray, List.getElem_cons_succ, List.getElem_cons_zero, List.setIfInBounds_toArray, List.set_cons_zero, List.set_cons_succ]
      refine wpAnyX_take (i := 3) (oi := _) (v := ?_) rfl (by kernel_rfl) (by kernel_rfl) (by kernel_rfl) (by kernel_rfl) (by kernel_rfl) (fun _ _ _ h => h) (Or.inl ⟨by rfl, ?_⟩) (by assumption) ?_
      rotate_left
      · (intro w hSw; have q0 := ((own_rd hSw m1 HL.out) i z HZ.out); go_simp; first | done | (with_reducible rfl))
      simp only [Act.put, List.getElem_toArray, List.getElem_cons_succ, List.getElem_cons_zero, List.setIfInBounds_toArray, List.set_cons_zero, List.set_cons_succ]
      refine wpAnyX_take (i := 4) (oi := _) (v := ?_) rfl (by kernel_rfl) (by kernel_rfl) (by kernel_rfl) (by kernel_rfl) (by kernel_rfl) (fun _ _ _ h => h) (Or.inl ⟨by rfl, ?_⟩) (by assumption) ?_
      rotate_left
      · (intro w hSw; go_simp; first | done | (with_reducible rfl))
      simp only [Act.put, List.getElem_toArray, List.getElem_cons_succ, List.getElem_cons_zero, List.setIfInBounds_toArray, List.set_cons_zero, List.set_cons_succ]
      refine wpAnyX_take (i := 5) (oi := _) (v := ?_) rfl (by kernel_rfl) (by kernel_rfl) (by kernel_rfl) (by kernel_rfl) (by kernel_rfl) (fun _ _ _ h => h) (Or.inl ⟨by rfl, ?_⟩) (by assumption) ?_
      rotate_left
      · (intro w hSw; go_simp; first | done | (with_reducible rfl))
      simp only [Act.put, List.getElem_toArray, List.getElem_cons_succ, List.getElem_cons_zero, List.setIfInBounds_toArray, List.set_cons_zero, List.set_cons_succ]
      refine wpAnyX_take (i := 6) (oi := _) (v := ?_) rfl (by kernel_rfl) (by kernel_rfl) (by kernel_rfl) (by kernel_rfl) (by kernel_rfl) (fun _ _ _ h => h) (Or.inl ⟨by rfl, ?_⟩) (by assumption) ?_
      rotate_left
      · (intro w hSw; go_simp; first | done | (with_reducible rfl))
      simp only [Act.put, List.getElem_toArray, List.getElem_cons_succ, List.getElem_cons_zero, List.setIfInBounds_toArray, List.set_cons_zero, List.set_cons_succ]
      refine wpAnyX_take (i := 7) (oi := _) (v := ?_) rfl (by kernel_rfl) (by kernel_rfl) (by kernel_rfl) (by kernel_rfl) (by kernel_rfl) (fun _ _ _ h => h) (Or.inl ⟨by rfl, ?_⟩) (by assumption) ?_
      rotate_left
      · (intro w hSw; have q0 := ((own_rd hSw m2 HL.out) i z HZ.out); go_simp; first | done | (with_reducible rfl))
      simp only [Act.put, List.getElem_toArray, List.getElem_cons_succ, List.getElem_cons_zero, List.setIfInBounds_toArray, List.set_cons_zero, List.set_cons_succ]
      refine wpAnyX_take (i := 8) (oi := _) (v := ?_) rfl (by kernel_rfl) (by kernel_rfl) (by kernel_rfl) (by kernel_rfl) (by kernel_rfl) (fun _ _ _ h => h) (Or.inl ⟨by rfl, ?_⟩) (by assumption) ?_
      rotate_left
      · (intro w hSw; go_simp; first | done | (with_reducible rfl))
      simp only [Act.put, List.getElem_toArray, List.getElem_cons_succ, List.getElem_cons_zero, List.setIfInBounds_toArray, List.set_cons_zero, List.set_cons_succ]
      refine wpAnyX_done (by kernel_rfl) ?_ _
      have HG : Keep (W.grownBy W0 none) := ⟨hg.out.trans HGD.out⟩
      clear hHeld m1 m2 HGD
      go_wp2_with fail
      go_roundw
      case rel => exact ⟨i + 1, by omega, rfl, HG⟩
      case measure => simp [intOf]; omega
    · go_wp2_with fail
      go_ret
      exact ⟨rfl, hg.out⟩
/-- a side that may be one -/
def sdZ (n : Int) : Int := n % 1099511627776 + 1
theorem sdZ_ok (n : Int) : 1 ≤ sdZ n ∧ sdZ n ≤ 1099511627776 := by unfold sdZ; omega
set_option maxHeartbeats 2000000 in
theorem side_c (n : Int) (w : World) : Calls Try.prog 9 #[iv n] w fun e w' => e = .returned (iv (sdZ n)) ∧ w' = w := by
  obtain ⟨k, hk⟩ : ∃ k, n.tmod 1099511627776 = k := ⟨_, rfl⟩
  have hk2 : k = n % 1099511627776 ∨ (k = n % 1099511627776 - 1099511627776 ∧ k < 0) := by
    have h1 := Int.tmod_eq_emod (a := n) (b := 1099511627776)
    rw [hk] at h1
    rw [h1]
    split <;> omega
  by_cases hc : k < 0
  · have e1 : IntKind.i64.wrap (k + 1099511627776) = n % 1099511627776 := by rw [IntKind.wrap_i64]; omega
    have e2 : IntKind.i64.wrap (n % 1099511627776 + 1) = sdZ n := by unfold sdZ; rw [IntKind.wrap_i64]; omega
    generalize sdZ n = v at *
    clear hk2
    generalize n % 1099511627776 = m at *
    go_enter Try.func9, Try.ntmps9
    go_wp2_with fail
    go_ret
    exact ⟨rfl, rfl⟩
  · have e2 : IntKind.i64.wrap (k + 1) = sdZ n := by unfold sdZ; rw [IntKind.wrap_i64]; omega
    generalize sdZ n = v at *
    clear hk2
    go_enter Try.func9, Try.ntmps9
    go_wp2_with fail
    go_ret
    exact ⟨rfl, rfl⟩
end Go.Proofs.Ytidpafmhmhojmaa
