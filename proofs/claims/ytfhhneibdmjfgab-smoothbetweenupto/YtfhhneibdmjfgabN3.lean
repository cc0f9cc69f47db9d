/- still -/
import Derived.Test.YtfhhneibdmjfgabN2
namespace Go.Proofs.Ytfhhneibdmjfgab
open Go Go.RowKit Go.Maps Sm
set_option maxRecDepth 100000
attribute [local go_sem] run_store_fl
set_option maxHeartbeats 16000000 in
theorem still_c (W : World) (vx : Value) (tk : Int) (c : Cr) (va : Value) (L : List Sn) (hX : RdS W vx (L ++ [rm])) (hL : RdS W va L) (hn : L.length ≤ 1048576) :
    Calls Try.prog 9 #[vx, .agg (vwA tk c va)] W fun e W' => e = .returned (.bool true) ∧ W.grownBy W' none := by
  obtain ⟨ax, cx, rfl, hqx⟩ := hX.o
  obtain ⟨aa, ca, rfl, hqa⟩ := hL.o
  rw [List.length_append, List.length_singleton] at hqx ⊢
  obtain ⟨n, hnL⟩ : ∃ n, L.length = n := ⟨_, rfl⟩
  have HN := Keep.mk hnL
  rw [hnL] at hn hqx hqa ⊢
  obtain ⟨gx, ox, rfl, hcx⟩ := hqx (by omega)
  have hrm : (L ++ [rm])[n]? = some rm := by rw [← hnL, List.getElem?_append_right (Nat.le_refl _), Nat.sub_self]; rfl
  have HX : Keep (∀ j x, (L ++ [rm])[j]? = some x → W.rangeAt gx (ox + j * 5) (snv x)) := ⟨hcx⟩
  have HA : Keep (0 < n → ∃ g o, aa = some ⟨g, o, none⟩ ∧ ∀ j x, L[j]? = some x → W.rangeAt g (o + j * 5) (snv x)) := ⟨hqa⟩
  have HS := Keep.mk ((Sep.nil W).newBox (vwA tk c (.slice aa n ca)) 29)
  obtain ⟨xb, hxb⟩ : ∃ xb, W.heap.size = xb := ⟨_, rfl⟩
  rw [hxb] at HS
  have l0 := (HS.out.boxGet k0m).cellv 15 _ rfl
  have HR := Keep.mk (sn_cells (range_kept (HX.out n rm hrm) HS.out.1))
  have r0 : (W.alloc (.cells (vwA tk c (.slice aa n ca)) 29)).cell? ⟨gx, ox + n * 5, none⟩ = some (iv (-71)) := HR.out.1
  have hn0 : (0 : Int) ≤ (n : Int) := by omega
  have hn1 : (n : Int) < ((n + 1 : Nat) : Int) := by omega
  have htn : ((n : Nat) : Int).toNat = n := by omega
  have hwn : IntKind.i64.wrap ((n : Int) + 1) = ((n + 1 : Nat) : Int) := by rw [wi _ (by omega) (by omega)]; omega
  clear hcx hqx hqa hnL hrm HR hL hX
  go_enter Try.func9, Try.ntmps9
  go_wp2_with fail
  clear l0 r0
  try rw [hxb]
  clear hxb
  generalize W.alloc (.cells (vwA tk c (.slice aa n ca)) 29) = W1 at HS ⊢
  go_loopw [6] (fun u wr => ∃ i : Nat, i ≤ n ∧ u = iv i ∧ Keep (Sep W wr [boxA xb (vwL tk c (.slice aa n ca)) 29])) (fun u _ => (n - intOf u).toNat)
  case atStart => exact ⟨0, by omega, rfl, HS⟩
  case round =>
    clear HS
    obtain ⟨i, hi, rfl, HS⟩ := hrel
    by_cases hlt : i < n
    · obtain ⟨s, hs⟩ : ∃ s, L[i]? = some s := ⟨_, List.getElem?_eq_getElem (by rw [HN.out]; exact hlt)⟩
      obtain ⟨ga, oa, rfl, hca⟩ := HA.out (by omega)
      have hi0 : (0 : Int) ≤ (i : Int) := by omega
      have hi1 : (i : Int) < (n : Nat) := by omega
      have hi2 : (i : Int) < (n : Int) + 1 := by omega
      have hti : ((i : Nat) : Int).toNat = i := by omega
      have hwi : IntKind.i64.wrap ((i : Int) + 1) = ((i + 1 : Nat) : Int) := by rw [wi _ (by omega) (by omega)]; omega
      have HCX := Keep.mk (fun w (h : wr.grownBy w none) => sn_cells (range_kept (HX.out i s (by rw [List.getElem?_append_left (by rw [HN.out]; exact hlt)]; exact hs)) (HS.out.1.trans h)))
      have HCV := Keep.mk (fun w (h : wr.grownBy w none) => sn_cells (range_kept (hca i s hs) (HS.out.1.trans h)))
      have HVC : Keep (∀ w, wr.grownBy w none → w.cell? ⟨xb, 15, none⟩ = some (.slice (some ⟨ga, oa, none⟩) n ca)) := ⟨fun w h => ((HS.out.grown h).boxGet k0m).cellv 15 _ rfl⟩
      clear hca hs HX HA
      go_wp2_with fail
      refine region_R (fun w => wr.grownBy w none) [] [] (fun i v => False) 0 10 (by kernel_rfl) (by rfl) (gr_drew _ _) (fun hHeld => ?_)
      refine wpR_pure (i := 0) (oi := _) (v := ?_) rfl (by kernel_rfl) (by kernel_rfl) (by kernel_rfl) (by kernel_rfl) (by kernel_rfl) (by kernel_rfl) hHeld (Or.inl ⟨by rfl, ?_⟩) ?_
      rotate_left
      · (intro w hSw; go_simp; first | done | (with_reducible rfl))
      simp only [Act.put, List.getElem_toArray, List.getElem_cons_zero, List.setIfInBounds_toArray, List.set_cons_zero, List.set_cons_succ]
      refine wpR_pure (i := 1) (oi := _) (v := ?_) rfl (by kernel_rfl) (by kernel_rfl) (by kernel_rfl) (by kernel_rfl) (by kernel_rfl) (by kernel_rfl) hHeld (Or.inl ⟨by rfl, ?_⟩) ?_
      rotate_left
      · (intro w hSw; go_simp; first | done | (with_reducible rfl))
      simp only [Act.put, List.getElem_toArray, List.getElem_cons_succ, List.getElem_cons_zero, List.setIfInBounds_toArray, List.set_cons_zero, List.set_cons_succ]
      refine wpR_pure (i := 2) (oi := _) (v := ?_) rfl (by kernel_rfl) (by kernel_rfl) (by kernel_rfl) (by kernel_rfl) (by kernel_rfl) (by kernel_rfl) hHeld (Or.inl ⟨by rfl, ?_⟩) ?_
      rotate_left
      · (intro w hSw; go_simp; first | done | (with_reducible rfl))
      simp only [Act.put, List.getElem_toArray, List.getElem_cons_succ, List.getElem_cons_zero, List.setIfInBounds_toArray, List.set_cons_zero, List.set_cons_succ]
      refine wpR_pure (i := 3) (oi := _) (v := ?_) rfl (by kernel_rfl) (by kernel_rfl) (by kernel_rfl) (by kernel_rfl) (by kernel_rfl) (by kernel_rfl) hHeld (Or.inl ⟨by rfl, ?_⟩) ?_
      rotate_left
      · (intro w hSw; obtain ⟨q0, q1, q2, q3, q4⟩ := HCX.out w hSw; go_simp; first | done | (with_reducible rfl))
      simp only [Act.put, List.getElem_toArray, List.getElem_cons_succ, List.getElem_cons_zero, List.setIfInBounds_toArray, List.set_cons_zero, List.set_cons_succ]
      refine wpR_pure (i := 4) (oi := _) (v := ?_) rfl (by kernel_rfl) (by kernel_rfl) (by kernel_rfl) (by kernel_rfl) (by kernel_rfl) (by kernel_rfl) hHeld (Or.inl ⟨by rfl, ?_⟩) ?_
      rotate_left
      · (intro w hSw; go_simp; first | done | (with_reducible rfl))
      simp only [Act.put, List.getElem_toArray, List.getElem_cons_succ, List.getElem_cons_zero, List.setIfInBounds_toArray, List.set_cons_zero, List.set_cons_succ]
      refine wpR_pure (i := 5) (oi := _) (v := ?_) rfl (by kernel_rfl) (by kernel_rfl) (by kernel_rfl) (by kernel_rfl) (by kernel_rfl) (by kernel_rfl) hHeld (Or.inl ⟨by rfl, ?_⟩) ?_
      rotate_left
      · (intro w hSw; have q0 := HVC.out w hSw; go_simp; first | done | (with_reducible rfl))
      simp only [Act.put, List.getElem_toArray, List.getElem_cons_succ, List.getElem_cons_zero, List.setIfInBounds_toArray, List.set_cons_zero, List.set_cons_succ]
      refine wpR_pure (i := 6) (oi := _) (v := ?_) rfl (by kernel_rfl) (by kernel_rfl) (by kernel_rfl) (by kernel_rfl) (by kernel_rfl) (by kernel_rfl) hHeld (Or.inl ⟨by rfl, ?_⟩) ?_
      rotate_left
      · (intro w hSw; go_simp; first | done | (with_reducible rfl))
      simp only [Act.put, List.getElem_toArray, List.getElem_cons_succ, List.getElem_cons_zero, List.setIfInBounds_toArray, List.set_cons_zero, List.set_cons_succ]
      refine wpR_pure (i := 7) (oi := _) (v := ?_) rfl (by kernel_rfl) (by kernel_rfl) (by kernel_rfl) (by kernel_rfl) (by kernel_rfl) (by kernel_rfl) hHeld (Or.inl ⟨by rfl, ?_⟩) ?_
      rotate_left
      · (intro w hSw; go_simp; first | done | (with_reducible rfl))
      simp only [Act.put, List.getElem_toArray, List.getElem_cons_succ, List.getElem_cons_zero, List.setIfInBounds_toArray, List.set_cons_zero, List.set_cons_succ]
      refine wpR_pure (i := 8) (oi := _) (v := ?_) rfl (by kernel_rfl) (by kernel_rfl) (by kernel_rfl) (by kernel_rfl) (by kernel_rfl) (by kernel_rfl) hHeld (Or.inl ⟨by rfl, ?_⟩) ?_
      rotate_left
      · (intro w hSw; obtain ⟨q0, q1, q2, q3, q4⟩ := HCV.out w hSw; go_simp; first | done | (with_reducible rfl))
      simp only [Act.put, List.getElem_toArray, List.getElem_cons_succ, List.getElem_cons_zero, List.setIfInBounds_toArray, List.set_cons_zero, List.set_cons_succ]
      refine wpR_pure (i := 9) (oi := _) (v := .bool false) rfl (by kernel_rfl) (by kernel_rfl) (by kernel_rfl) (by kernel_rfl) (by kernel_rfl) (by kernel_rfl) hHeld (Or.inl ⟨by rfl, ?_⟩) ?_
      · (intro w hSw; have f := eqSn s w; go_simp; first | done | (simp; done))
      simp only [Act.put, List.getElem_toArray, List.getElem_cons_succ, List.getElem_cons_zero, List.setIfInBounds_toArray, List.set_cons_zero, List.set_cons_succ]
      refine wpR_end (by kernel_rfl) (fun w hSw => ?_)
      refine any_done (by kernel_rfl) ?_ _
      have HS7 := Keep.mk (HS.out.grown hSw)
      clear hSw HS hHeld HCX HCV HVC
      go_wp2_with fail
      go_roundw
      case rel => exact ⟨i + 1, by omega, rfl, HS7⟩
      case measure => simp [intOf]; omega
    · have hi1 : ¬ (i : Int) < (n : Nat) := by omega
      go_wp2_with fail
      go_ret
      exact ⟨rfl, HS.out.1⟩
end Go.Proofs.Ytfhhneibdmjfgab
