/- Mean, alive -/
import Derived.Test.YtfhhneibdmjfgaaQ7
namespace Go.Proofs.Ytfhhneibdmjfgaa
open Go Go.RowKit Ieee Fx
namespace Sm
set_option maxRecDepth 100000
attribute [local go_sem] run_store_fl
theorem wi (x : Int) (h : -9223372036854775808 ≤ x) (h2 : x ≤ 9223372036854775807) : IntKind.i64.wrap x = x := by
  unfold IntKind.wrap; simp [IntKind.signed, IntKind.bits]; omega
/-- a list of floats as it is read -/
structure RdF (W : World) (v : Value) (L : List Nat) : Prop where
  o : ∃ a c, v = .slice a L.length c ∧ (0 < L.length → ∃ g o, a = some ⟨g, o, none⟩ ∧ ∀ j x, L[j]? = some x → W.cell? ⟨g, o + j, none⟩ = some (fv x))
theorem cell_kept {w w' : World} {g o : Nat} {v : Value} (h : w.cell? ⟨g, o, none⟩ = some v) (hg : w.grownBy w' none) : w'.cell? ⟨g, o, none⟩ = some v := by
  have hlt : g < w.heap.size := by
    apply Classical.byContradiction
    intro hn
    have h0 : w.heap[g]? = none := Array.getElem?_eq_none (by omega)
    simp [World.cell?, h0] at h
  have hb := hg.block g hlt (by simp)
  have e : w'.cell? ⟨g, o, none⟩ = w.cell? ⟨g, o, none⟩ := by simp [World.cell?, hb]
  rw [e]; exact h
theorem RdF.kept {W W' : World} {v : Value} {L : List Nat} (h : RdF W v L) (g : W.grownBy W' none) : RdF W' v L := by
  obtain ⟨a, c, e, q⟩ := h.o
  exact ⟨a, c, e, fun hn => by
    obtain ⟨b, o, e2, r⟩ := q hn
    exact ⟨b, o, e2, fun j x hx => cell_kept (r j x hx) g⟩⟩
def sumV (L : List Nat) : OF := L.foldl (fun s x => oadd s (V x)) k0
def meanV (L : List Nat) : OF := if L.length = 0 then k0 else oquo (sumV L) (V (floatOfInt .f32 L.length))
theorem sum_take {L : List Nat} {i x : Nat} (h : L[i]? = some x) : sumV (L.take (i + 1)) = oadd (sumV (L.take i)) (V x) := by
  obtain ⟨hi, rfl⟩ := List.getElem?_eq_some_iff.1 h
  unfold sumV
  rw [List.take_add_one, List.foldl_append, List.getElem?_eq_getElem hi]
  rfl
set_option maxHeartbeats 4000000 in
theorem mean_c (w : World) (v : Value) (L : List Nat) (hL : RdF w v L) (hn : L.length < 4611686018427387904) :
    Calls Try.prog 13 #[v] w fun e W' => (∃ r, e = .returned r ∧ FV r (meanV L)) ∧ w.grownBy W' none := by
  obtain ⟨a, cap, hv, hq⟩ := hL.o
  subst hv
  by_cases h0 : L.length = 0
  · have hM : meanV L = k0 := by unfold meanV; rw [if_pos h0]
    rw [hM, h0]
    clear hM hq hL hn h0
    go_enter Try.func13, Try.ntmps13
    go_wp2_with fail
    go_ret
    exact ⟨⟨_, rfl, _, rfl, V0⟩, World.grownBy.refl _ _⟩
  obtain ⟨n, hnL⟩ : ∃ n, L.length = n := ⟨_, rfl⟩
  have HM : Keep (meanV L = oquo (sumV L) (V (floatOfInt .f32 (n : Nat)))) := ⟨by unfold meanV; rw [if_neg h0, hnL]⟩
  have HN := Keep.mk hnL
  rw [hnL] at hq hn h0 ⊢
  obtain ⟨b, o, rfl, hc⟩ := hq (by omega)
  have HC := Keep.mk hc
  have h1 : (n == 0) = false := by simp; omega
  have h2 : ¬ (n : Int) = 0 := by omega
  have h3 : ((n : Int) == 0) = false := by simp; omega
  clear hq hL hc hnL
  go_enter Try.func13, Try.ntmps13
  go_wp2_with fail
  go_loopw [3, 11] (fun s u wr => ∃ (i g : Nat), i ≤ n ∧ u = iv i ∧ s = fv g ∧ Keep (V g = sumV (L.take i)) ∧ Keep (w.grownBy wr none)) (fun _ u _ => (n - intOf u).toNat)
  case atStart => exact ⟨0, 0, by omega, rfl, rfl, ⟨V0⟩, ⟨World.grownBy.refl _ _⟩⟩
  case round =>
    obtain ⟨i, g, hi, rfl, rfl, HG, HW⟩ := hrel
    by_cases hlt : i < n
    · obtain ⟨x, hx⟩ : ∃ x, L[i]? = some x := ⟨_, List.getElem?_eq_getElem (by rw [HN.out]; exact hlt)⟩
      have hi0 : (0 : Int) ≤ (i : Int) := by omega
      have hi1 : (i : Int) < (n : Nat) := by omega
      have hti : ((i : Nat) : Int).toNat = i := by omega
      have hwi : IntKind.i64.wrap ((i : Int) + 1) = ((i + 1 : Nat) : Int) := by rw [wi _ (by omega) (by omega)]; omega
      have y0 := cell_kept (HC.out i x hx) HW.out
      obtain ⟨r, q, hr, H⟩ := add_run (P := Try.prog) 30 g x wr
      rw [HG.out, ← sum_take hx] at H
      have HR := Keep.mk H
      have HW2 := Keep.mk (HW.out.trans (gr_drewN wr q none))
      clear H HW HG
      go_wp2_with fail
      go_roundw
      case rel => exact ⟨i + 1, r, by omega, rfl, rfl, HR, HW2⟩
      case measure => simp [intOf]; omega
    · have hi1 : ¬ (i : Int) < (n : Nat) := by omega
      have hin : i = n := by omega
      rw [hin, ← HN.out, List.take_length] at HG
      obtain ⟨r, q, hr, H⟩ := quo_run (P := Try.prog) 30 g (floatOfInt .f32 (n : Nat)) wr
      rw [HG.out, ← HM.out] at H
      clear hin HG
      go_wp2_with fail
      go_ret
      exact ⟨⟨_, rfl, _, rfl, H⟩, HW.out.trans (gr_drewN _ _ _)⟩
set_option maxHeartbeats 4000000 in
theorem rmean_c (w : World) (v : Value) (L : List Nat) (hL : RdF w v L) (hn : L.length < 4611686018427387904) :
    Calls Try.prog 14 #[v] w fun e W' => (∃ r, e = .returned r ∧ FV r (meanV L)) ∧ w.grownBy W' none := by
  obtain ⟨a, cap, hv, hq⟩ := hL.o
  subst hv
  by_cases h0 : L.length = 0
  · have hM : meanV L = k0 := by unfold meanV; rw [if_pos h0]
    rw [hM, h0]
    clear hM hq hL hn h0
    go_enter Try.func14, Try.ntmps14
    go_wp2_with fail
    go_ret
    exact ⟨⟨_, rfl, _, rfl, V0⟩, World.grownBy.refl _ _⟩
  obtain ⟨n, hnL⟩ : ∃ n, L.length = n := ⟨_, rfl⟩
  have HM : Keep (meanV L = oquo (sumV L) (V (floatOfInt .f32 (n : Nat)))) := ⟨by unfold meanV; rw [if_neg h0, hnL]⟩
  have HN := Keep.mk hnL
  rw [hnL] at hq hn h0 ⊢
  obtain ⟨b, o, rfl, hc⟩ := hq (by omega)
  have HC := Keep.mk hc
  have h1 : (n == 0) = false := by simp; omega
  have h2 : ¬ (n : Int) = 0 := by omega
  have h3 : ((n : Int) == 0) = false := by simp; omega
  clear hq hL hc hnL
  go_enter Try.func14, Try.ntmps14
  go_wp2_with fail
  go_loopw [3, 4] (fun s u wr => ∃ (i g : Nat), i ≤ n ∧ u = iv i ∧ s = fv g ∧ Keep (V g = sumV (L.take i)) ∧ Keep (w.grownBy wr none)) (fun _ u _ => (n - intOf u).toNat)
  case atStart => exact ⟨0, 0, by omega, rfl, rfl, ⟨V0⟩, ⟨World.grownBy.refl _ _⟩⟩
  case round =>
    obtain ⟨i, g, hi, rfl, rfl, HG, HW⟩ := hrel
    by_cases hlt : i < n
    · obtain ⟨x, hx⟩ : ∃ x, L[i]? = some x := ⟨_, List.getElem?_eq_getElem (by rw [HN.out]; exact hlt)⟩
      have hi0 : (0 : Int) ≤ (i : Int) := by omega
      have hi1 : (i : Int) < (n : Nat) := by omega
      have hti : ((i : Nat) : Int).toNat = i := by omega
      have hwi : IntKind.i64.wrap ((i : Int) + 1) = ((i + 1 : Nat) : Int) := by rw [wi _ (by omega) (by omega)]; omega
      have y0 := cell_kept (HC.out i x hx) HW.out
      go_wp2_with fail
      refine (plus_c g x wr).mono ?_
      rintro e w2 ⟨⟨v, rfl, r, rfl, hr⟩, g2⟩
      rw [HG.out, ← sum_take hx] at hr
      have HR := Keep.mk hr
      have HW2 := Keep.mk (HW.out.trans g2)
      clear hr g2 HW HG y0
      go_wp2_with fail
      go_roundw
      case rel => exact ⟨i + 1, r, by omega, rfl, rfl, HR, HW2⟩
      case measure => simp [intOf]; omega
    · have hi1 : ¬ (i : Int) < (n : Nat) := by omega
      have hin : i = n := by omega
      rw [hin, ← HN.out, List.take_length] at HG
      obtain ⟨r, q, hr, H⟩ := quo_run (P := Try.prog) 30 g (floatOfInt .f32 (n : Nat)) wr
      rw [HG.out, ← HM.out] at H
      clear hin HG
      go_wp2_with fail
      go_ret
      exact ⟨⟨_, rfl, _, rfl, H⟩, HW.out.trans (gr_drewN _ _ _)⟩
end Sm
end Go.Proofs.Ytfhhneibdmjfgaa
