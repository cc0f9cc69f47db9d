/- the reference: Said, Derive -/
import Derived.Test.YtbmnlhmelbhjeaaDoorMaR2
namespace Go.Proofs.YtbmnlhmelbhjeaaDoor
open Go Go.RowKit

def saidB (use : ByteArray) (ps : List ByteArray) : ByteArray := ⟨(Mac.said (sl use) (ps.map sl)).toArray⟩
theorem saidB_sl (use : ByteArray) (ps : List ByteArray) : sl (saidB use ps) = Mac.said (sl use) (ps.map sl) := sl_mk _
def len8B (n : Nat) : ByteArray := ⟨(Mac.len8 n).toArray⟩
theorem len8B_sl (n : Nat) : sl (len8B n) = Mac.len8 n := sl_mk _
theorem len8B_size (n : Nat) : (len8B n).size = 8 := by rw [← sl_len, len8B_sl]; rfl
theorem saidB_step (use : ByteArray) (ps : List ByteArray) (i : Nat) (p : ByteArray) (hp : ps[i]? = some p) : saidB use (ps.take (i + 1)) = saidB use (ps.take i) ++ len8B p.size ++ p := by
  obtain ⟨h1, e1⟩ := List.getElem?_eq_some_iff.1 hp
  apply sl_inj
  have h := said_step (sl use) (ps.map sl) i (by rw [List.length_map]; exact h1)
  rw [← List.map_take, ← List.map_take] at h
  rw [sl_app, sl_app, len8B_sl, saidB_sl, saidB_sl, h, List.getElem_map, e1, sl_len]
theorem saidB_size (use : ByteArray) (ps : List ByteArray) : (saidB use ps).size = (Mac.said (sl use) (ps.map sl)).length := by rw [← sl_len, saidB_sl]
theorem saidB_le (use : ByteArray) (ps : List ByteArray) (i : Nat) : (saidB use (ps.take i)).size ≤ (saidB use ps).size := by
  rw [saidB_size, saidB_size, List.map_take]; exact said_le _ _ i
theorem saidB_zero (use : ByteArray) (ps : List ByteArray) : use ++ { data := #[0] } = saidB use (ps.take 0) := by
  apply sl_inj
  rw [saidB_sl, sl_app]; rfl

set_option maxRecDepth 100000 in
set_option maxHeartbeats 4000000 in
theorem rsaid_any (use : ByteArray) (a : Option Addr) (n c : Nat) (ps : List ByteArray) (w : World) (hp : Strs w a n ps) (hs : (saidB use ps).size ≤ 2147483648) :
    Calls Tryd.prog 43 #[.string use, .slice a n c] w fun e w' => e = .returned (.string (saidB use ps)) ∧ w.grownBy w' none := by
  have HP : Keep (Strs w a n ps) := ⟨hp⟩
  have hpl := hp.len
  have hn : n ≤ 2147483648 := by
    have h1 := flat_many (ps.map sl)
    rw [saidB_size] at hs
    simp only [Mac.said, List.length_append, List.length_cons] at hs
    rw [List.length_map, hp.len] at h1; omega
  have hu : use.size ≤ 2147483648 := by
    rw [saidB_size] at hs
    simp only [Mac.said, List.length_append, List.length_cons, sl_len] at hs
    omega
  clear hp
  have ha1 := addS use { data := #[0] } (by have : (ByteArray.mk #[0]).size = 1 := rfl
                                            omega)
  rw [saidB_zero use ps] at ha1
  go_enter Tryd.func43, Tryd.ntmps43
  go_wp2_with fail
  go_loopw [5, 6] (fun v t w' => ∃ (i : Nat) (s : ByteArray), i ≤ n ∧ t = .int .i64 i ∧ v = .string s ∧ Keep (s = saidB use (ps.take i) ∧ w.grownBy w' none)) (fun _ t _ => n - (intOf t).toNat)
  case atStart => exact ⟨0, _, by omega, rfl, rfl, ⟨rfl, World.grownBy.refl _ _⟩⟩
  case round =>
    obtain ⟨i, s, hi, rfl, rfl, hrel⟩ := hrel
    by_cases hli : i < n
    · obtain ⟨B, o, rfl, hat⟩ := HP.out.at_ (by omega)
      obtain ⟨p, hp⟩ : ∃ p, ps[i]? = some p := ⟨_, List.getElem?_eq_getElem (by omega)⟩
      have hcW : ∀ W, wr.grownBy W none → W.cell? ⟨B, o + i, none⟩ = some (.string p) := fun W g => (hrel.out.2.trans g).cell (hat i p hp) (by simp)
      have hst := saidB_step use ps i p hp
      rw [← hrel.out.1] at hst
      have hle := saidB_le use ps (i + 1)
      rw [hst, ByteArray.size_append, ByteArray.size_append, len8B_size] at hle
      have ha2 := addS s (len8B p.size) (by rw [len8B_size]; omega)
      have ha3 := addS (s ++ len8B p.size) p (by rw [ByteArray.size_append, len8B_size]; omega)
      have hp64 : p.size < 18446744073709551616 := by omega
      have hpw : IntKind.u64.wrap (p.size : Int) = (p.size : Int) := by simp [IntKind.wrap, IntKind.bits, IntKind.signed]; omega
      have HG : Keep (w.grownBy wr none) := ⟨hrel.out.2⟩
      generalize hs1 : s ++ len8B p.size = s1 at ha2 ha3 hst
      generalize hs2 : s1 ++ p = s2 at ha3 hst
      have HS2 : Keep (saidB use (ps.take (i + 1)) = s2) := ⟨hst⟩
      unfold len8B at ha2
      clear hat hp hrel hst hle hs1 hs2
      go_wp2_with fail
      refine wp_region_held_drew (S := fun w' => wr.grownBy w' none) (by kernel_rfl) (gr_drewN _ 1 none) (fun hHeld => ?_)
      refine wpAnyH_take (i := 0) (oi := _) (v := ?_) rfl (by kernel_rfl) (by kernel_rfl) (by kernel_rfl) (fun _ _ _ h => h) (Or.inl ⟨by rfl, ?_⟩) (by assumption) ?_
      rotate_left
      · (intro w hSw; go_simp; first | done | (with_reducible rfl))
      simp only [Act.put, List.getElem_toArray, List.getElem_cons_zero, List.setIfInBounds_toArray, List.set_cons_zero, List.set_cons_succ]
      refine wpAnyH_take (i := 1) (oi := _) (v := ?_) rfl (by kernel_rfl) (by kernel_rfl) (by kernel_rfl) (fun _ _ _ h => h) (Or.inl ⟨by rfl, ?_⟩) (by assumption) ?_
      rotate_left
      · (intro w hSw; go_simp; first | done | (with_reducible rfl))
      simp only [Act.put, List.getElem_toArray, List.getElem_cons_succ, List.getElem_cons_zero, List.setIfInBounds_toArray, List.set_cons_zero, List.set_cons_succ]
      refine wpAnyH_take (i := 2) (oi := _) (v := ?_) rfl (by kernel_rfl) (by kernel_rfl) (by kernel_rfl) (fun _ _ _ h => h) (Or.inl ⟨by rfl, ?_⟩) (by assumption) ?_
      rotate_left
      · (intro w hSw; go_simp; first | done | (with_reducible rfl))
      simp only [Act.put, List.getElem_toArray, List.getElem_cons_succ, List.getElem_cons_zero, List.setIfInBounds_toArray, List.set_cons_zero, List.set_cons_succ]
      refine wpAnyH_take (i := 3) (oi := _) (v := ?_) rfl (by kernel_rfl) (by kernel_rfl) (by kernel_rfl) (fun _ _ _ h => h) (Or.inl ⟨by rfl, ?_⟩) (by assumption) ?_
      rotate_left
      · (intro w hSw; go_simp; first | done | (with_reducible rfl))
      simp only [Act.put, List.getElem_toArray, List.getElem_cons_succ, List.getElem_cons_zero, List.setIfInBounds_toArray, List.set_cons_zero, List.set_cons_succ]
      refine wpAnyH_take (i := 4) (oi := _) (v := ?_) rfl (by kernel_rfl) (by kernel_rfl) (by kernel_rfl) (fun _ _ _ h => h) (Or.inl ⟨by rfl, ?_⟩) (by assumption) ?_
      rotate_left
      · (intro w hSw; go_simp; first | done | (with_reducible rfl))
      simp only [Act.put, List.getElem_toArray, List.getElem_cons_succ, List.getElem_cons_zero, List.setIfInBounds_toArray, List.set_cons_zero, List.set_cons_succ]
      refine wpAnyH_take (i := 5) (oi := _) (v := ?_) rfl (by kernel_rfl) (by kernel_rfl) (by kernel_rfl) (fun _ _ _ h => h) (Or.inl ⟨by rfl, ?_⟩) (by assumption) ?_
      rotate_left
      · (intro w hSw; go_simp; first | done | (with_reducible rfl))
      simp only [Act.put, List.getElem_toArray, List.getElem_cons_succ, List.getElem_cons_zero, List.setIfInBounds_toArray, List.set_cons_zero, List.set_cons_succ]
      refine wpAnyH_take (i := 6) (oi := _) (v := ?_) rfl (by kernel_rfl) (by kernel_rfl) (by kernel_rfl) (fun _ _ _ h => h) (Or.inl ⟨by rfl, ?_⟩) (by assumption) ?_
      rotate_left
      · (intro w hSw; go_simp; first | done | (with_reducible rfl))
      simp only [Act.put, List.getElem_toArray, List.getElem_cons_succ, List.getElem_cons_zero, List.setIfInBounds_toArray, List.set_cons_zero, List.set_cons_succ]
      refine wpAnyH_take (i := 9) (oi := _) (v := ?_) rfl (by kernel_rfl) (by kernel_rfl) (by kernel_rfl) (fun _ _ _ h => h) (Or.inl ⟨by rfl, ?_⟩) (by assumption) ?_
      rotate_left
      · (intro w hSw; go_simp; first | done | (with_reducible rfl))
      simp only [Act.put, List.getElem_toArray, List.getElem_cons_succ, List.getElem_cons_zero, List.setIfInBounds_toArray, List.set_cons_zero, List.set_cons_succ]
      refine wpAnyH_take (i := 10) (oi := _) (v := ?_) rfl (by kernel_rfl) (by kernel_rfl) (by kernel_rfl) (fun _ _ _ h => h) (Or.inl ⟨by rfl, ?_⟩) (by assumption) ?_
      rotate_left
      · (intro w hSw; go_simp; first | done | (with_reducible rfl))
      simp only [Act.put, List.getElem_toArray, List.getElem_cons_succ, List.getElem_cons_zero, List.setIfInBounds_toArray, List.set_cons_zero, List.set_cons_succ]
      refine wpAnyH_take (i := 11) (oi := _) (v := ?_) rfl (by kernel_rfl) (by kernel_rfl) (by kernel_rfl) (fun _ _ _ h => h) (Or.inl ⟨by rfl, ?_⟩) (by assumption) ?_
      rotate_left
      · (intro w hSw; go_simp; first | done | (with_reducible rfl))
      simp only [Act.put, List.getElem_toArray, List.getElem_cons_succ, List.getElem_cons_zero, List.setIfInBounds_toArray, List.set_cons_zero, List.set_cons_succ]
      refine wpAnyH_take (i := 12) (oi := _) (v := ?_) rfl (by kernel_rfl) (by kernel_rfl) (by kernel_rfl) (fun _ _ _ h => h) (Or.inl ⟨by rfl, ?_⟩) (by assumption) ?_
      rotate_left
      · (intro w hSw; go_simp; first | done | (with_reducible rfl))
      simp only [Act.put, List.getElem_toArray, List.getElem_cons_succ, List.getElem_cons_zero, List.setIfInBounds_toArray, List.set_cons_zero, List.set_cons_succ]
      refine wpAnyH_ready (rs := [7]) (by kernel_rfl) (by simp) ?_
      refine AllReadyH.cons rfl (fun K hK => ?_) AllReadyH.nil
      go_simp
      go_wp2_with (go_at_call 44; refine (length_any p.size _ hp64).mono ?_; rintro e w6 ⟨rfl, g6⟩; replace hHeld := hHeld.trans g6; clear g6)
      refine hK.out _ _ hHeld (fun _ => ?_)
      clear hK K
      refine wpAnyH_take (i := 8) (oi := _) (v := ?_) rfl (by kernel_rfl) (by kernel_rfl) (by kernel_rfl) (fun _ _ _ h => h) (Or.inl ⟨by rfl, ?_⟩) (by assumption) ?_
      rotate_left
      · (intro w hSw; go_simp; first | done | (with_reducible rfl))
      simp only [Act.put, List.getElem_toArray, List.getElem_cons_succ, List.getElem_cons_zero, List.setIfInBounds_toArray, List.set_cons_zero, List.set_cons_succ]
      refine wpAnyH_take (i := 13) (oi := _) (v := ?_) rfl (by kernel_rfl) (by kernel_rfl) (by kernel_rfl) (fun _ _ _ h => h) (Or.inl ⟨by rfl, ?_⟩) (by assumption) ?_
      rotate_left
      · (intro w hSw; go_simp; first | done | (with_reducible rfl))
      simp only [Act.put, List.getElem_toArray, List.getElem_cons_succ, List.getElem_cons_zero, List.setIfInBounds_toArray, List.set_cons_zero, List.set_cons_succ]
      refine wpAnyH_take (i := 14) (oi := _) (v := ?_) rfl (by kernel_rfl) (by kernel_rfl) (by kernel_rfl) (fun _ _ _ h => h) (Or.inl ⟨by rfl, ?_⟩) (by assumption) ?_
      rotate_left
      · (intro w hSw; go_simp; first | done | (with_reducible rfl))
      simp only [Act.put, List.getElem_toArray, List.getElem_cons_succ, List.getElem_cons_zero, List.setIfInBounds_toArray, List.set_cons_zero, List.set_cons_succ]
      refine wpAnyH_done (by kernel_rfl) ?_ _
      go_wp2_with fail
      refine ⟨⟨i + 1, s2, by omega, by go_num, rfl, ⟨HS2.out.symm, HG.out.trans hHeld⟩⟩, ?_⟩
      simp [intOf]; omega
    · have HE : Keep (s = saidB use ps ∧ w.grownBy wr none) := ⟨by
        have h := hrel.out.1
        rw [List.take_of_length_le (by omega)] at h
        exact ⟨h, hrel.out.2⟩⟩
      clear hrel
      go_wp2_with fail
      go_ret
      exact ⟨by rw [← HE.out.1]; rfl, HE.out.2⟩
end Go.Proofs.YtbmnlhmelbhjeaaDoor
