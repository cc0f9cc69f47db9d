import Derived.Test.YtkdjcknikhgfkaaGreatDoorFC2
/- frame.Sealed -/
namespace Go.Proofs.YtkdjcknikhgfkaaGreatDoor.Pk
open Go Go.RowKit

def sealed (s key : ByteArray) : Bool := decide (bodyB s ≠ nob ∧ s.extract (bodyB s).size s.size = hmacB key (bodyB s))
set_option maxRecDepth 100000 in
theorem emptyS (s : ByteArray) : s.toList.isEmpty = decide (s = nob) := by
  rw [Bool.eq_iff_iff, List.isEmpty_iff, decide_eq_true_iff, ByteArray.toList_eq]
  exact ⟨fun e => ByteArray.ext (Array.toList_inj.1 e), fun e => by rw [e]; rfl⟩
set_option maxRecDepth 100000 in
theorem bodyB_size (s : ByteArray) : (bodyB s).size ≤ s.size := by
  rw [bodyB, ba_size, bodyL]
  split
  · simp
  · rw [List.length_take, sl_len]; omega
set_option maxHeartbeats 4000000 in
set_option maxRecDepth 100000 in
theorem sealed_no (s key : ByteArray) (w : World) (hs : s.size ≤ 281474976710656) (hb : bodyB s = nob) :
    Calls Tryz.prog 50 #[.string s, .string key] w fun e w' => e = .returned (.bool false) ∧ w.grownBy w' none := by
  have HB := Keep.mk (body_c s w hs)
  have hE := emptyS (bodyB s)
  rw [decide_eq_true hb] at hE
  obtain ⟨B, hB⟩ : ∃ B, bodyB s = B := ⟨_, rfl⟩
  rw [hB] at HB hE
  clear hb hB
  go_enter Tryz.func50, Tryz.ntmps50
  go_wp2_with fail
  refine HB.out.mono ?_
  rintro e w1 ⟨rfl, g1⟩
  have HG := Keep.mk g1
  clear g1
  go_wp2_with fail
  go_quiet (fail)
  go_wp2_with fail
  go_ret
  exact ⟨rfl, HG.out.trans (gr_drewN _ _ _)⟩
set_option maxHeartbeats 4000000 in
set_option maxRecDepth 100000 in
theorem sealed_yes (s key : ByteArray) (w : World) (hk : Kc w) (hs : s.size ≤ 281474976710656) (hkey : key.size ≤ 2305843009213693952) (hb : bodyB s ≠ nob) :
    Calls Tryz.prog 50 #[.string s, .string key] w fun e w' => e = .returned (.bool (decide (s.extract (bodyB s).size s.size = hmacB key (bodyB s)))) ∧ w.grownBy w' none := by
  have HB := Keep.mk (body_c s w hs)
  have hE := emptyS (bodyB s)
  rw [decide_eq_false hb] at hE
  have hsz := bodyB_size s
  obtain ⟨B, hB⟩ : ∃ B, bodyB s = B := ⟨_, rfl⟩
  rw [hB] at HB hE hsz ⊢
  have hsz2 : (B.size : Int) ≤ (s.size : Int) := by omega
  obtain ⟨X, hX⟩ : ∃ X, s.extract B.size s.size = X := ⟨_, rfl⟩
  have hXs : X.size ≤ 4611686018427387904 := by rw [← hX, ByteArray.size_extract]; omega
  have HK : Keep (Kc w ∧ key.size ≤ 2305843009213693952 ∧ B.size ≤ 2305843009213693952 ∧ X.size ≤ 4611686018427387904 ∧ ∀ k t : ByteArray, (hmacB k t).size ≤ 4611686018427387904) := ⟨hk, hkey, by omega, hXs, fun k t => by rw [← sl_len]; show (Go.Proofs.YtkdjcknikhgfkaaGreatDoor.sl (hmacB k t)).length ≤ _; rw [hmacB_sl]; have : (Mac.hmac (Go.Proofs.YtkdjcknikhgfkaaGreatDoor.sl k) (Go.Proofs.YtkdjcknikhgfkaaGreatDoor.sl t)).length = 32 := Mac.sha_len _; omega⟩
  rw [hX]
  clear hb hB hk hkey hXs
  go_enter Tryz.func50, Tryz.ntmps50
  go_wp2_with fail
  refine HB.out.mono ?_
  rintro e w1 ⟨rfl, g1⟩
  have HG : Keep (w.grownBy w1.drew none) := ⟨g1.trans (gr_drew _ _)⟩
  clear g1
  go_wp2_with fail
  refine wp_region_held_drew (S := fun _ => True) (by kernel_rfl) trivial (fun hHeld => ?_)
  refine wpAnyH_take (i := 0) (oi := _) (v := ?_) rfl (by kernel_rfl) (by kernel_rfl) (by kernel_rfl) (fun _ _ _ h => h) (Or.inl ⟨by rfl, ?_⟩) (by assumption) ?_
  rotate_left
  · (intro w hSw; go_simp; first | done | (with_reducible rfl))
  simp only [Act.put, List.getElem_toArray, List.getElem_cons_zero, List.setIfInBounds_toArray, List.set_cons_zero, List.set_cons_succ]
  refine wpAnyH_take (i := 1) (oi := _) (v := ?_) rfl (by kernel_rfl) (by kernel_rfl) (by kernel_rfl) (fun _ _ _ h => h) (Or.inl ⟨by rfl, ?_⟩) (by assumption) ?_
  rotate_left
  · (intro w hSw; go_simp; first | done | (with_reducible rfl))
  simp only [Act.put, List.getElem_toArray, List.getElem_cons_succ, List.getElem_cons_zero, List.setIfInBounds_toArray, List.set_cons_zero, List.set_cons_succ]
  refine wpAnyH_take (i := 2) (oi := _) (v := ?_) rfl (by kernel_rfl) (by kernel_rfl) (by kernel_rfl) (fun _ _ _ h => h) (Or.inl ⟨by rfl, ?_⟩) (by assumption) ?_
  rotate_left
  · (intro w hSw; go_simp; first | done | (with_reducible rfl))
  simp only [Act.put, List.getElem_toArray, List.getElem_cons_succ, List.getElem_cons_zero, List.setIfInBounds_toArray, List.set_cons_zero, List.set_cons_succ]
  refine wpAnyH_take (i := 3) (oi := _) (v := ?_) rfl (by kernel_rfl) (by kernel_rfl) (by kernel_rfl) (fun _ _ _ h => h) (Or.inl ⟨by rfl, ?_⟩) (by assumption) ?_
  rotate_left
  · (intro w hSw; go_simp; first | done | (with_reducible rfl))
  simp only [Act.put, List.getElem_toArray, List.getElem_cons_succ, List.getElem_cons_zero, List.setIfInBounds_toArray, List.set_cons_zero, List.set_cons_succ]
  refine wpAnyH_take (i := 4) (oi := _) (v := ?_) rfl (by kernel_rfl) (by kernel_rfl) (by kernel_rfl) (fun _ _ _ h => h) (Or.inl ⟨by rfl, ?_⟩) (by assumption) ?_
  rotate_left
  · (intro w hSw; go_simp; first | done | (with_reducible rfl))
  simp only [Act.put, List.getElem_toArray, List.getElem_cons_succ, List.getElem_cons_zero, List.setIfInBounds_toArray, List.set_cons_zero, List.set_cons_succ]
  refine wpAnyH_take (i := 5) (oi := _) (v := ?_) rfl (by kernel_rfl) (by kernel_rfl) (by kernel_rfl) (fun _ _ _ h => h) (Or.inl ⟨by rfl, ?_⟩) (by assumption) ?_
  rotate_left
  · (intro w hSw; go_simp; first | done | (with_reducible rfl))
  simp only [Act.put, List.getElem_toArray, List.getElem_cons_succ, List.getElem_cons_zero, List.setIfInBounds_toArray, List.set_cons_zero, List.set_cons_succ]
  refine wpAnyH_take (i := 6) (oi := _) (v := ?_) rfl (by kernel_rfl) (by kernel_rfl) (by kernel_rfl) (fun _ _ _ h => h) (Or.inl ⟨by rfl, ?_⟩) (by assumption) ?_
  rotate_left
  · (intro w hSw; go_simp; first | done | (with_reducible rfl))
  simp only [Act.put, List.getElem_toArray, List.getElem_cons_succ, List.getElem_cons_zero, List.setIfInBounds_toArray, List.set_cons_zero, List.set_cons_succ]
  refine wpAnyH_take (i := 7) (oi := _) (v := ?_) rfl (by kernel_rfl) (by kernel_rfl) (by kernel_rfl) (fun _ _ _ h => h) (Or.inl ⟨by rfl, ?_⟩) (by assumption) ?_
  rotate_left
  · (intro w hSw; go_simp; first | done | (with_reducible rfl))
  simp only [Act.put, List.getElem_toArray, List.getElem_cons_succ, List.getElem_cons_zero, List.setIfInBounds_toArray, List.set_cons_zero, List.set_cons_succ]
  refine wpAnyH_take (i := 8) (oi := _) (v := ?_) rfl (by kernel_rfl) (by kernel_rfl) (by kernel_rfl) (fun _ _ _ h => h) (Or.inl ⟨by rfl, ?_⟩) (by assumption) ?_
  rotate_left
  · (intro w hSw; go_simp; first | done | (with_reducible rfl))
  simp only [Act.put, List.getElem_toArray, List.getElem_cons_succ, List.getElem_cons_zero, List.setIfInBounds_toArray, List.set_cons_zero, List.set_cons_succ]
  refine wpAnyH_ready (rs := [9]) (by kernel_rfl) (by simp) ?_
  refine AllReadyH.cons rfl (fun K hK => ?_) AllReadyH.nil
  go_simp
  refine (tag_any key B _ (HK.out.1.kept HG.out (by simp)) HK.out.2.1 HK.out.2.2.1).mono ?_
  rintro e w2 ⟨rfl, g2⟩
  have HG2 : Keep (w.grownBy w2 none) := ⟨HG.out.trans g2⟩
  clear g2
  refine hK.out _ _ trivial (fun hHeld => ?_)
  clear hK K
  refine wpAnyH_ready (rs := [10]) (by kernel_rfl) (by simp) ?_
  refine AllReadyH.cons rfl (fun K hK => ?_) AllReadyH.nil
  go_simp
  refine (same_any X (hmacB key B) _ HK.out.2.2.2.1 (HK.out.2.2.2.2 _ _)).mono ?_
  rintro e w3 ⟨rfl, g3⟩
  have HG3 : Keep (w.grownBy w3 none) := ⟨HG2.out.trans g3⟩
  clear g3
  refine hK.out _ _ trivial (fun hHeld => ?_)
  clear hK K
  refine wpAnyH_take (i := 11) (oi := _) (v := ?_) rfl (by kernel_rfl) (by kernel_rfl) (by kernel_rfl) (fun _ _ _ h => h) (Or.inl ⟨by rfl, ?_⟩) (by assumption) ?_
  rotate_left
  · (intro w hSw; go_simp; first | done | (with_reducible rfl))
  simp only [Act.put, List.getElem_toArray, List.getElem_cons_succ, List.getElem_cons_zero, List.setIfInBounds_toArray, List.set_cons_zero, List.set_cons_succ]
  refine wpAnyH_take (i := 12) (oi := _) (v := ?_) rfl (by kernel_rfl) (by kernel_rfl) (by kernel_rfl) (fun _ _ _ h => h) (Or.inl ⟨by rfl, ?_⟩) (by assumption) ?_
  rotate_left
  · (intro w hSw; go_simp; first | done | (with_reducible rfl))
  simp only [Act.put, List.getElem_toArray, List.getElem_cons_succ, List.getElem_cons_zero, List.setIfInBounds_toArray, List.set_cons_zero, List.set_cons_succ]
  refine wpAnyH_done (by kernel_rfl) ?_ _
  clear hHeld
  go_wp2_with fail
  go_ret
  refine ⟨?_, HG3.out⟩
  have : decide (Go.Proofs.YtkdjcknikhgfkaaGreatDoor.sl X = Go.Proofs.YtkdjcknikhgfkaaGreatDoor.sl (hmacB key B)) = decide (X = hmacB key B) := decide_eq_decide.2 ⟨fun e => sl_inj e, fun e => by rw [e]⟩
  rw [← this]
  rfl
set_option maxRecDepth 100000 in
theorem sealed_c (s key : ByteArray) (w : World) (hk : Kc w) (hs : s.size ≤ 281474976710656) (hkey : key.size ≤ 2305843009213693952) :
    Calls Tryz.prog 50 #[.string s, .string key] w fun e w' => e = .returned (.bool (sealed s key)) ∧ w.grownBy w' none := by
  by_cases hb : bodyB s = nob
  · have : sealed s key = false := by simp [sealed, hb]
    rw [this]; exact sealed_no s key w hs hb
  · have : sealed s key = decide (s.extract (bodyB s).size s.size = hmacB key (bodyB s)) := by simp [sealed, hb]
    rw [this]; exact sealed_yes s key w hk hs hkey hb
end Go.Proofs.YtkdjcknikhgfkaaGreatDoor.Pk
