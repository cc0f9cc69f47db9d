/- cookie: Turn -/
import Derived.Test.YtbmnlhmelbhjeaaDoorCA4
import Derived.Test.YtbmnlhmelbhjeaaDoorCA5
namespace Go.Proofs.YtbmnlhmelbhjeaaDoor
open Go Go.RowKit

/-- the secret behind a turn -/
def turnS (s : List UInt8) (c : ByteArray) : List UInt8 := nextS s (deriveB (ba (s.drop 8)) turnB [c])
theorem turnS_len (s : List UInt8) (c : ByteArray) : (turnS s c).length = 40 := nextS_len _ _ (deriveB_size _ _ _)

set_option maxRecDepth 100000 in
set_option maxHeartbeats 8000000 in
theorem turn_c (b : Nat) (s a : List UInt8) (c : ByteArray) (w : World) (hj : JR w b s a) (hk : Kc w) (he : beN (s.take 8) < 18446744073709551615) (hc : c.size ≤ 9223372036854775807) :
    Calls Tryd.prog 13 #[.pointer (some ⟨b, 0, none⟩), .string c] w fun e w' => e = .returned (.tuple #[]) ∧ JR w' b (turnS s c) s ∧ w.grownBy w' (some b) := by
  have HJ : Keep (JR w.drew b s a ∧ w.grownBy w.drew none ∧ Kc w.drew) := ⟨hj.kept (gr_drewN w 1 none) (by simp), gr_drewN w 1 none, hk.kept (gr_drewN w 1 none) (by simp)⟩
  have HI : Keep ((Tryd.prog.info? 52).map (·.size) = some (s.map bv).length) := ⟨info52 s hj.ls⟩
  have hls := hj.ls
  have HE : Keep (beN (s.take 8) < 18446744073709551615) := ⟨he⟩
  have HKS : Keep ((ba (s.drop 8)).size ≤ 2305843009213693952) := ⟨by rw [ba_size, List.length_drop]; omega⟩
  have HP : Keep (∀ (j : Nat) (p : ByteArray), [c][j]? = some p → p.size ≤ 9223372036854775807) := ⟨fun j p hp => by
    match j, hp with
    | 0, hp => obtain rfl : c = p := by simpa using hp
               exact hc
    | j + 1, hp => simp at hp⟩
  have HKL : Keep (turnS s c = nextS s (deriveB (ba (s.drop 8)) turnB [c]) ∧ (deriveB (ba (s.drop 8)) turnB [c]).size = 32) := ⟨rfl, deriveB_size _ _ _⟩
  clear hj hk he hc
  go_enter Tryd.func13, Tryd.ntmps13
  refine wp_region_held_drew (S := fun _ => True) (by kernel_rfl) trivial (fun hHeld => ?_)
  generalize w.drew = w1 at HJ ⊢
  refine wpAnyH_take (i := 0) (oi := _) (v := ?_) rfl (by kernel_rfl) (by kernel_rfl) (by kernel_rfl) (fun _ _ _ h => h) (Or.inl ⟨by rfl, ?_⟩) (by assumption) ?_
  rotate_left
  · (intro w hSw; go_simp; first | done | (with_reducible rfl))
  simp only [Act.put, List.getElem_toArray, List.getElem_cons_zero, List.setIfInBounds_toArray, List.set_cons_zero, List.set_cons_succ]
  refine wpAnyH_take (i := 1) (oi := _) (v := ?_) rfl (by kernel_rfl) (by kernel_rfl) (by kernel_rfl) (fun _ _ _ h => h) (Or.inl ⟨by rfl, ?_⟩) (by assumption) ?_
  rotate_left
  · (intro w hSw; go_simp; first | done | (with_reducible rfl))
  simp only [Act.put, List.getElem_toArray, List.getElem_cons_succ, List.getElem_cons_zero, List.setIfInBounds_toArray, List.set_cons_zero, List.set_cons_succ]
  refine wpAnyH_take (i := 2) (oi := _) (v := ?_) rfl (by kernel_rfl) (by kernel_rfl) (by kernel_rfl) (fun _ _ _ h => h) (Or.inl ⟨by rfl, ?_⟩) (by assumption) ?_
  rotate_left
  · (intro w hSw; go_simp; first | done | (with_reducible rfl))
  simp only [Act.put, List.getElem_toArray, List.getElem_cons_succ, List.getElem_cons_zero, List.setIfInBounds_toArray, List.set_cons_zero, List.set_cons_succ]
  refine wpAnyH_take (i := 3) (oi := _) (v := ?_) rfl (by kernel_rfl) (by kernel_rfl) (by kernel_rfl) (fun _ _ _ h => h) (Or.inl ⟨by rfl, ?_⟩) (by assumption) ?_
  rotate_left
  · (intro w hSw; go_simp; first | done | (with_reducible rfl))
  simp only [Act.put, List.getElem_toArray, List.getElem_cons_succ, List.getElem_cons_zero, List.setIfInBounds_toArray, List.set_cons_zero, List.set_cons_succ]
  refine wpAnyH_take (i := 4) (oi := _) (v := ?_) rfl (by kernel_rfl) (by kernel_rfl) (by kernel_rfl) (fun _ _ _ h => h) (Or.inl ⟨by rfl, ?_⟩) (by assumption) ?_
  rotate_left
  · (intro w hSw; go_simp; first | done | (with_reducible rfl))
  simp only [Act.put, List.getElem_toArray, List.getElem_cons_succ, List.getElem_cons_zero, List.setIfInBounds_toArray, List.set_cons_zero, List.set_cons_succ]
  refine wpAnyH_take (i := 5) (oi := _) (v := ?_) rfl (by kernel_rfl) (by kernel_rfl) (by kernel_rfl) (fun _ _ _ h => h) (Or.inl ⟨by rfl, ?_⟩) (by assumption) ?_
  rotate_left
  · (intro w hSw; go_simp; first | done | (with_reducible rfl))
  simp only [Act.put, List.getElem_toArray, List.getElem_cons_succ, List.getElem_cons_zero, List.setIfInBounds_toArray, List.set_cons_zero, List.set_cons_succ]
  refine wpAnyH_take (i := 6) (oi := _) (v := ?_) rfl (by kernel_rfl) (by kernel_rfl) (by kernel_rfl) (fun _ _ _ h => h) (Or.inl ⟨by rfl, ?_⟩) (by assumption) ?_
  rotate_left
  · (intro w hSw; go_simp; first | done | (with_reducible rfl))
  simp only [Act.put, List.getElem_toArray, List.getElem_cons_succ, List.getElem_cons_zero, List.setIfInBounds_toArray, List.set_cons_zero, List.set_cons_succ]
  refine wpAnyH_take (i := 9) (oi := _) (v := ?_) rfl (by kernel_rfl) (by kernel_rfl) (by kernel_rfl) (fun _ _ _ h => h) (Or.inl ⟨by rfl, ?_⟩) (by assumption) ?_
  rotate_left
  · (intro w hSw; go_simp; first | done | (with_reducible rfl))
  simp only [Act.put, List.getElem_toArray, List.getElem_cons_succ, List.getElem_cons_zero, List.setIfInBounds_toArray, List.set_cons_zero, List.set_cons_succ]
  refine wpAnyH_ready (rs := [7, 10]) (by kernel_rfl) (by simp) ?_
  refine AllReadyH.cons rfl (fun K hK => ?_) ?_
  · rw [if_pos (by rfl)]
    refine wp_load_mid 52 _ rfl _ _ rfl _ _ HJ.out.1.now under52 rfl HI.out ?_
    refine hK.out _ _ trivial (fun _ => ?_)
    clear hK K
    refine wpAnyH_ready (rs := [8, 10]) (by kernel_rfl) (by simp) ?_
    refine AllReadyH.cons rfl (fun K hK => ?_) ?_
    · go_simp
      go_wp2_with fail
      refine (key_c s _ _ ⟨rfl⟩ hls).mono ?_
      rintro e w2 ⟨rfl, g2⟩
      have HJ2 : Keep (JR w2 b s a ∧ w.grownBy w2 none ∧ Kc w2) := ⟨HJ.out.1.kept g2 (by simp), HJ.out.2.1.trans g2, HJ.out.2.2.kept g2 (by simp)⟩
      clear HJ g2
      have HJ := HJ2
      clear HJ2
      refine hK.out _ _ trivial (fun _ => ?_)
      clear hK K
      refine wpAnyH_ready (rs := [10]) (by kernel_rfl) (by simp) ?_
      refine AllReadyH.cons rfl (fun K hK => ?_) AllReadyH.nil
      go_simp
      go_wp2_with fail
      have HT : Keep (Strs (w2.alloc (.cells #[.string c] 9)) (some ⟨w2.heap.size, 0, none⟩) 1 [c]) := ⟨strs_new w2 [c]⟩
      have g3 := World.grownBy_alloc w2 (.cells #[.string c] 9) none
      generalize w2.alloc (.cells #[.string c] 9) = w3 at HT g3 ⊢
      have HJ2 : Keep (JR w3 b s a ∧ w.grownBy w3 none ∧ Kc w3) := ⟨HJ.out.1.kept g3 (by simp), HJ.out.2.1.trans g3, HJ.out.2.2.kept g3 (by simp)⟩
      clear HJ g3
      have HJ := HJ2
      clear HJ2
      refine hK.out _ _ trivial (fun _ => ?_)
      clear hK K
      refine wpAnyH_ready (rs := [11]) (by kernel_rfl) (by simp) ?_
      refine AllReadyH.cons rfl (fun K hK => ?_) AllReadyH.nil
      go_simp
      go_wp2_with fail
      refine (derive_gen (ba (s.drop 8)) turnB _ 1 1 [c] _ HJ.out.2.2 HT.out HKS.out (by decide) (by decide) HP.out).mono ?_
      rintro e w4 ⟨rfl, g4⟩
      have HJ2 : Keep (JR w4 b s a ∧ w.grownBy w4 none) := ⟨HJ.out.1.kept g4 (by simp), HJ.out.2.1.trans g4⟩
      clear HJ g4 HT
      refine hK.out _ _ trivial (fun _ => ?_)
      clear hK K
      generalize deriveB (ba (s.drop 8)) turnB [c] = key at HKL ⊢
      refine wpAnyH_ready (rs := [12]) (by kernel_rfl) (by simp) ?_
      refine AllReadyH.cons rfl (fun K hK => ?_) AllReadyH.nil
      go_simp
      go_wp2_with fail
      refine (follow_c b s a key _ HJ2.out.1 HE.out HKL.out.2).mono ?_
      rintro e w5 ⟨rfl, h5, g5⟩
      have HJ5 : Keep (JR w5 b (turnS s c) s ∧ w.grownBy w5 (some b)) := ⟨by rw [HKL.out.1]; exact h5, (gr_weak HJ2.out.2 _).trans g5⟩
      clear h5 g5
      refine hK.out _ _ trivial (fun _ => ?_)
      clear hK K
      refine wpAnyH_done (by kernel_rfl) ?_ _
      go_wp2_with fail
      go_end0
      exact ⟨rfl, HJ5.out⟩
    refine AllReadyH.cons rfl (fun K hK => ?_) AllReadyH.nil
    go_simp
    go_wp2_with fail
    have HT : Keep (Strs (w1.alloc (.cells #[.string c] 9)) (some ⟨w1.heap.size, 0, none⟩) 1 [c]) := ⟨strs_new w1 [c]⟩
    have g3 := World.grownBy_alloc w1 (.cells #[.string c] 9) none
    generalize w1.alloc (.cells #[.string c] 9) = w3 at HT g3 ⊢
    have HJ2 : Keep (JR w3 b s a ∧ w.grownBy w3 none ∧ Kc w3) := ⟨HJ.out.1.kept g3 (by simp), HJ.out.2.1.trans g3, HJ.out.2.2.kept g3 (by simp)⟩
    clear HJ g3
    have HJ := HJ2
    clear HJ2
    refine hK.out _ _ trivial (fun _ => ?_)
    clear hK K
    refine wpAnyH_ready (rs := [8]) (by kernel_rfl) (by simp) ?_
    refine AllReadyH.cons rfl (fun K hK => ?_) AllReadyH.nil
    go_simp
    go_wp2_with fail
    refine (key_c s _ _ ⟨rfl⟩ hls).mono ?_
    rintro e w2 ⟨rfl, g2⟩
    have HJ2 : Keep (JR w2 b s a ∧ w.grownBy w2 none ∧ Kc w2) := ⟨HJ.out.1.kept g2 (by simp), HJ.out.2.1.trans g2, HJ.out.2.2.kept g2 (by simp)⟩
    have HT2 := Keep.mk (HT.out.kept g2)
    clear HT
    have HT := HT2
    clear HT2
    clear HJ g2
    have HJ := HJ2
    clear HJ2
    refine hK.out _ _ trivial (fun _ => ?_)
    clear hK K
    refine wpAnyH_ready (rs := [11]) (by kernel_rfl) (by simp) ?_
    refine AllReadyH.cons rfl (fun K hK => ?_) AllReadyH.nil
    go_simp
    go_wp2_with fail
    refine (derive_gen (ba (s.drop 8)) turnB _ 1 1 [c] _ HJ.out.2.2 HT.out HKS.out (by decide) (by decide) HP.out).mono ?_
    rintro e w4 ⟨rfl, g4⟩
    have HJ2 : Keep (JR w4 b s a ∧ w.grownBy w4 none) := ⟨HJ.out.1.kept g4 (by simp), HJ.out.2.1.trans g4⟩
    clear HJ g4 HT
    refine hK.out _ _ trivial (fun _ => ?_)
    clear hK K
    generalize deriveB (ba (s.drop 8)) turnB [c] = key at HKL ⊢
    refine wpAnyH_ready (rs := [12]) (by kernel_rfl) (by simp) ?_
    refine AllReadyH.cons rfl (fun K hK => ?_) AllReadyH.nil
    go_simp
    go_wp2_with fail
    refine (follow_c b s a key _ HJ2.out.1 HE.out HKL.out.2).mono ?_
    rintro e w5 ⟨rfl, h5, g5⟩
    have HJ5 : Keep (JR w5 b (turnS s c) s ∧ w.grownBy w5 (some b)) := ⟨by rw [HKL.out.1]; exact h5, (gr_weak HJ2.out.2 _).trans g5⟩
    clear h5 g5
    refine hK.out _ _ trivial (fun _ => ?_)
    clear hK K
    refine wpAnyH_done (by kernel_rfl) ?_ _
    go_wp2_with fail
    go_end0
    exact ⟨rfl, HJ5.out⟩
  refine AllReadyH.cons rfl (fun K hK => ?_) AllReadyH.nil
  go_simp
  go_wp2_with fail
  have HT : Keep (Strs (w1.alloc (.cells #[.string c] 9)) (some ⟨w1.heap.size, 0, none⟩) 1 [c]) := ⟨strs_new w1 [c]⟩
  have g3 := World.grownBy_alloc w1 (.cells #[.string c] 9) none
  generalize w1.alloc (.cells #[.string c] 9) = w3 at HT g3 ⊢
  have HJ2 : Keep (JR w3 b s a ∧ w.grownBy w3 none ∧ Kc w3) := ⟨HJ.out.1.kept g3 (by simp), HJ.out.2.1.trans g3, HJ.out.2.2.kept g3 (by simp)⟩
  clear HJ g3
  have HJ := HJ2
  clear HJ2
  refine hK.out _ _ trivial (fun _ => ?_)
  clear hK K
  refine wpAnyH_ready (rs := [7]) (by kernel_rfl) (by simp) ?_
  refine AllReadyH.cons rfl (fun K hK => ?_) AllReadyH.nil
  rw [if_pos (by rfl)]
  refine wp_load_mid 52 _ rfl _ _ rfl _ _ HJ.out.1.now under52 rfl HI.out ?_
  refine hK.out _ _ trivial (fun _ => ?_)
  clear hK K
  refine wpAnyH_ready (rs := [8]) (by kernel_rfl) (by simp) ?_
  refine AllReadyH.cons rfl (fun K hK => ?_) AllReadyH.nil
  go_simp
  go_wp2_with fail
  refine (key_c s _ _ ⟨rfl⟩ hls).mono ?_
  rintro e w2 ⟨rfl, g2⟩
  have HJ2 : Keep (JR w2 b s a ∧ w.grownBy w2 none ∧ Kc w2) := ⟨HJ.out.1.kept g2 (by simp), HJ.out.2.1.trans g2, HJ.out.2.2.kept g2 (by simp)⟩
  have HT2 := Keep.mk (HT.out.kept g2)
  clear HT
  have HT := HT2
  clear HT2
  clear HJ g2
  have HJ := HJ2
  clear HJ2
  refine hK.out _ _ trivial (fun _ => ?_)
  clear hK K
  refine wpAnyH_ready (rs := [11]) (by kernel_rfl) (by simp) ?_
  refine AllReadyH.cons rfl (fun K hK => ?_) AllReadyH.nil
  go_simp
  go_wp2_with fail
  refine (derive_gen (ba (s.drop 8)) turnB _ 1 1 [c] _ HJ.out.2.2 HT.out HKS.out (by decide) (by decide) HP.out).mono ?_
  rintro e w4 ⟨rfl, g4⟩
  have HJ2 : Keep (JR w4 b s a ∧ w.grownBy w4 none) := ⟨HJ.out.1.kept g4 (by simp), HJ.out.2.1.trans g4⟩
  clear HJ g4 HT
  refine hK.out _ _ trivial (fun _ => ?_)
  clear hK K
  generalize deriveB (ba (s.drop 8)) turnB [c] = key at HKL ⊢
  refine wpAnyH_ready (rs := [12]) (by kernel_rfl) (by simp) ?_
  refine AllReadyH.cons rfl (fun K hK => ?_) AllReadyH.nil
  go_simp
  go_wp2_with fail
  refine (follow_c b s a key _ HJ2.out.1 HE.out HKL.out.2).mono ?_
  rintro e w5 ⟨rfl, h5, g5⟩
  have HJ5 : Keep (JR w5 b (turnS s c) s ∧ w.grownBy w5 (some b)) := ⟨by rw [HKL.out.1]; exact h5, (gr_weak HJ2.out.2 _).trans g5⟩
  clear h5 g5
  refine hK.out _ _ trivial (fun _ => ?_)
  clear hK K
  refine wpAnyH_done (by kernel_rfl) ?_ _
  go_wp2_with fail
  go_end0
  exact ⟨rfl, HJ5.out⟩
end Go.Proofs.YtbmnlhmelbhjeaaDoor
