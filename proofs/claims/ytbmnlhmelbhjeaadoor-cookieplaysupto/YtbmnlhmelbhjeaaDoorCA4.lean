/- cookie: follow, Epoch, Bake, Turn, New, Check -/
import Derived.Test.YtbmnlhmelbhjeaaDoorCA3
namespace Go.Proofs.YtbmnlhmelbhjeaaDoor
open Go Go.RowKit

set_option maxRecDepth 100000 in
set_option maxHeartbeats 4000000 in
theorem jepoch_c (b : Nat) (s a : List UInt8) (w : World) (hj : JR w b s a) :
    Calls Tryd.prog 16 #[.pointer (some ⟨b, 0, none⟩)] w fun e w' => e = .returned (.int .u64 (beN (s.take 8) : Nat)) ∧ w.grownBy w' none := by
  have HJ : Keep (JR w b s a) := ⟨hj⟩
  have HI : Keep ((Tryd.prog.info? 52).map (·.size) = some (s.map bv).length) := ⟨info52 s hj.ls⟩
  have hls := hj.ls
  clear hj
  go_enter Tryd.func16, Tryd.ntmps16
  go_wp2_with (refine wpList_load_mid rfl 52 _ rfl _ _ rfl _ _ HJ.out.now under52 rfl HI.out ?_)
  refine (epoch_c s _ _ ⟨rfl⟩ hls).mono ?_
  rintro e w2 ⟨rfl, g2⟩
  have G2 : Keep (w.grownBy w2 none) := ⟨g2⟩
  clear g2
  go_wp2_with fail
  go_ret
  exact ⟨rfl, G2.out⟩

set_option maxRecDepth 100000 in
set_option maxHeartbeats 4000000 in
theorem jbake_c (b : Nat) (s a : List UInt8) (f n : ByteArray) (w : World) (hj : JR w b s a) (hk : Kc w) (hf : f.size ≤ 9223372036854775807) (hn : n.size ≤ 9223372036854775807) :
    Calls Tryd.prog 11 #[.pointer (some ⟨b, 0, none⟩), .string f, .string n] w fun e w' => e = .returned (.string (bakeS s f n)) ∧ w.grownBy w' none := by
  have HJ : Keep (JR w b s a ∧ Kc w) := ⟨hj, hk⟩
  have HI : Keep ((Tryd.prog.info? 52).map (·.size) = some (s.map bv).length) := ⟨info52 s hj.ls⟩
  have hls := hj.ls
  clear hj hk
  go_enter Tryd.func11, Tryd.ntmps11
  go_wp2_with (refine wpList_load_mid rfl 52 _ rfl _ _ rfl _ _ HJ.out.1.now under52 rfl HI.out ?_)
  refine (bake_c s _ f n _ ⟨rfl⟩ hls HJ.out.2 hf hn).mono ?_
  rintro e w2 ⟨rfl, g2⟩
  have G2 : Keep (w.grownBy w2 none) := ⟨g2⟩
  clear g2
  go_wp2_with fail
  go_ret
  exact ⟨rfl, G2.out⟩

/-- the jar behind a turn with this key -/
def nextS (s : List UInt8) (key : ByteArray) : List UInt8 := Mac.len8 (beN (s.take 8) + 1) ++ sl key
theorem nextS_len (s : List UInt8) (key : ByteArray) (h : key.size = 32) : (nextS s key).length = 40 := by
  rw [nextS, List.length_append, Mac.len8_len, sl_len, h]
theorem JR.set_ahead {w : World} {b : Nat} {s a : List UInt8} (h : JR w b s a) (c : List UInt8) (hc : c.length = 40) : JR (w.setCells b 40 (c.map bv)) b s c := by
  refine ⟨?_, h.ls, hc⟩
  have := h.h.setCells (c.map bv) 40
  rw [over_eq _ _ _ (by rw [List.length_map, List.length_map, List.length_append, h.ls, h.la, hc]; omega), ← List.map_take, ← List.map_drop, ← List.map_append, ← List.map_append] at this
  rw [List.take_append_of_le_length (by rw [h.ls]; omega), List.take_of_length_le (by rw [h.ls]; omega), List.drop_of_length_le (by rw [List.length_append, List.length_map, h.ls, h.la, hc]; omega), List.append_nil] at this
  exact this
theorem JR.set_now {w : World} {b : Nat} {s a : List UInt8} (h : JR w b s a) (c : List UInt8) (hc : c.length = 40) : JR (w.setCells b 0 (c.map bv)) b c a := by
  refine ⟨?_, hc, h.la⟩
  have := h.h.setCells (c.map bv) 0
  rw [over_eq _ _ _ (by rw [List.length_map, List.length_map, List.length_append, h.ls, h.la, hc]; omega), ← List.map_take, ← List.map_drop, ← List.map_append, ← List.map_append] at this
  rw [List.take_zero, List.nil_append, List.length_map, hc, List.drop_append_of_le_length (by rw [h.ls]; omega), List.drop_of_length_le (by rw [h.ls]; omega), List.nil_append] at this
  exact this
theorem JR.there0 {w : World} {b : Nat} {s a : List UInt8} (h : JR w b s a) : w.there b 0 40 := h.h.there 0 40 (by rw [List.length_map, List.length_append, h.ls, h.la]; omega)
theorem JR.there40 {w : World} {b : Nat} {s a : List UInt8} (h : JR w b s a) : w.there b 40 40 := h.h.there 40 40 (by rw [List.length_map, List.length_append, h.ls, h.la]; omega)

theorem wrap1 (e : Nat) (h : e < 18446744073709551615) : IntKind.u64.wrap ((e : Int) + 1) = ((e + 1 : Nat) : Int) := by
  show ((e : Int) + 1) % 18446744073709551616 = _
  omega
theorem of_c' (m : Int) (n : Nat) (key : ByteArray) (w : World) (hm : m = (n : Int)) (hk : key.size = 32) :
    Calls Tryd.prog 21 #[.int .u64 m, .string key] w fun e w' => e = .returned (.agg ((Mac.len8 n ++ sl key).map bv).toArray) ∧ w.grownBy w' none := by
  subst hm; exact of_c n key w hk
set_option maxRecDepth 100000 in
set_option maxHeartbeats 8000000 in
theorem follow_c (b : Nat) (s a : List UInt8) (key : ByteArray) (w : World) (hj : JR w b s a) (he : beN (s.take 8) < 18446744073709551615) (hkey : key.size = 32) :
    Calls Tryd.prog 25 #[.pointer (some ⟨b, 0, none⟩), .string key] w fun e w' => e = .returned (.tuple #[]) ∧ JR w' b (nextS s key) s ∧ w.grownBy w' (some b) := by
  have HJ : Keep (JR w.drew b s a ∧ w.grownBy w.drew (some b)) := ⟨hj.kept (gr_drewN w 1 none) (by simp), gr_drewN w 1 (some b)⟩
  have HI : Keep ((Tryd.prog.info? 52).map (·.size) = some (s.map bv).length) := ⟨info52 s hj.ls⟩
  have hls := hj.ls
  have HN : Keep ((nextS s key).length = 40) := ⟨nextS_len s key hkey⟩
  obtain ⟨e1, he1⟩ : ∃ e1, e1 = beN (s.take 8) := ⟨_, rfl⟩
  have E1 : Keep (beN (s.take 8) = e1) := ⟨he1.symm⟩
  have E2 : Keep (nextS s key = Mac.len8 (e1 + 1) ++ sl key) := ⟨by rw [he1]; rfl⟩
  rw [← he1] at he
  clear hj he1
  go_enter Tryd.func25, Tryd.ntmps25
  go_wp2_with fail
  refine wp_region_held_drew (S := fun _ => True) (by kernel_rfl) trivial (fun hHeld => ?_)
  generalize w.drew = w1 at HJ ⊢
  refine wpAnyH_take (i := 0) (oi := _) (v := ?_) rfl (by kernel_rfl) (by kernel_rfl) (by kernel_rfl) (fun _ _ _ h => h) (Or.inl ⟨by rfl, ?_⟩) (by assumption) ?_
  rotate_left
  · (intro w hSw; go_simp; first | done | (with_reducible rfl))
  simp only [Act.put, List.getElem_toArray, List.getElem_cons_zero, List.setIfInBounds_toArray, List.set_cons_zero, List.set_cons_succ]
  refine wpAnyH_take (i := 1) (oi := _) (v := ?_) rfl (by kernel_rfl) (by kernel_rfl) (by kernel_rfl) (fun _ _ _ h => h) (Or.inl ⟨by rfl, ?_⟩) (by assumption) ?_
  rotate_left
  · (intro w hSw; go_simp; first | done | (with_reducible rfl))
  simp only [Act.put, List.getElem_toArray, List.getElem_cons_succ, List.getElem_cons_zero, List.setIfInBounds_toArray, List.set_cons_zero, List.set_cons_succ]
  refine wpAnyH_take (i := 2) (oi := _) (v := ?_) rfl (by kernel_rfl) (by kernel_rfl) (by kernel_rfl) (fun _ _ _ h => h) (Or.inl ⟨by rfl, ?_⟩) (by assumption) ?_
  rotate_left
  · (intro w hSw; go_simp; first | done | (with_reducible rfl))
  simp only [Act.put, List.getElem_toArray, List.getElem_cons_succ, List.getElem_cons_zero, List.setIfInBounds_toArray, List.set_cons_zero, List.set_cons_succ]
  refine wpAnyH_take (i := 3) (oi := _) (v := ?_) rfl (by kernel_rfl) (by kernel_rfl) (by kernel_rfl) (fun _ _ _ h => h) (Or.inl ⟨by rfl, ?_⟩) (by assumption) ?_
  rotate_left
  · (intro w hSw; go_simp; first | done | (with_reducible rfl))
  simp only [Act.put, List.getElem_toArray, List.getElem_cons_succ, List.getElem_cons_zero, List.setIfInBounds_toArray, List.set_cons_zero, List.set_cons_succ]
  refine wpAnyH_take (i := 4) (oi := _) (v := ?_) rfl (by kernel_rfl) (by kernel_rfl) (by kernel_rfl) (fun _ _ _ h => h) (Or.inl ⟨by rfl, ?_⟩) (by assumption) ?_
  rotate_left
  · (intro w hSw; go_simp; first | done | (with_reducible rfl))
  simp only [Act.put, List.getElem_toArray, List.getElem_cons_succ, List.getElem_cons_zero, List.setIfInBounds_toArray, List.set_cons_zero, List.set_cons_succ]
  refine wpAnyH_take (i := 6) (oi := _) (v := ?_) rfl (by kernel_rfl) (by kernel_rfl) (by kernel_rfl) (fun _ _ _ h => h) (Or.inl ⟨by rfl, ?_⟩) (by assumption) ?_
  rotate_left
  · (intro w hSw; go_simp; first | done | (with_reducible rfl))
  simp only [Act.put, List.getElem_toArray, List.getElem_cons_succ, List.getElem_cons_zero, List.setIfInBounds_toArray, List.set_cons_zero, List.set_cons_succ]
  refine wpAnyH_take (i := 7) (oi := _) (v := ?_) rfl (by kernel_rfl) (by kernel_rfl) (by kernel_rfl) (fun _ _ _ h => h) (Or.inl ⟨by rfl, ?_⟩) (by assumption) ?_
  rotate_left
  · (intro w hSw; go_simp; first | done | (with_reducible rfl))
  simp only [Act.put, List.getElem_toArray, List.getElem_cons_succ, List.getElem_cons_zero, List.setIfInBounds_toArray, List.set_cons_zero, List.set_cons_succ]
  refine wpAnyH_take (i := 8) (oi := _) (v := ?_) rfl (by kernel_rfl) (by kernel_rfl) (by kernel_rfl) (fun _ _ _ h => h) (Or.inl ⟨by rfl, ?_⟩) (by assumption) ?_
  rotate_left
  · (intro w hSw; go_simp; first | done | (with_reducible rfl))
  simp only [Act.put, List.getElem_toArray, List.getElem_cons_succ, List.getElem_cons_zero, List.setIfInBounds_toArray, List.set_cons_zero, List.set_cons_succ]
  refine wpAnyH_take (i := 12) (oi := _) (v := ?_) rfl (by kernel_rfl) (by kernel_rfl) (by kernel_rfl) (fun _ _ _ h => h) (Or.inl ⟨by rfl, ?_⟩) (by assumption) ?_
  rotate_left
  · (intro w hSw; go_simp; first | done | (with_reducible rfl))
  simp only [Act.put, List.getElem_toArray, List.getElem_cons_succ, List.getElem_cons_zero, List.setIfInBounds_toArray, List.set_cons_zero, List.set_cons_succ]
  refine wpAnyH_ready (rs := [5, 9]) (by kernel_rfl) (by simp) ?_
  refine AllReadyH.cons rfl (fun K hK => ?_) ?_
  · rw [if_pos (by rfl)]
    refine wp_load_mid 52 _ rfl _ _ rfl _ _ HJ.out.1.now under52 rfl HI.out ?_
    refine hK.out _ _ trivial (fun _ => ?_)
    clear hK K
    refine wpAnyH_ready (rs := [9]) (by kernel_rfl) (by simp) ?_
    refine AllReadyH.cons rfl (fun K hK => ?_) AllReadyH.nil
    rw [if_pos (by rfl)]
    refine wp_load_mid 52 _ rfl _ _ rfl _ _ HJ.out.1.now under52 rfl HI.out ?_
    refine hK.out _ _ trivial (fun _ => ?_)
    clear hK K
    refine wpAnyH_ready (rs := [10]) (by kernel_rfl) (by simp) ?_
    refine AllReadyH.cons rfl (fun K hK => ?_) AllReadyH.nil
    go_simp
    go_wp2_with fail
    refine (epoch_c s _ _ ⟨rfl⟩ hls).mono ?_
    rintro e w2 ⟨rfl, g2⟩
    rw [E1.out]
    have HJ2 : Keep (JR w2 b s a ∧ w.grownBy w2 (some b)) := ⟨HJ.out.1.kept g2 (by simp), HJ.out.2.trans (gr_weak g2 _)⟩
    clear HJ g2
    have HJ := HJ2
    clear HJ2
    refine hK.out _ _ trivial (fun _ => ?_)
    clear hK K
    refine wpAnyH_ready (rs := [11]) (by kernel_rfl) (by simp) ?_
    refine AllReadyH.cons rfl (fun K hK => ?_) AllReadyH.nil
    go_simp
    go_wp2_with fail
    refine hK.out _ _ trivial (fun _ => ?_)
    clear hK K
    refine wpAnyH_ready (rs := [13]) (by kernel_rfl) (by simp) ?_
    refine AllReadyH.cons rfl (fun K hK => ?_) AllReadyH.nil
    go_simp
    go_wp2_with fail
    refine (of_c' _ (e1 + 1) key _ (wrap1 e1 he) hkey).mono ?_
    rintro e w3 ⟨rfl, g3⟩
    rw [← E2.out]
    have HJ3 : Keep (JR w3 b s a ∧ w.grownBy w3 (some b)) := ⟨HJ.out.1.kept g3 (by simp), HJ.out.2.trans (gr_weak g3 _)⟩
    clear HJ g3
    have HJ := HJ3
    clear HJ3
    refine hK.out _ _ trivial (fun _ => ?_)
    clear hK K
    refine wpAnyH_take (i := 14) (oi := _) (v := ?_) rfl (by kernel_rfl) (by kernel_rfl) (by kernel_rfl) (fun _ _ _ h => h) (Or.inl ⟨by rfl, ?_⟩) (by assumption) ?_
    rotate_left
    · (intro w hSw; go_simp; first | done | (with_reducible rfl))
    simp only [Act.put, List.getElem_toArray, List.getElem_cons_succ, List.getElem_cons_zero, List.setIfInBounds_toArray, List.set_cons_zero, List.set_cons_succ]
    refine wpAnyH_take (i := 15) (oi := _) (v := ?_) rfl (by kernel_rfl) (by kernel_rfl) (by kernel_rfl) (fun _ _ _ h => h) (Or.inl ⟨by rfl, ?_⟩) (by assumption) ?_
    rotate_left
    · (intro w hSw; go_simp; first | done | (with_reducible rfl))
    simp only [Act.put, List.getElem_toArray, List.getElem_cons_succ, List.getElem_cons_zero, List.setIfInBounds_toArray, List.set_cons_zero, List.set_cons_succ]
    refine wpAnyH_ready (rs := [16]) (by kernel_rfl) (by simp) ?_
    refine AllReadyH.cons rfl (fun K hK => ?_) AllReadyH.nil
    rw [if_pos (by rfl)]
    refine wp_store_mid 52 _ _ rfl _ _ _ rfl rfl (by rw [List.size_toArray, List.length_map, hls]; exact HJ.out.1.there40) HI.out (bytes_one _) ?_
    generalize hw4 : World.setCells _ _ _ _ = w4
    have HJ4 : Keep (JR w4 b s s ∧ w.grownBy w4 (some b)) := ⟨by rw [← hw4]; exact HJ.out.1.set_ahead s hls, by rw [← hw4]; exact HJ.out.2.trans (gr_sets _ _ _ _)⟩
    clear HJ hw4
    have HJ := HJ4
    clear HJ4
    refine hK.out _ _ trivial (fun _ => ?_)
    clear hK K
    refine wpAnyH_take (i := 17) (oi := _) (v := ?_) rfl (by kernel_rfl) (by kernel_rfl) (by kernel_rfl) (fun _ _ _ h => h) (Or.inl ⟨by rfl, ?_⟩) (by assumption) ?_
    rotate_left
    · (intro w hSw; go_simp; first | done | (with_reducible rfl))
    simp only [Act.put, List.getElem_toArray, List.getElem_cons_succ, List.getElem_cons_zero, List.setIfInBounds_toArray, List.set_cons_zero, List.set_cons_succ]
    refine wpAnyH_take (i := 18) (oi := _) (v := ?_) rfl (by kernel_rfl) (by kernel_rfl) (by kernel_rfl) (fun _ _ _ h => h) (Or.inl ⟨by rfl, ?_⟩) (by assumption) ?_
    rotate_left
    · (intro w hSw; go_simp; first | done | (with_reducible rfl))
    simp only [Act.put, List.getElem_toArray, List.getElem_cons_succ, List.getElem_cons_zero, List.setIfInBounds_toArray, List.set_cons_zero, List.set_cons_succ]
    refine wpAnyH_ready (rs := [19]) (by kernel_rfl) (by simp) ?_
    refine AllReadyH.cons rfl (fun K hK => ?_) AllReadyH.nil
    rw [if_pos (by rfl)]
    refine wp_store_mid 52 _ _ rfl _ _ _ rfl rfl (by rw [List.size_toArray, List.length_map, HN.out]; exact HJ.out.1.there0) (info52 _ HN.out) (bytes_one _) ?_
    generalize hw5 : World.setCells _ _ _ _ = w5
    have HJ5 : Keep (JR w5 b (nextS s key) s ∧ w.grownBy w5 (some b)) := ⟨by rw [← hw5]; exact HJ.out.1.set_now _ HN.out, by rw [← hw5]; exact HJ.out.2.trans (gr_sets _ _ _ _)⟩
    clear HJ hw5
    refine hK.out _ _ trivial (fun _ => ?_)
    clear hK K
    refine wpAnyH_done (by kernel_rfl) ?_ _
    go_wp2_with fail
    go_end0
    exact ⟨rfl, HJ5.out⟩
  refine AllReadyH.cons rfl (fun K hK => ?_) AllReadyH.nil
  rw [if_pos (by rfl)]
  refine wp_load_mid 52 _ rfl _ _ rfl _ _ HJ.out.1.now under52 rfl HI.out ?_
  refine hK.out _ _ trivial (fun _ => ?_)
  clear hK K
  refine wpAnyH_ready (rs := [5, 10]) (by kernel_rfl) (by simp) ?_
  refine AllReadyH.cons rfl (fun K hK => ?_) ?_
  · rw [if_pos (by rfl)]
    refine wp_load_mid 52 _ rfl _ _ rfl _ _ HJ.out.1.now under52 rfl HI.out ?_
    refine hK.out _ _ trivial (fun _ => ?_)
    clear hK K
    refine wpAnyH_ready (rs := [10]) (by kernel_rfl) (by simp) ?_
    refine AllReadyH.cons rfl (fun K hK => ?_) AllReadyH.nil
    go_simp
    go_wp2_with fail
    refine (epoch_c s _ _ ⟨rfl⟩ hls).mono ?_
    rintro e w2 ⟨rfl, g2⟩
    rw [E1.out]
    have HJ2 : Keep (JR w2 b s a ∧ w.grownBy w2 (some b)) := ⟨HJ.out.1.kept g2 (by simp), HJ.out.2.trans (gr_weak g2 _)⟩
    clear HJ g2
    have HJ := HJ2
    clear HJ2
    refine hK.out _ _ trivial (fun _ => ?_)
    clear hK K
    refine wpAnyH_ready (rs := [11]) (by kernel_rfl) (by simp) ?_
    refine AllReadyH.cons rfl (fun K hK => ?_) AllReadyH.nil
    go_simp
    go_wp2_with fail
    refine hK.out _ _ trivial (fun _ => ?_)
    clear hK K
    refine wpAnyH_ready (rs := [13]) (by kernel_rfl) (by simp) ?_
    refine AllReadyH.cons rfl (fun K hK => ?_) AllReadyH.nil
    go_simp
    go_wp2_with fail
    refine (of_c' _ (e1 + 1) key _ (wrap1 e1 he) hkey).mono ?_
    rintro e w3 ⟨rfl, g3⟩
    rw [← E2.out]
    have HJ3 : Keep (JR w3 b s a ∧ w.grownBy w3 (some b)) := ⟨HJ.out.1.kept g3 (by simp), HJ.out.2.trans (gr_weak g3 _)⟩
    clear HJ g3
    have HJ := HJ3
    clear HJ3
    refine hK.out _ _ trivial (fun _ => ?_)
    clear hK K
    refine wpAnyH_take (i := 14) (oi := _) (v := ?_) rfl (by kernel_rfl) (by kernel_rfl) (by kernel_rfl) (fun _ _ _ h => h) (Or.inl ⟨by rfl, ?_⟩) (by assumption) ?_
    rotate_left
    · (intro w hSw; go_simp; first | done | (with_reducible rfl))
    simp only [Act.put, List.getElem_toArray, List.getElem_cons_succ, List.getElem_cons_zero, List.setIfInBounds_toArray, List.set_cons_zero, List.set_cons_succ]
    refine wpAnyH_take (i := 15) (oi := _) (v := ?_) rfl (by kernel_rfl) (by kernel_rfl) (by kernel_rfl) (fun _ _ _ h => h) (Or.inl ⟨by rfl, ?_⟩) (by assumption) ?_
    rotate_left
    · (intro w hSw; go_simp; first | done | (with_reducible rfl))
    simp only [Act.put, List.getElem_toArray, List.getElem_cons_succ, List.getElem_cons_zero, List.setIfInBounds_toArray, List.set_cons_zero, List.set_cons_succ]
    refine wpAnyH_ready (rs := [16]) (by kernel_rfl) (by simp) ?_
    refine AllReadyH.cons rfl (fun K hK => ?_) AllReadyH.nil
    rw [if_pos (by rfl)]
    refine wp_store_mid 52 _ _ rfl _ _ _ rfl rfl (by rw [List.size_toArray, List.length_map, hls]; exact HJ.out.1.there40) HI.out (bytes_one _) ?_
    generalize hw4 : World.setCells _ _ _ _ = w4
    have HJ4 : Keep (JR w4 b s s ∧ w.grownBy w4 (some b)) := ⟨by rw [← hw4]; exact HJ.out.1.set_ahead s hls, by rw [← hw4]; exact HJ.out.2.trans (gr_sets _ _ _ _)⟩
    clear HJ hw4
    have HJ := HJ4
    clear HJ4
    refine hK.out _ _ trivial (fun _ => ?_)
    clear hK K
    refine wpAnyH_take (i := 17) (oi := _) (v := ?_) rfl (by kernel_rfl) (by kernel_rfl) (by kernel_rfl) (fun _ _ _ h => h) (Or.inl ⟨by rfl, ?_⟩) (by assumption) ?_
    rotate_left
    · (intro w hSw; go_simp; first | done | (with_reducible rfl))
    simp only [Act.put, List.getElem_toArray, List.getElem_cons_succ, List.getElem_cons_zero, List.setIfInBounds_toArray, List.set_cons_zero, List.set_cons_succ]
    refine wpAnyH_take (i := 18) (oi := _) (v := ?_) rfl (by kernel_rfl) (by kernel_rfl) (by kernel_rfl) (fun _ _ _ h => h) (Or.inl ⟨by rfl, ?_⟩) (by assumption) ?_
    rotate_left
    · (intro w hSw; go_simp; first | done | (with_reducible rfl))
    simp only [Act.put, List.getElem_toArray, List.getElem_cons_succ, List.getElem_cons_zero, List.setIfInBounds_toArray, List.set_cons_zero, List.set_cons_succ]
    refine wpAnyH_ready (rs := [19]) (by kernel_rfl) (by simp) ?_
    refine AllReadyH.cons rfl (fun K hK => ?_) AllReadyH.nil
    rw [if_pos (by rfl)]
    refine wp_store_mid 52 _ _ rfl _ _ _ rfl rfl (by rw [List.size_toArray, List.length_map, HN.out]; exact HJ.out.1.there0) (info52 _ HN.out) (bytes_one _) ?_
    generalize hw5 : World.setCells _ _ _ _ = w5
    have HJ5 : Keep (JR w5 b (nextS s key) s ∧ w.grownBy w5 (some b)) := ⟨by rw [← hw5]; exact HJ.out.1.set_now _ HN.out, by rw [← hw5]; exact HJ.out.2.trans (gr_sets _ _ _ _)⟩
    clear HJ hw5
    refine hK.out _ _ trivial (fun _ => ?_)
    clear hK K
    refine wpAnyH_done (by kernel_rfl) ?_ _
    go_wp2_with fail
    go_end0
    exact ⟨rfl, HJ5.out⟩
  refine AllReadyH.cons rfl (fun K hK => ?_) AllReadyH.nil
  go_simp
  go_wp2_with fail
  refine (epoch_c s _ _ ⟨rfl⟩ hls).mono ?_
  rintro e w2 ⟨rfl, g2⟩
  rw [E1.out]
  have HJ2 : Keep (JR w2 b s a ∧ w.grownBy w2 (some b)) := ⟨HJ.out.1.kept g2 (by simp), HJ.out.2.trans (gr_weak g2 _)⟩
  clear HJ g2
  have HJ := HJ2
  clear HJ2
  refine hK.out _ _ trivial (fun _ => ?_)
  clear hK K
  refine wpAnyH_ready (rs := [5, 11]) (by kernel_rfl) (by simp) ?_
  refine AllReadyH.cons rfl (fun K hK => ?_) ?_
  · rw [if_pos (by rfl)]
    refine wp_load_mid 52 _ rfl _ _ rfl _ _ HJ.out.1.now under52 rfl HI.out ?_
    refine hK.out _ _ trivial (fun _ => ?_)
    clear hK K
    refine wpAnyH_ready (rs := [11]) (by kernel_rfl) (by simp) ?_
    refine AllReadyH.cons rfl (fun K hK => ?_) AllReadyH.nil
    go_simp
    go_wp2_with fail
    refine hK.out _ _ trivial (fun _ => ?_)
    clear hK K
    refine wpAnyH_ready (rs := [13]) (by kernel_rfl) (by simp) ?_
    refine AllReadyH.cons rfl (fun K hK => ?_) AllReadyH.nil
    go_simp
    go_wp2_with fail
    refine (of_c' _ (e1 + 1) key _ (wrap1 e1 he) hkey).mono ?_
    rintro e w3 ⟨rfl, g3⟩
    rw [← E2.out]
    have HJ3 : Keep (JR w3 b s a ∧ w.grownBy w3 (some b)) := ⟨HJ.out.1.kept g3 (by simp), HJ.out.2.trans (gr_weak g3 _)⟩
    clear HJ g3
    have HJ := HJ3
    clear HJ3
    refine hK.out _ _ trivial (fun _ => ?_)
    clear hK K
    refine wpAnyH_take (i := 14) (oi := _) (v := ?_) rfl (by kernel_rfl) (by kernel_rfl) (by kernel_rfl) (fun _ _ _ h => h) (Or.inl ⟨by rfl, ?_⟩) (by assumption) ?_
    rotate_left
    · (intro w hSw; go_simp; first | done | (with_reducible rfl))
    simp only [Act.put, List.getElem_toArray, List.getElem_cons_succ, List.getElem_cons_zero, List.setIfInBounds_toArray, List.set_cons_zero, List.set_cons_succ]
    refine wpAnyH_take (i := 15) (oi := _) (v := ?_) rfl (by kernel_rfl) (by kernel_rfl) (by kernel_rfl) (fun _ _ _ h => h) (Or.inl ⟨by rfl, ?_⟩) (by assumption) ?_
    rotate_left
    · (intro w hSw; go_simp; first | done | (with_reducible rfl))
    simp only [Act.put, List.getElem_toArray, List.getElem_cons_succ, List.getElem_cons_zero, List.setIfInBounds_toArray, List.set_cons_zero, List.set_cons_succ]
    refine wpAnyH_ready (rs := [16]) (by kernel_rfl) (by simp) ?_
    refine AllReadyH.cons rfl (fun K hK => ?_) AllReadyH.nil
    rw [if_pos (by rfl)]
    refine wp_store_mid 52 _ _ rfl _ _ _ rfl rfl (by rw [List.size_toArray, List.length_map, hls]; exact HJ.out.1.there40) HI.out (bytes_one _) ?_
    generalize hw4 : World.setCells _ _ _ _ = w4
    have HJ4 : Keep (JR w4 b s s ∧ w.grownBy w4 (some b)) := ⟨by rw [← hw4]; exact HJ.out.1.set_ahead s hls, by rw [← hw4]; exact HJ.out.2.trans (gr_sets _ _ _ _)⟩
    clear HJ hw4
    have HJ := HJ4
    clear HJ4
    refine hK.out _ _ trivial (fun _ => ?_)
    clear hK K
    refine wpAnyH_take (i := 17) (oi := _) (v := ?_) rfl (by kernel_rfl) (by kernel_rfl) (by kernel_rfl) (fun _ _ _ h => h) (Or.inl ⟨by rfl, ?_⟩) (by assumption) ?_
    rotate_left
    · (intro w hSw; go_simp; first | done | (with_reducible rfl))
    simp only [Act.put, List.getElem_toArray, List.getElem_cons_succ, List.getElem_cons_zero, List.setIfInBounds_toArray, List.set_cons_zero, List.set_cons_succ]
    refine wpAnyH_take (i := 18) (oi := _) (v := ?_) rfl (by kernel_rfl) (by kernel_rfl) (by kernel_rfl) (fun _ _ _ h => h) (Or.inl ⟨by rfl, ?_⟩) (by assumption) ?_
    rotate_left
    · (intro w hSw; go_simp; first | done | (with_reducible rfl))
    simp only [Act.put, List.getElem_toArray, List.getElem_cons_succ, List.getElem_cons_zero, List.setIfInBounds_toArray, List.set_cons_zero, List.set_cons_succ]
    refine wpAnyH_ready (rs := [19]) (by kernel_rfl) (by simp) ?_
    refine AllReadyH.cons rfl (fun K hK => ?_) AllReadyH.nil
    rw [if_pos (by rfl)]
    refine wp_store_mid 52 _ _ rfl _ _ _ rfl rfl (by rw [List.size_toArray, List.length_map, HN.out]; exact HJ.out.1.there0) (info52 _ HN.out) (bytes_one _) ?_
    generalize hw5 : World.setCells _ _ _ _ = w5
    have HJ5 : Keep (JR w5 b (nextS s key) s ∧ w.grownBy w5 (some b)) := ⟨by rw [← hw5]; exact HJ.out.1.set_now _ HN.out, by rw [← hw5]; exact HJ.out.2.trans (gr_sets _ _ _ _)⟩
    clear HJ hw5
    refine hK.out _ _ trivial (fun _ => ?_)
    clear hK K
    refine wpAnyH_done (by kernel_rfl) ?_ _
    go_wp2_with fail
    go_end0
    exact ⟨rfl, HJ5.out⟩
  refine AllReadyH.cons rfl (fun K hK => ?_) AllReadyH.nil
  go_simp
  go_wp2_with fail
  refine hK.out _ _ trivial (fun _ => ?_)
  clear hK K
  refine wpAnyH_ready (rs := [5, 13]) (by kernel_rfl) (by simp) ?_
  refine AllReadyH.cons rfl (fun K hK => ?_) ?_
  · rw [if_pos (by rfl)]
    refine wp_load_mid 52 _ rfl _ _ rfl _ _ HJ.out.1.now under52 rfl HI.out ?_
    refine hK.out _ _ trivial (fun _ => ?_)
    clear hK K
    refine wpAnyH_ready (rs := [13]) (by kernel_rfl) (by simp) ?_
    refine AllReadyH.cons rfl (fun K hK => ?_) AllReadyH.nil
    go_simp
    go_wp2_with fail
    refine (of_c' _ (e1 + 1) key _ (wrap1 e1 he) hkey).mono ?_
    rintro e w3 ⟨rfl, g3⟩
    rw [← E2.out]
    have HJ3 : Keep (JR w3 b s a ∧ w.grownBy w3 (some b)) := ⟨HJ.out.1.kept g3 (by simp), HJ.out.2.trans (gr_weak g3 _)⟩
    clear HJ g3
    have HJ := HJ3
    clear HJ3
    refine hK.out _ _ trivial (fun _ => ?_)
    clear hK K
    refine wpAnyH_take (i := 14) (oi := _) (v := ?_) rfl (by kernel_rfl) (by kernel_rfl) (by kernel_rfl) (fun _ _ _ h => h) (Or.inl ⟨by rfl, ?_⟩) (by assumption) ?_
    rotate_left
    · (intro w hSw; go_simp; first | done | (with_reducible rfl))
    simp only [Act.put, List.getElem_toArray, List.getElem_cons_succ, List.getElem_cons_zero, List.setIfInBounds_toArray, List.set_cons_zero, List.set_cons_succ]
    refine wpAnyH_take (i := 15) (oi := _) (v := ?_) rfl (by kernel_rfl) (by kernel_rfl) (by kernel_rfl) (fun _ _ _ h => h) (Or.inl ⟨by rfl, ?_⟩) (by assumption) ?_
    rotate_left
    · (intro w hSw; go_simp; first | done | (with_reducible rfl))
    simp only [Act.put, List.getElem_toArray, List.getElem_cons_succ, List.getElem_cons_zero, List.setIfInBounds_toArray, List.set_cons_zero, List.set_cons_succ]
    refine wpAnyH_ready (rs := [16]) (by kernel_rfl) (by simp) ?_
    refine AllReadyH.cons rfl (fun K hK => ?_) AllReadyH.nil
    rw [if_pos (by rfl)]
    refine wp_store_mid 52 _ _ rfl _ _ _ rfl rfl (by rw [List.size_toArray, List.length_map, hls]; exact HJ.out.1.there40) HI.out (bytes_one _) ?_
    generalize hw4 : World.setCells _ _ _ _ = w4
    have HJ4 : Keep (JR w4 b s s ∧ w.grownBy w4 (some b)) := ⟨by rw [← hw4]; exact HJ.out.1.set_ahead s hls, by rw [← hw4]; exact HJ.out.2.trans (gr_sets _ _ _ _)⟩
    clear HJ hw4
    have HJ := HJ4
    clear HJ4
    refine hK.out _ _ trivial (fun _ => ?_)
    clear hK K
    refine wpAnyH_take (i := 17) (oi := _) (v := ?_) rfl (by kernel_rfl) (by kernel_rfl) (by kernel_rfl) (fun _ _ _ h => h) (Or.inl ⟨by rfl, ?_⟩) (by assumption) ?_
    rotate_left
    · (intro w hSw; go_simp; first | done | (with_reducible rfl))
    simp only [Act.put, List.getElem_toArray, List.getElem_cons_succ, List.getElem_cons_zero, List.setIfInBounds_toArray, List.set_cons_zero, List.set_cons_succ]
    refine wpAnyH_take (i := 18) (oi := _) (v := ?_) rfl (by kernel_rfl) (by kernel_rfl) (by kernel_rfl) (fun _ _ _ h => h) (Or.inl ⟨by rfl, ?_⟩) (by assumption) ?_
    rotate_left
    · (intro w hSw; go_simp; first | done | (with_reducible rfl))
    simp only [Act.put, List.getElem_toArray, List.getElem_cons_succ, List.getElem_cons_zero, List.setIfInBounds_toArray, List.set_cons_zero, List.set_cons_succ]
    refine wpAnyH_ready (rs := [19]) (by kernel_rfl) (by simp) ?_
    refine AllReadyH.cons rfl (fun K hK => ?_) AllReadyH.nil
    rw [if_pos (by rfl)]
    refine wp_store_mid 52 _ _ rfl _ _ _ rfl rfl (by rw [List.size_toArray, List.length_map, HN.out]; exact HJ.out.1.there0) (info52 _ HN.out) (bytes_one _) ?_
    generalize hw5 : World.setCells _ _ _ _ = w5
    have HJ5 : Keep (JR w5 b (nextS s key) s ∧ w.grownBy w5 (some b)) := ⟨by rw [← hw5]; exact HJ.out.1.set_now _ HN.out, by rw [← hw5]; exact HJ.out.2.trans (gr_sets _ _ _ _)⟩
    clear HJ hw5
    refine hK.out _ _ trivial (fun _ => ?_)
    clear hK K
    refine wpAnyH_done (by kernel_rfl) ?_ _
    go_wp2_with fail
    go_end0
    exact ⟨rfl, HJ5.out⟩
  refine AllReadyH.cons rfl (fun K hK => ?_) AllReadyH.nil
  go_simp
  go_wp2_with fail
  refine (of_c' _ (e1 + 1) key _ (wrap1 e1 he) hkey).mono ?_
  rintro e w3 ⟨rfl, g3⟩
  rw [← E2.out]
  have HJ3 : Keep (JR w3 b s a ∧ w.grownBy w3 (some b)) := ⟨HJ.out.1.kept g3 (by simp), HJ.out.2.trans (gr_weak g3 _)⟩
  clear HJ g3
  have HJ := HJ3
  clear HJ3
  refine hK.out _ _ trivial (fun _ => ?_)
  clear hK K
  refine wpAnyH_ready (rs := [5]) (by kernel_rfl) (by simp) ?_
  refine AllReadyH.cons rfl (fun K hK => ?_) AllReadyH.nil
  rw [if_pos (by rfl)]
  refine wp_load_mid 52 _ rfl _ _ rfl _ _ HJ.out.1.now under52 rfl HI.out ?_
  refine hK.out _ _ trivial (fun _ => ?_)
  clear hK K
  refine wpAnyH_take (i := 14) (oi := _) (v := ?_) rfl (by kernel_rfl) (by kernel_rfl) (by kernel_rfl) (fun _ _ _ h => h) (Or.inl ⟨by rfl, ?_⟩) (by assumption) ?_
  rotate_left
  · (intro w hSw; go_simp; first | done | (with_reducible rfl))
  simp only [Act.put, List.getElem_toArray, List.getElem_cons_succ, List.getElem_cons_zero, List.setIfInBounds_toArray, List.set_cons_zero, List.set_cons_succ]
  refine wpAnyH_take (i := 15) (oi := _) (v := ?_) rfl (by kernel_rfl) (by kernel_rfl) (by kernel_rfl) (fun _ _ _ h => h) (Or.inl ⟨by rfl, ?_⟩) (by assumption) ?_
  rotate_left
  · (intro w hSw; go_simp; first | done | (with_reducible rfl))
  simp only [Act.put, List.getElem_toArray, List.getElem_cons_succ, List.getElem_cons_zero, List.setIfInBounds_toArray, List.set_cons_zero, List.set_cons_succ]
  refine wpAnyH_ready (rs := [16]) (by kernel_rfl) (by simp) ?_
  refine AllReadyH.cons rfl (fun K hK => ?_) AllReadyH.nil
  rw [if_pos (by rfl)]
  refine wp_store_mid 52 _ _ rfl _ _ _ rfl rfl (by rw [List.size_toArray, List.length_map, hls]; exact HJ.out.1.there40) HI.out (bytes_one _) ?_
  generalize hw4 : World.setCells _ _ _ _ = w4
  have HJ4 : Keep (JR w4 b s s ∧ w.grownBy w4 (some b)) := ⟨by rw [← hw4]; exact HJ.out.1.set_ahead s hls, by rw [← hw4]; exact HJ.out.2.trans (gr_sets _ _ _ _)⟩
  clear HJ hw4
  have HJ := HJ4
  clear HJ4
  refine hK.out _ _ trivial (fun _ => ?_)
  clear hK K
  refine wpAnyH_take (i := 17) (oi := _) (v := ?_) rfl (by kernel_rfl) (by kernel_rfl) (by kernel_rfl) (fun _ _ _ h => h) (Or.inl ⟨by rfl, ?_⟩) (by assumption) ?_
  rotate_left
  · (intro w hSw; go_simp; first | done | (with_reducible rfl))
  simp only [Act.put, List.getElem_toArray, List.getElem_cons_succ, List.getElem_cons_zero, List.setIfInBounds_toArray, List.set_cons_zero, List.set_cons_succ]
  refine wpAnyH_take (i := 18) (oi := _) (v := ?_) rfl (by kernel_rfl) (by kernel_rfl) (by kernel_rfl) (fun _ _ _ h => h) (Or.inl ⟨by rfl, ?_⟩) (by assumption) ?_
  rotate_left
  · (intro w hSw; go_simp; first | done | (with_reducible rfl))
  simp only [Act.put, List.getElem_toArray, List.getElem_cons_succ, List.getElem_cons_zero, List.setIfInBounds_toArray, List.set_cons_zero, List.set_cons_succ]
  refine wpAnyH_ready (rs := [19]) (by kernel_rfl) (by simp) ?_
  refine AllReadyH.cons rfl (fun K hK => ?_) AllReadyH.nil
  rw [if_pos (by rfl)]
  refine wp_store_mid 52 _ _ rfl _ _ _ rfl rfl (by rw [List.size_toArray, List.length_map, HN.out]; exact HJ.out.1.there0) (info52 _ HN.out) (bytes_one _) ?_
  generalize hw5 : World.setCells _ _ _ _ = w5
  have HJ5 : Keep (JR w5 b (nextS s key) s ∧ w.grownBy w5 (some b)) := ⟨by rw [← hw5]; exact HJ.out.1.set_now _ HN.out, by rw [← hw5]; exact HJ.out.2.trans (gr_sets _ _ _ _)⟩
  clear HJ hw5
  refine hK.out _ _ trivial (fun _ => ?_)
  clear hK K
  refine wpAnyH_done (by kernel_rfl) ?_ _
  go_wp2_with fail
  go_end0
  exact ⟨rfl, HJ5.out⟩
end Go.Proofs.YtbmnlhmelbhjeaaDoor
