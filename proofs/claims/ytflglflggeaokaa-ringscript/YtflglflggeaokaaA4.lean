/- ring: Pop. -/
import Derived.Test.YtflglflggeaokaaA2
import Derived.Deep.RegionHeld
namespace Go.Proofs.Ytflglflggeaokaa
open Go Go.RowKit

theorem pop_no (rb : Nat) (v : Value) (sz : Nat) (w : World) (h : RingAt w rb v sz []) :
    Calls Try.prog 13 #[.pointer (some ⟨rb, 0, none⟩)] w fun e w' => e = .returned (.tuple #[.int .i64 0, .bool false]) ∧ w' = w := by
  have hc := at_no rb v sz [] 0 w h (by simp)
  clear h
  go_enter Try.func13, Try.ntmps13
  go_wp2_with fail
  refine hc.mono ?_
  rintro e w' ⟨rfl, rfl⟩
  go_wp2_with fail
  go_ret2
  exact ⟨rfl, rfl⟩

theorem pop_tail (rb pb m f f2 c sz : Nat) (P L : List Int) (x : Int) (W : World) (hlo : 1 ≤ sz) (hhi : sz ≤ 4096) (hh : Has W rb (rcs sz (.slice (some ⟨pb, 0, none⟩) m m) f c) 65) (hb : Has W pb (P.map iv) 3) (hP : P.length = m) (hL : (x :: L).length = c) (hne : pb ≠ rb) (hf : f < m) (hc : c ≤ m) (hm : m ≤ sz) (hr : Rg.RI P f (x :: L)) (hf2 : (f + 1) % m = f2) (n : Nat) :
    RingAt ((((W.setCell ⟨pb, f, none⟩ (.int .i64 0)).drewN n).setCell ⟨rb, 2, none⟩ (.int .i64 f2)).setCell ⟨rb, 3, none⟩ (.int .i64 ((c : Int) - 1))) rb (.slice (some ⟨pb, 0, none⟩) m m) sz L ∧ Fr (RF rb (.slice (some ⟨pb, 0, none⟩) m m)) W ((((W.setCell ⟨pb, f, none⟩ (.int .i64 0)).drewN n).setCell ⟨rb, 2, none⟩ (.int .i64 f2)).setCell ⟨rb, 3, none⟩ (.int .i64 ((c : Int) - 1))) := by
  subst hP hL hf2
  rw [List.length_cons] at hc
  have hl : ((List.length (x :: L) : Nat) : Int) - 1 = (L.length : Nat) := by simp
  rw [hl]
  refine ⟨⟨hlo, hhi, (f + 1) % P.length, P.set f 0, ?_, ⟨.inr ⟨pb, by rw [List.length_set], ?_, hne, by rw [List.length_set]; exact Nat.mod_lt _ (by omega)⟩⟩, by rw [List.length_set]; omega, by rw [List.length_set]; exact hm, hr.pop hf (by omega) 0⟩, ?_⟩
  · exact (((hh.other ⟨pb, f, none⟩ (.int .i64 0) hne).drewN n).setCell 2 _).setCell 3 _
  · have := (((hb.setCell f (.int .i64 0)).drewN n).other ⟨rb, 2, none⟩ (.int .i64 ((f + 1) % P.length : Nat)) (Ne.symm hne)).other ⟨rb, 3, none⟩ (.int .i64 (L.length : Nat)) (Ne.symm hne)
    rw [List.map_set]
    exact this
  · exact (((Fr.ofSome (gr_set _ _ _ _) (.inr rfl)).trans (Fr.ofNone (gr_drewN _ n _))).trans (Fr.ofSome (gr_set _ _ _ _) (.inl rfl))).trans (Fr.ofSome (gr_set _ _ _ _) (.inl rfl))

set_option maxHeartbeats 1000000 in
theorem pop_c (rb : Nat) (v : Value) (sz : Nat) (L : List Int) (x : Int) (w : World) (h : RingAt w rb v sz (x :: L)) :
    Calls Try.prog 13 #[.pointer (some ⟨rb, 0, none⟩)] w fun e w' => e = .returned (.tuple #[.int .i64 x, .bool true]) ∧ RingAt w' rb v sz L ∧ Fr (RF rb v) w w' ∧ w'.heap.size = w.heap.size := by
  have hlo := h.lo
  have hhi := h.hi
  have hat := at_yes rb v sz (x :: L) 0 x w h rfl
  obtain ⟨f, P, hh, hp, h5, h6, h7⟩ := h.st
  obtain ⟨c, hc⟩ : ∃ c, (x :: L).length = c := ⟨_, rfl⟩
  rw [hc] at hh h5
  rcases hp.or with ⟨_, rfl, _⟩ | ⟨pb, rfl, hb, hne, hf⟩
  · simp at h5; simp at hc; omega
  obtain ⟨m, hm⟩ : ∃ m, P.length = m := ⟨_, rfl⟩
  rw [hm] at h6 h5 hf hh ⊢
  have hc1 : 1 ≤ c := by rw [← hc]; simp
  obtain ⟨f2, hf2⟩ : ∃ f2, (f + 1) % m = f2 := ⟨_, rfl⟩
  have HT : Keep (∀ W : World, Has W rb (rcs sz (.slice (some ⟨pb, 0, none⟩) m m) f c) 65 → Has W pb (P.map iv) 3 → ∀ n, _) := ⟨fun W a b n => pop_tail rb pb m f f2 c sz P L x W hlo hhi a b hm hc hne hf h5 h6 h7 hf2 n⟩
  have HP : Keep (∀ W, Has W rb (rcs sz (.slice (some ⟨pb, 0, none⟩) m m) f c) 65 → Calls Try.prog 27 #[.pointer (some ⟨rb, 0, none⟩), .int .i64 1] W fun e w' => e = .returned (.int .i64 f2) ∧ ∃ n, w' = W.drewN n) := by
    refine ⟨fun W hW => ?_⟩
    have := place_c rb _ pb m f c sz 1 W hW rfl (by omega) (by omega) hf (by omega) (by omega)
    rw [show ((f : Int) + 1) % (m : Nat) = (f2 : Int) by rw [← hf2]; simp] at this
    exact this
  have HH : Keep (Has w rb (rcs sz (.slice (some ⟨pb, 0, none⟩) m m) f c) 65 ∧ Has w pb (P.map iv) 3 ∧ P.length = m) := ⟨hh, hb, hm⟩
  have hq1 : (f : Int) < m := by omega
  have hq2 : ((f : Nat) : Int).toNat = f := by omega
  have hwr : IntKind.i64.wrap ((c : Int) - 1) = c - 1 := wi _ (by omega) (by omega)
  clear hh h h5 h6 h7 hb hp hm hc hf2 hc1
  go_enter Try.func13, Try.ntmps13
  go_wp2_with fail
  refine hat.mono ?_
  rintro e w1 ⟨rfl, k, rfl⟩
  clear hat
  go_wp2_with fail
  generalize hWW : World.drewN w k = W
  have HHW : Keep (Has W rb (rcs sz (.slice (some ⟨pb, 0, none⟩) m m) f c) 65) := ⟨by rw [← hWW]; exact HH.out.1⟩
  have HBW : Keep (Has W pb (P.map iv) 3) := ⟨by rw [← hWW]; exact HH.out.2.1⟩
  have g1 : W.cell? ⟨rb, 1, none⟩ = some (Value.slice (some ⟨pb, 0, none⟩) m m) := HHW.out.cellv 1 _ rfl
  have g2 : W.cell? ⟨rb, 2, none⟩ = some (.int .i64 (f : Nat)) := HHW.out.cellv 2 _ rfl
  have g3 : W.cell? ⟨rb, 3, none⟩ = some (.int .i64 (c : Nat)) := HHW.out.cellv 3 _ rfl
  have gf2 : W.frozen? ⟨rb, 2, none⟩ = false := HHW.out.frozen _
  have gf3 : W.frozen? ⟨rb, 3, none⟩ = false := HHW.out.frozen _
  have gcq : W.cell? ⟨pb, f, none⟩ ≠ none := by
    rw [HBW.out.cell, List.getElem?_map, List.getElem?_eq_getElem (by rw [HH.out.2.2]; exact hf)]; simp
  have gfq : W.frozen? ⟨pb, f, none⟩ = false := HBW.out.frozen _
  have HW : Keep (∀ n, Fr (RF rb (.slice (some ⟨pb, 0, none⟩) m m)) w (W.drewN n) ∧ W.heap.size = w.heap.size) := ⟨fun n => by rw [← hWW]; exact ⟨Fr.ofNone ((gr_drewN _ _ _).trans (gr_drewN _ _ _)), rfl⟩⟩
  clear hWW
  go_region_held (fun w' => w'.cell? ⟨rb, 1, none⟩ = some (Value.slice (some ⟨pb, 0, none⟩) m m) ∧ w'.cell? ⟨rb, 2, none⟩ = some (.int .i64 (f : Nat))) (first | exact ⟨g1, g2⟩ | exact ⟨(World.cell?_setCell_far _ _ _ _ hne).trans g1, (World.cell?_setCell_far _ _ _ _ hne).trans g2⟩) (fail)
  go_wp2_with fail
  refine (HP.out _ ?_).mono ?_
  · exact HHW.out.other _ _ hne
  rintro e w' ⟨rfl, n, rfl⟩
  go_wp2_with fail
  go_ret2
  exact ⟨rfl, (HT.out W HHW.out HBW.out _).1, (HW.out 0).1.trans (HT.out W HHW.out HBW.out _).2, by simp [World.setCell, (HW.out 0).2]⟩

/-- what Pops leave -/
structure Popped (w w' : World) (rb : Nat) (v : Value) (sz : Nat) (L : List Int) : Prop where
  r : RingAt w' rb v sz L
  f : Fr (RF rb v) w w'
/-- Take, under way -/
structure Tk (w w' : World) (rb : Nat) (v : Value) (sz : Nat) (L : List Int) (n k : Nat) : Prop where
  r : RingAt w' rb v sz (L.drop k)
  f : Fr (RF rb v) w w'
  h : Has w' w.heap.size (((L.take n).take k ++ List.replicate (n - k) 0).map iv) 3
  s : w'.heap.size = w.heap.size + 1
theorem Tk.step {w w1 w2 : World} {rb : Nat} {v : Value} {sz : Nat} {L : List Int} {n k : Nat} {x : Int} (h : Tk w w1 rb v sz L n k) (hn : n ≤ L.length) (hx : (L.take n)[k]? = some x) (hlt : ∀ i, RF rb v i → i < w.heap.size) (r : RingAt w2 rb v sz (L.drop (k + 1))) (f : Fr (RF rb v) w1 w2) (s : w2.heap.size = w1.heap.size) :
    Tk w (w2.setCell ⟨w.heap.size, k, none⟩ (.int .i64 x)) rb v sz L n (k + 1) := by
  have hne : ∀ i, RF rb v i → i ≠ w.heap.size := fun i hi => by have := hlt i hi; omega
  refine ⟨r.fr (Fr.of (gr_set _ _ _ _)) (fun i hi e => by cases e; exact hne _ hi rfl), (h.f.trans f).then (Fr.of (gr_set _ _ _ _)) (fun i e => by cases e; exact .inr (Nat.le_refl _)), ?_, by simp [World.setCell, s, h.s]⟩
  have h2 := (h.h.fr f (fun e => hne _ e rfl)).setCell k (.int .i64 x)
  obtain ⟨hl, e⟩ := List.getElem?_eq_some_iff.1 hx
  have hlt : (L.take n).length = n := by rw [List.length_take]; omega
  have hk : k < n := by omega
  rw [show (Value.int .i64 x) = iv x from rfl, ← List.map_set, List.set_append_right _ _ (by rw [List.length_take]; omega), List.length_take, Nat.min_eq_left (by omega), Nat.sub_self, show n - k = (n - (k + 1)) + 1 by omega, List.replicate_succ, List.set_cons_zero] at h2
  rw [List.take_succ_eq_append_getElem hl, e, List.append_assoc]
  exact h2
theorem tk_there {L : List Int} {n k : Nat} (hn : n ≤ L.length) (hk : k < n) : k < ((L.take n).take k ++ List.replicate (n - k) (0 : Int)).length := by
  rw [List.length_append, List.length_take, List.length_take, List.length_replicate]; omega

structure Taken (w w' : World) (rb : Nat) (v : Value) (sz : Nat) (L : List Int) (k : Nat) : Prop where
  le : k ≤ L.length
  h : Has w' w.heap.size ((L.take k).map iv) 3
  r : RingAt w' rb v sz (L.drop k)
  f : Fr (RF rb v) w w'
  s : w'.heap.size = w.heap.size + 1
set_option maxHeartbeats 1000000 in
theorem take_c (rb : Nat) (v : Value) (sz : Nat) (L : List Int) (n : Int) (k : Nat) (w : World) (h : RingAt w rb v sz L) (hk : k = (min n (L.length : Nat)).toNat) :
    Calls Try.prog 12 #[.pointer (some ⟨rb, 0, none⟩), .int .i64 n] w fun e w' => e = .returned (.slice (some ⟨w.heap.size, 0, none⟩) k k) ∧ Taken w w' rb v sz L k := by
  have hlt := h.lt
  have HR : Keep (RingAt w rb v sz L) := ⟨h⟩
  have hhi := h.hi
  obtain ⟨f, P, hh, _, h5, h6, _⟩ := h.st
  have h3 : w.cell? ⟨rb, 3, none⟩ = some (.int .i64 (L.length : Nat)) := hh.cellv 3 _ rfl
  have hL : L.length ≤ 4096 := by omega
  clear hh h h5 h6
  obtain ⟨c, hc⟩ : ∃ c, L.length = c := ⟨_, rfl⟩
  have hkc : k ≤ c := by omega
  obtain ⟨M, hM⟩ : ∃ M : Int, (if (c : Int) < n then (c : Int) else n) = M := ⟨_, rfl⟩
  have he : (if 0 < M then M else 0) = (k : Int) := by rw [← hM]; split <;> split <;> omega
  have HK : Keep (True ∧ L.length = c ∧ ∀ i, RF rb v i → i < w.heap.size) := ⟨trivial, hc, hlt⟩
  rw [hc] at h3 hL
  clear hk hlt hc
  obtain ⟨w2, hmk, hz, hg, hs⟩ := mk22 k (by omega) w
  have H0 : Keep (Tk w w2 rb v sz L k 0) := ⟨by simpa using HR.out.kept hg, Fr.ofNone hg, by simpa using hz, hs⟩
  clear hz hg hs
  go_enter Try.func12, Try.ntmps12
  go_wp2_with fail
  go_loopw [17] (fun u wr => ∃ i : Int, 0 ≤ i ∧ i ≤ k ∧ u = .int .i64 i ∧ Keep (Tk w wr rb v sz L k i.toNat)) (fun u _ => (k - (intOf u)).toNat)
  case atStart => exact ⟨0, by omega, by omega, rfl, H0⟩
  case round =>
    obtain ⟨i, hi0, hin, rfl, hF⟩ := hrel
    by_cases hlt : i < k
    · obtain ⟨x, hx⟩ : ∃ x, L[i.toNat]? = some x := ⟨_, List.getElem?_eq_getElem (by rw [HK.out.2.1]; omega)⟩
      have hd : L.drop i.toNat = x :: L.drop (i.toNat + 1) := by
        obtain ⟨q, e⟩ := List.getElem?_eq_some_iff.1 hx
        rw [← e]; exact List.drop_eq_getElem_cons q
      have hr := hF.out.r
      rw [hd] at hr
      have HX : Keep ((L.take k)[i.toNat]? = some x) := ⟨by rw [List.getElem?_take, if_pos (by omega)]; exact hx⟩
      have hw : IntKind.i64.wrap (i + 1) = i + 1 := wi _ (by omega) (by omega)
      have hcall := pop_c rb v sz _ x wr hr
      clear hx hd hr
      go_wp2_with fail
      refine hcall.mono ?_
      rintro e w3 ⟨rfl, r3, f3, s3⟩
      have H3 : Keep (Tk w (w3.setCell ⟨w.heap.size, i.toNat, none⟩ (.int .i64 x)) rb v sz L k (i.toNat + 1)) := ⟨hF.out.step (by rw [HK.out.2.1]; exact hkc) HX.out HK.out.2.2 r3 f3 s3⟩
      have hh3 : Has w3 w.heap.size (((L.take k).take i.toNat ++ List.replicate (k - i.toNat) 0).map iv) 3 := hF.out.h.fr f3 (fun e => by have := HK.out.2.2 _ e; omega)
      have hf3 : w3.frozen? ⟨w.heap.size, i.toNat, none⟩ = false := hh3.frozen _
      have hc3 : w3.cell? ⟨w.heap.size, i.toNat, none⟩ ≠ none := by
        rw [hh3.cell, List.getElem?_map, List.getElem?_eq_getElem (tk_there (by rw [HK.out.2.1]; exact hkc) (by omega))]; simp
      clear hcall r3 f3 s3 hh3
      go_wp2_with fail
      refine ⟨⟨i + 1, by omega, by omega, rfl, ?_⟩, by simp only [intOf]; omega⟩
      rw [show (i + 1).toNat = i.toNat + 1 by omega]
      exact H3
    · have hi : i = k := by omega
      subst hi
      have hF2 := hF
      rw [Int.toNat_natCast] at hF2
      go_wp2_with fail
      go_ret
      refine ⟨rfl, by rw [HK.out.2.1]; exact hkc, ?_, hF2.out.r, hF2.out.f, hF2.out.s⟩
      have := hF2.out.h
      rwa [List.take_take, Nat.min_self, Nat.sub_self, List.replicate_zero, List.append_nil] at this
end Go.Proofs.Ytflglflggeaokaa
