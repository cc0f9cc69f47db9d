/- ring: Push. -/
import Derived.Test.YtflglflggeaokaaSA2
import Derived.Deep.RegionHeld
namespace Go.Proofs.Ytflglflggeaokaa.Str
open Go Go.RowKit

theorem push_full (rb : Nat) (v : Value) (sz : Nat) (L : List ByteArray) (x : ByteArray) (w : World) (h : RingAt w rb v sz L) (hl : L.length = sz) :
    Calls Try.prog 18 #[.pointer (some ⟨rb, 0, none⟩), .string x] w fun e w' => e = .returned (.int .i64 111) ∧ ∃ n, w' = w.drewN n := by
  obtain ⟨f, P, hh, _, h5, h6, _⟩ := h.st
  have h3 : w.cell? ⟨rb, 3, none⟩ = some (.int .i64 (L.length : Nat)) := hh.cellv 3 _ rfl
  have h0 : w.cell? ⟨rb, 0, none⟩ = some (.int .i64 (sz : Nat)) := hh.cellv 0 _ rfl
  rw [hl] at h3
  clear hh h h5 h6 hl
  go_enter Try.func18, Try.ntmps18
  go_wp2_with fail
  go_quiet (fail)
  go_wp2_with fail
  go_ret
  exact ⟨rfl, _, rfl⟩

/-- what Push leaves -/
structure Pushed (w w' : World) (rb : Nat) (v v' : Value) (sz : Nat) (L : List ByteArray) : Prop where
  r : RingAt w' rb v' sz L
  f : Fr (RF rb v) w w'
  n : ∀ k, v'.ownBlock = some k → v.ownBlock = some k ∨ w.heap.size ≤ k

theorem push_tail (rb pb m f c sz : Nat) (P L : List ByteArray) (x : ByteArray) (W : World) (hlo : 1 ≤ sz) (hhi : sz ≤ 4096) (hh : Has W rb (rcs sz (.slice (some ⟨pb, 0, none⟩) m m) f c) 68) (hb : Has W pb (P.map sv) 9) (hP : P.length = m) (hL : L.length = c) (hne : pb ≠ rb) (hf : f < m) (hc : c < m) (hm : m ≤ sz) (hr : Rg.RI P f L) :
    RingAt (((W.setCell ⟨pb, (f + c) % m, none⟩ (.string x))).setCell ⟨rb, 3, none⟩ (.int .i64 ((c : Int) + 1))) rb (.slice (some ⟨pb, 0, none⟩) m m) sz (L ++ [x]) ∧ Fr (RF rb (.slice (some ⟨pb, 0, none⟩) m m)) W (((W.setCell ⟨pb, (f + c) % m, none⟩ (.string x))).setCell ⟨rb, 3, none⟩ (.int .i64 ((c : Int) + 1))) := by
  subst hP hL
  refine ⟨⟨hlo, hhi, f, P.set ((f + L.length) % P.length) x, ?_, ⟨.inr ⟨pb, by rw [List.length_set], ?_, hne, by rw [List.length_set]; exact hf⟩⟩, by rw [List.length_set, List.length_append, List.length_singleton]; omega, by rw [List.length_set]; exact hm, hr.push hc x⟩, ?_⟩
  · have := (hh.other ⟨pb, (f + L.length) % P.length, none⟩ (.string x) hne).setCell 3 (.int .i64 ((L.length : Int) + 1))
    rw [List.length_append, List.length_singleton]
    exact this
  · have := (hb.setCell ((f + L.length) % P.length) (.string x)).other ⟨rb, 3, none⟩ (.int .i64 ((L.length : Int) + 1)) (Ne.symm hne)
    rw [List.map_set]
    exact this
  · exact (Fr.ofSome (gr_set _ _ _ _) (.inr rfl)).trans (Fr.ofSome (gr_set _ _ _ _) (.inl rfl))

set_option maxHeartbeats 2000000 in
theorem push_c (rb : Nat) (v : Value) (sz : Nat) (L : List ByteArray) (x : ByteArray) (w : World) (h : RingAt w rb v sz L) (hl : L.length < sz) :
    Calls Try.prog 18 #[.pointer (some ⟨rb, 0, none⟩), .string x] w fun e w' => e = .returned (.int .i64 0) ∧ ∃ v', Pushed w w' rb v v' sz (L ++ [x]) := by
  have hlo := h.lo
  have hhi := h.hi
  have H := h
  obtain ⟨f, P, hh, hp, h5, h6, h7⟩ := h.st
  have h3 : w.cell? ⟨rb, 3, none⟩ = some (.int .i64 (L.length : Nat)) := hh.cellv 3 _ rfl
  have h0 : w.cell? ⟨rb, 0, none⟩ = some (.int .i64 (sz : Nat)) := hh.cellv 0 _ rfl
  have h1 : w.cell? ⟨rb, 1, none⟩ = some v := hh.cellv 1 _ rfl
  obtain ⟨c, hc⟩ : ∃ c, L.length = c := ⟨_, rfl⟩
  rw [hc] at h3 h5 hl
  by_cases hw : c = P.length
  · obtain ⟨a, hv⟩ : ∃ a, v = .slice a c c := by
      rcases hp.or with ⟨e, rfl, _⟩ | ⟨pb, e, _⟩
      · rw [List.length_nil] at hw; rw [hw]; exact ⟨_, e⟩
      · rw [hw]; exact ⟨_, e⟩
    have HWd : Keep (∀ W, RingAt W rb v sz L ∧ Has W rb (rcs sz v f L.length) 68 → _) := ⟨fun W hW => widen_c rb v sz L c f a W hW.1 hW.2 hv hc hl⟩
    have HR : Keep (RingAt w rb v sz L ∧ Has w rb (rcs sz v f L.length) 68) := ⟨H, hh⟩
    have HL : Keep (L.length = c) := ⟨hc⟩
    have hne1 : ((c : Int) == (sz : Int)) = false := by simp; omega
    rw [hv] at h1
    clear hp h5 h6 h7 hh h H hc hw
    go_enter Try.func18, Try.ntmps18
    go_wp2_with fail
    go_quiet (fail)
    go_wp2_with fail
    go_quiet (fail)
    go_wp2_with fail
    generalize hWW : World.drewN w _ = W0
    have HG : Keep (w.grownBy W0 none ∧ RingAt W0 rb v sz L ∧ Has W0 rb (rcs sz v f L.length) 68 ∧ W0.heap.size = w.heap.size) := by
      rw [← hWW]
      exact ⟨⟨gr_drewN _ _ _, HR.out.1.drewN _, HR.out.2, rfl⟩⟩
    clear hWW h0 h1 h3
    refine (HWd.out W0 ⟨HG.out.2.1, HG.out.2.2.1⟩).mono ?_
    rintro e W ⟨rfl, v2, m, hcm, hms, hv2, k1, k2, k3⟩
    subst hv2
    have hwq : w.heap.size = W0.heap.size := HG.out.2.2.2.symm
    obtain ⟨pb, hpb⟩ : ∃ pb, W0.heap.size = pb := ⟨_, rfl⟩
    rw [hpb] at k1 k2
    have hpr : pb ≠ rb := by have := HR.out.1.lt rb (.inl rfl); omega
    rw [HL.out] at k1
    obtain ⟨f, hf0⟩ : ∃ f : Nat, f = 0 := ⟨0, rfl⟩
    replace k1 : Has W rb (rcs sz (.slice (some ⟨pb, 0, none⟩) m m) f c) 68 := by rw [hf0]; exact k1
    have hf : f < m := by omega
    obtain ⟨q, hq⟩ : ∃ q, (f + c) % m = q := ⟨_, rfl⟩
    have hqm : q < m := by rw [← hq]; exact Nat.mod_lt _ (by omega)
    have HHW : Keep (Has W rb (rcs sz (.slice (some ⟨pb, 0, none⟩) m m) f c) 68) := ⟨k1⟩
    have HBW : Keep (Has W pb ((L ++ List.replicate (m - c) (⟨#[]⟩ : ByteArray)).map sv) 9) := ⟨k2⟩
    have HPm : Keep ((L ++ List.replicate (m - c) (⟨#[]⟩ : ByteArray)).length = m) := ⟨by rw [List.length_append, HL.out, List.length_replicate]; omega⟩
    have HT : Keep (∀ n, RingAt ((((W.drewN n).setCell ⟨pb, q, none⟩ (.string x))).setCell ⟨rb, 3, none⟩ (.int .i64 ((c : Int) + 1))) rb (.slice (some ⟨pb, 0, none⟩) m m) sz (L ++ [x]) ∧ Fr (RF rb v) w ((((W.drewN n).setCell ⟨pb, q, none⟩ (.string x))).setCell ⟨rb, 3, none⟩ (.int .i64 ((c : Int) + 1)))) := by
      refine ⟨fun n => ?_⟩
      rw [← hq]
      have := push_tail rb pb m f c sz _ L x (W.drewN n) hlo hhi (k1.drewN n) (k2.drewN n) HPm.out HL.out hpr hf (by omega) hms (by rw [hf0]; exact Rg.RI.wide _ _)
      refine ⟨this.1, ((((Fr.ofNone HG.out.1).then (Fr.of k3) (fun i e => by cases e; exact .inl (.inl rfl))).then (Fr.ofNone (S := fun _ => False) (gr_drewN _ _ _)) (fun _ e => e.elim)).then this.2 (fun i e => ?_))⟩
      rcases e with e | e
      · exact .inl (.inl e)
      · cases e; exact .inr (show w.heap.size ≤ pb by omega)
    have HP : Keep (∀ W, Has W rb (rcs sz (.slice (some ⟨pb, 0, none⟩) m m) f c) 68 → Calls Try.prog 29 #[.pointer (some ⟨rb, 0, none⟩), .int .i64 c] W fun e w' => e = .returned (.int .i64 q) ∧ ∃ n, w' = W.drewN n) := by
      refine ⟨fun W hW => ?_⟩
      have := place_c rb _ pb m f c sz c W hW rfl (by omega) (by omega) hf (by omega) (by omega)
      rw [show ((f : Int) + (c : Int)) % (m : Nat) = (q : Int) by rw [← hq]; simp] at this
      exact this
    have hq1 : (q : Int) < m := by omega
    have hq0 : (0 : Int) ≤ q := by omega
    have hq2 : ((q : Nat) : Int).toNat = q := by omega
    have hwr : IntKind.i64.wrap ((c : Int) + 1) = c + 1 := wi _ (by omega) (by omega)
    have g1 : W.cell? ⟨rb, 1, none⟩ = some (Value.slice (some ⟨pb, 0, none⟩) m m) := HHW.out.cellv 1 _ rfl
    have g3 : W.cell? ⟨rb, 3, none⟩ = some (.int .i64 (c : Nat)) := HHW.out.cellv 3 _ rfl
    have gf3 : W.frozen? ⟨rb, 3, none⟩ = false := HHW.out.frozen _
    have gcq : W.cell? ⟨pb, q, none⟩ ≠ none := by
      rw [HBW.out.cell, List.getElem?_map, List.getElem?_eq_getElem (by rw [HPm.out]; exact hqm)]; simp
    have gfq : W.frozen? ⟨pb, q, none⟩ = false := HBW.out.frozen _
    clear k1 k2 k3 hf hq hf0 HBW HPm HWd HG HR
    go_wp2_with fail
    go_region_held (fun w' => w'.cell? ⟨rb, 1, none⟩ = some (Value.slice (some ⟨pb, 0, none⟩) m m) ∧ w'.cell? ⟨rb, 3, none⟩ = some (.int .i64 (c : Nat))) (first | exact ⟨g1, g3⟩ | exact ⟨(World.cell?_setCell_far _ _ _ _ hpr).trans g1, (World.cell?_setCell_far _ _ _ _ hpr).trans g3⟩)
      ((go_at_call 29; refine (HP.out _ ?_).mono ?_; exact HHW.out; rintro e w' ⟨rfl, n, rfl⟩))
    go_wp2_with fail
    go_ret
    exact ⟨rfl, _, (HT.out _).1, (HT.out _).2, fun k e => by cases e; exact .inr (show w.heap.size ≤ pb by omega)⟩
  · rcases hp.or with ⟨_, rfl, _⟩ | ⟨pb, rfl, hb, hne, hf⟩
    · rw [List.length_nil] at h5 hw; omega
    obtain ⟨m, hm⟩ : ∃ m, P.length = m := ⟨_, rfl⟩
    rw [hc] at hh
    rw [hm] at h1 h6 h5 hf hh hw ⊢
    obtain ⟨q, hq⟩ : ∃ q, (f + c) % m = q := ⟨_, rfl⟩
    have hqm : q < m := by rw [← hq]; exact Nat.mod_lt _ (by omega)
    have HT : Keep (∀ W, Fr (fun _ => False) w W → RingAt (((W.setCell ⟨pb, q, none⟩ (.string x))).setCell ⟨rb, 3, none⟩ (.int .i64 ((c : Int) + 1))) rb (.slice (some ⟨pb, 0, none⟩) m m) sz (L ++ [x]) ∧ Fr (RF rb (.slice (some ⟨pb, 0, none⟩) m m)) w (((W.setCell ⟨pb, q, none⟩ (.string x))).setCell ⟨rb, 3, none⟩ (.int .i64 ((c : Int) + 1)))) := by
      refine ⟨fun W hW => ?_⟩
      rw [← hq]
      have := push_tail rb pb m f c sz P L x W hlo hhi (hh.fr hW (fun e => e)) (hb.fr hW (fun e => e)) hm hc hne hf (by omega) h6 h7
      exact ⟨this.1, (hW.mono (fun _ e => e.elim)).trans this.2⟩
    have HP : Keep (∀ W, Has W rb (rcs sz (.slice (some ⟨pb, 0, none⟩) m m) f c) 68 → Calls Try.prog 29 #[.pointer (some ⟨rb, 0, none⟩), .int .i64 c] W fun e w' => e = .returned (.int .i64 q) ∧ ∃ n, w' = W.drewN n) := by
      refine ⟨fun W hW => ?_⟩
      have := place_c rb _ pb m f c sz c W hW rfl (by omega) (by omega) hf (by omega) (by omega)
      rw [show ((f : Int) + (c : Int)) % (m : Nat) = (q : Int) by rw [← hq]; simp] at this
      exact this
    have hq1 : (q : Int) < m := by omega
    have hq0 : (0 : Int) ≤ q := by omega
    have hq2 : ((q : Nat) : Int).toNat = q := by omega
    have hwr : IntKind.i64.wrap ((c : Int) + 1) = c + 1 := wi _ (by omega) (by omega)
    have hne1 : ((c : Int) == (sz : Int)) = false := by simp; omega
    have hne2 : ((c : Int) == (m : Int)) = false := by simp; omega
    have hpr : pb ≠ rb := hne
    have HH : Keep (Has w rb (rcs sz (.slice (some ⟨pb, 0, none⟩) m m) f c) 68 ∧ Has w pb (P.map sv) 9) := ⟨hh, hb⟩
    have HPm : Keep (P.length = m) := ⟨hm⟩
    clear hh h h5 h6 h7 hb hp H hq hm hc hf hl hw
    go_enter Try.func18, Try.ntmps18
    go_wp2_with fail
    go_quiet (fail)
    go_wp2_with fail
    go_quiet (fail)
    go_wp2_with fail
    generalize hWW : World.drewN (World.drewN w _) _ = W
    have HHW : Keep (Has W rb (rcs sz (.slice (some ⟨pb, 0, none⟩) m m) f c) 68) := ⟨by rw [← hWW]; exact HH.out.1⟩
    have HBW : Keep (Has W pb (P.map sv) 9) := ⟨by rw [← hWW]; exact HH.out.2⟩
    have HW : Keep (∀ n, Fr (fun _ => False) w (W.drewN n)) := ⟨fun n => by rw [← hWW]; exact Fr.ofNone (((gr_drewN _ _ _).trans (gr_drewN _ _ _)).trans (gr_drewN _ _ _))⟩
    have g1 : W.cell? ⟨rb, 1, none⟩ = some (Value.slice (some ⟨pb, 0, none⟩) m m) := HHW.out.cellv 1 _ rfl
    have g3 : W.cell? ⟨rb, 3, none⟩ = some (.int .i64 (c : Nat)) := HHW.out.cellv 3 _ rfl
    have gf3 : W.frozen? ⟨rb, 3, none⟩ = false := HHW.out.frozen _
    have gcq : W.cell? ⟨pb, q, none⟩ ≠ none := by
      rw [HBW.out.cell, List.getElem?_map, List.getElem?_eq_getElem (by rw [HPm.out]; exact hqm)]; simp
    have gfq : W.frozen? ⟨pb, q, none⟩ = false := HBW.out.frozen _
    clear hWW h0 h1 h3 HH HBW HPm
    go_region_held (fun w' => w'.cell? ⟨rb, 1, none⟩ = some (Value.slice (some ⟨pb, 0, none⟩) m m) ∧ w'.cell? ⟨rb, 3, none⟩ = some (.int .i64 (c : Nat))) (first | exact ⟨g1, g3⟩ | exact ⟨(World.cell?_setCell_far _ _ _ _ hpr).trans g1, (World.cell?_setCell_far _ _ _ _ hpr).trans g3⟩)
      ((go_at_call 29; refine (HP.out _ ?_).mono ?_; exact HHW.out; rintro e w' ⟨rfl, n, rfl⟩))
    go_wp2_with fail
    go_ret
    exact ⟨rfl, _, (HT.out _ (HW.out _)).1, (HT.out _ (HW.out _)).2, fun k e => .inl e⟩
end Go.Proofs.Ytflglflggeaokaa.Str
