import Derived.Test.YtiphnlfbgbemfaaGreatDoorX8
import Derived.Deep.DeepCutAuto
/- FrameBack's walk -/
namespace Go.Proofs.YtiphnlfbgbemfaaGreatDoor.Pk
open Go Go.RowKit
theorem okd_small {d : Dg} (h : Okd d) : d.small := ⟨by have := h.n; omega, by have := h.c; omega, by have := h.m; omega, by have := h.s; omega, by have := h.dt; omega, by have := h.t; omega⟩
set_option maxHeartbeats 32000000 in
set_option maxRecDepth 100000 in
theorem back_c (d : Dg) (data : ByteArray) (w : World) (hk : Kc w) (hd : d.fine ∧ d.small) (hdata : data.size ≤ 1048576) :
    Calls Tryz.prog 4 #[dv d, .string data] w fun e w' => e = .returned (.bool true) ∧ w.grownBy w' none := by
  obtain ⟨du, hdu, hdr⟩ := under26
  have HK := Keep.mk hk
  obtain ⟨s, hs⟩ : ∃ x, ba (enc d).1 = x := ⟨_, rfl⟩
  obtain ⟨e, he⟩ : ∃ x, (enc d).2 = x := ⟨_, rfl⟩
  obtain ⟨x, hx⟩ : ∃ x, (dec (sl data)).1 = x := ⟨_, rfl⟩
  obtain ⟨g, hg⟩ : ∃ x, (dec (sl data)).2 = x := ⟨_, rfl⟩
  obtain ⟨D1, hD1⟩ : ∃ x, onlyD d = x := ⟨_, rfl⟩
  have HE : Keep (∀ W, Calls Tryz.prog 12 #[.agg d.cells.toArray] W fun e' w' => e' = .returned (.tuple #[.string s, .int .i64 e]) ∧ W.grownBy w' none) := ⟨fun W => by have := encode_c d hd.1 hd.2 W; rw [hs, he] at this; exact this⟩
  have HD : Keep (∀ W, Calls Tryz.prog 11 #[.string data] W fun e w' => e = .returned (.tuple #[.agg x.cells.toArray, .int .i64 g]) ∧ W.grownBy w' none) := ⟨fun W => by have := decode_c data W (by omega); rw [hx, hg] at this; exact this⟩
  have HB : Keep (∀ W, Calls Tryz.prog 14 #[.string data] W fun e w' => e = .returned (.string (bodyB data)) ∧ W.grownBy w' none) := ⟨fun W => body_c data W (by omega)⟩
  have HE0 : Keep (e = 0 → ∀ W, Calls Tryz.prog 11 #[.string s] W fun e w' => e = .returned (.tuple #[.agg D1.cells.toArray, .int .i64 0]) ∧ W.grownBy w' none) := ⟨fun h0 W => by
    have h := dec_enc d hd.1 (by rw [he]; exact h0)
    have hl := enc_le d
    have := decode_c s W (by rw [← hs, ba_size]; omega)
    rw [show sl s = (enc d).1 by rw [← hs]; exact sl_mk _, h, hD1] at this
    exact this⟩
  have HO1 : Keep (e = 0 → ∀ W, Calls Tryz.prog 13 #[.agg d.cells.toArray] W fun e w' => e = .returned (.agg D1.cells.toArray) ∧ W.grownBy w' none) := ⟨fun h0 W => by
    have hkk : 1 ≤ d.kind ∧ d.kind ≤ 7 := by
      refine Classical.byContradiction (fun hc => ?_)
      have hn : fieldsL d.kind = [] := fieldsL_nil (by omega)
      rw [enc, if_pos hn] at he
      rw [← he] at h0; cases h0
    have := only_c d W hkk
    rw [hD1] at this; exact this⟩
  have HEN : Keep (e ≠ 0 → s = nob ∧ 71 ≤ e ∧ e ≤ 73) := ⟨fun h0 => by
    rcases enc_codes d hd.1 with q | q
    · exact absurd (he.symm.trans q) h0
    · rw [← hs, ← he, q.1]; exact ⟨rfl, q.2⟩⟩
  have HGN : Keep (g ≠ 0 → x = Dg.zero 0 ∧ 70 ≤ g ∧ g ≤ 73) := ⟨fun h0 => by
    rcases dec_codes (sl data) with q | q
    · exact absurd (hg.symm.trans q) h0
    · rw [← hx, ← hg]; exact q⟩
  have HG0 : Keep (g = 0 → (∀ W, Calls Tryz.prog 12 #[.agg x.cells.toArray] W fun e w' => e = .returned (.tuple #[.string data, .int .i64 0]) ∧ W.grownBy w' none) ∧ (∀ W, Calls Tryz.prog 13 #[.agg x.cells.toArray] W fun e w' => e = .returned (.agg x.cells.toArray) ∧ W.grownBy w' none) ∧ (decide (bodyB data = nob) = decide (x.kind ≤ 2))) := ⟨fun h0 => by
    obtain ⟨b1, b2, b3, b4, b5⟩ := dec_back (s := sl data) (by rw [hg]; exact h0)
    rw [hx] at b1 b2 b3 b4 b5
    refine ⟨fun W => ?_, fun W => ?_, ?_⟩
    · have := encode_c x b3.f (okd_small b3) W
      rw [b1] at this
      dsimp only at this
      rw [show ba (sl data) = data from sl_back data] at this
      exact this
    · have := only_c x W b5
      rw [b2] at this; exact this
    · have e1 : bodyB data = nob ↔ bodyL (sl data) = [] := by
        rw [bodyB]
        constructor
        · intro q; have := congrArg sl q; rw [show sl (ba (bodyL (sl data))) = bodyL (sl data) from sl_mk _] at this; exact this
        · intro q; rw [q]; rfl
      by_cases hq : x.kind ≤ 2
      · rw [decide_eq_true hq, decide_eq_true (e1.2 (b4.2 hq))]
      · rw [decide_eq_false hq, decide_eq_false (fun c => hq (b4.1 (e1.1 c)))]⟩
  obtain ⟨w0, hw0⟩ : ∃ q, w.alloc (.cells d.cells.toArray 26) = q := ⟨_, rfl⟩
  obtain ⟨h1, g1⟩ := alloc_has hw0
  have HC : Keep (Has w0 w.heap.size d.cells 26 ∧ w.grownBy w0 none) := ⟨h1, g1⟩
  have q1 : w.alloc (.cells #[.int .i64 d.kind, .string d.nonce, .int .u64 d.epoch, .string d.cookie, .string d.name, .int .u64 d.session, .int .i64 d.player, .string d.salt, .int .u64 d.seq, .int .i64 d.thr, .int .i64 d.turn, .bool d.fire, .bool d.boost, .string d.data, .string d.tag] 26) = w0 := hw0
  clear hw0 h1 g1 hs he hx hg hD1 hd hdata hk
  unfold dv
  go_enter Tryz.func4, Tryz.ntmps4
  go_wp2_with fail
  clear q1
  generalize w.heap.size = b2 at *
  refine (alive_c w0 (HK.out.kept HC.out.2 (by simp))).mono ?_
  rintro e' w1 ⟨rfl, gn⟩
  replace HC : Keep (Has w1 b2 d.cells 26 ∧ w.grownBy w1 none) := ⟨(HC.out.1).kept gn (by simp), (HC.out.2).trans gn⟩
  clear gn
  go_wp2_with (refine wpList_load_mid rfl 26 _ rfl _ _ rfl d.cells _ (HC.out.1).range hdu hdr info26 ?_)
  refine (HE.out w1).mono ?_
  rintro e' w2 ⟨rfl, gn⟩
  replace HC : Keep (Has w2 b2 d.cells 26 ∧ w.grownBy w2 none) := ⟨(HC.out.1).kept gn (by simp), (HC.out.2).trans gn⟩
  clear gn
  by_cases he0 : e = 0
  · subst he0
    have o1 := Keep.mk (HO1.out rfl)
    have o2 := Keep.mk (HE0.out rfl)
    clear HO1 HEN HE0
    go_wp2_with fail
    refine (o2.out _).mono ?_
    rintro e' w3 ⟨rfl, gn⟩
    replace HC : Keep (Has w3 b2 d.cells 26 ∧ w.grownBy w3 none) := ⟨(HC.out.1).kept gn (by simp), (HC.out.2).trans gn⟩
    clear gn o2
    go_wp2_with (
      (refine store_dg w3 D1 rfl rfl rfl rfl rfl ?_
       intro w4 hs gs
       obtain ⟨b7, hblk⟩ : ∃ q, w3.heap.size = q := ⟨_, rfl⟩
       rw [hblk] at hs
       have HC2 : Keep (Has w4 b7 D1.cells 26 ∧ Has w4 b2 d.cells 26 ∧ w.grownBy w4 none) := ⟨hs, (HC.out.1).kept gs (by simp), HC.out.2.trans gs⟩
       clear hs gs))
    clear hblk HC
    have HH : Keep (Has w4.drew b7 D1.cells 26 ∧ Has w4.drew b2 d.cells 26 ∧ w.grownBy w4.drew none) := ⟨HC2.out.1.kept (gr_drew _ none) (by simp), HC2.out.2.1.kept (gr_drew _ none) (by simp), HC2.out.2.2.trans (gr_drew _ _)⟩
    refine wp_region_held_drew (S := fun w' => Has w' b7 D1.cells 26 ∧ Has w' b2 d.cells 26 ∧ w.grownBy w' none) (by kernel_rfl) HH.out (fun hHeld => ?_)
    refine wpAnyH_take (i := 0) (oi := _) (v := ?_) rfl (by kernel_rfl) (by kernel_rfl) (by kernel_rfl) (fun _ _ _ h => h) (Or.inl ⟨by rfl, ?_⟩) (by assumption) ?_
    rotate_left
    · (intro w hSw; go_simp; first | done | (with_reducible rfl))
    simp only [Act.put, List.getElem_toArray, List.getElem_cons_zero, List.setIfInBounds_toArray, List.set_cons_zero, List.set_cons_succ]
    refine wpAnyH_take (i := 1) (oi := _) (v := ?_) rfl (by kernel_rfl) (by kernel_rfl) (by kernel_rfl) (fun _ _ _ h => h) (Or.inl ⟨by rfl, ?_⟩) (by assumption) ?_
    rotate_left
    · (intro w hSw; go_simp; first | done | (with_reducible rfl))
    simp only [Act.put, List.getElem_toArray, List.getElem_cons_succ, List.getElem_cons_zero, List.setIfInBounds_toArray, List.set_cons_zero, List.set_cons_succ]
    refine wpAnyH_take (i := 2) (oi := _) (v := ?_) rfl (by kernel_rfl) (by kernel_rfl) (by kernel_rfl) (fun _ _ _ h => h) (Or.inl ⟨by rfl, ?_⟩) (by assumption) ?_
    rotate_left
    · (intro w hSw; go_simp; first | done | (with_reducible rfl))
    simp only [Act.put, List.getElem_toArray, List.getElem_cons_succ, List.getElem_cons_zero, List.setIfInBounds_toArray, List.set_cons_zero, List.set_cons_succ]
    refine wpAnyH_take (i := 3) (oi := _) (v := .agg D1.cells.toArray) rfl (by kernel_rfl) (by kernel_rfl) (by kernel_rfl) (fun _ _ _ h => h) (yieldsIf_load_mid (by rfl) 26 _ rfl b7 0 rfl D1.cells du (fun w h => h.1.range) hdu hdr info26) (by assumption) ?_
    simp only [Act.put, List.getElem_toArray, List.getElem_cons_succ, List.getElem_cons_zero, List.setIfInBounds_toArray, List.set_cons_zero, List.set_cons_succ]
    refine wpAnyH_take (i := 4) (oi := _) (v := .agg d.cells.toArray) rfl (by kernel_rfl) (by kernel_rfl) (by kernel_rfl) (fun _ _ _ h => h) (yieldsIf_load_mid (by rfl) 26 _ rfl b2 0 rfl d.cells du (fun w h => h.2.1.range) hdu hdr info26) (by assumption) ?_
    simp only [Act.put, List.getElem_toArray, List.getElem_cons_succ, List.getElem_cons_zero, List.setIfInBounds_toArray, List.set_cons_zero, List.set_cons_succ]
    refine wpAnyH_ready (rs := [5]) (by kernel_rfl) (by simp) ?_
    refine AllReadyH.cons rfl (fun K hK => ?_) AllReadyH.nil
    go_simp
    refine (o1.out _).mono ?_
    rintro e' w5 ⟨rfl, gn⟩
    have HS : Keep (Has w5 b7 D1.cells 26 ∧ Has w5 b2 d.cells 26 ∧ w.grownBy w5 none) := ⟨HH.out.1.kept gn (by simp), HH.out.2.1.kept gn (by simp), HH.out.2.2.trans gn⟩
    clear gn
    refine hK.out _ _ HS.out (fun hHeld => ?_)
    clear hK K
    refine wpAnyH_take (i := 6) (oi := _) (v := ?_) rfl (by kernel_rfl) (by kernel_rfl) (by kernel_rfl) (fun _ _ _ h => h) (Or.inl ⟨by rfl, ?_⟩) (by assumption) ?_
    rotate_left
    · (intro w hSw; have hEq := eqI26 D1 w; have hE2 := neq26 D1 w; go_simp; first | done | (with_reducible rfl))
    simp only [Act.put, List.getElem_toArray, List.getElem_cons_succ, List.getElem_cons_zero, List.setIfInBounds_toArray, List.set_cons_zero, List.set_cons_succ]
    refine wpAnyH_take (i := 7) (oi := _) (v := ?_) rfl (by kernel_rfl) (by kernel_rfl) (by kernel_rfl) (fun _ _ _ h => h) (Or.inl ⟨by rfl, ?_⟩) (by assumption) ?_
    rotate_left
    · (intro w hSw; go_simp; first | done | (with_reducible rfl))
    simp only [Act.put, List.getElem_toArray, List.getElem_cons_succ, List.getElem_cons_zero, List.setIfInBounds_toArray, List.set_cons_zero, List.set_cons_succ]
    refine wpAnyH_done (by kernel_rfl) ?_ _
    have HC : Keep (w.grownBy w5 none) := ⟨HS.out.2.2⟩
    clear HS HH HC2 hHeld
    go_wp2_with fail
    refine (HD.out _).mono ?_
    rintro e' wa ⟨rfl, gn⟩
    have HGa : Keep (w.grownBy wa none) := ⟨HC.out.trans gn⟩
    clear gn HC
    by_cases hg0 : g = 0
    · subst hg0
      obtain ⟨c1, c2, c3⟩ := HG0.out rfl
      have c1 := Keep.mk c1
      have c2 := Keep.mk c2
      have c3 := Keep.mk c3
      clear HG0 HGN
      go_wp2_with (first
        | (refine store_dg wa x rfl rfl rfl rfl rfl ?_
           intro wb hs gs
           obtain ⟨b9, hblk⟩ : ∃ q, wa.heap.size = q := ⟨_, rfl⟩
           rw [hblk] at hs
           have HC2 : Keep (Has wb b9 x.cells 26 ∧ w.grownBy wb none) := ⟨hs, HGa.out.trans gs⟩
           clear hs gs)
        | (refine wpList_load_mid rfl 26 _ rfl _ _ rfl x.cells _ (HC2.out.1).range hdu hdr info26 ?_))
      refine (c1.out _).mono ?_
      rintro e' wd ⟨rfl, gn⟩
      replace HC2 : Keep (Has wd b9 x.cells 26 ∧ w.grownBy wd none) := ⟨HC2.out.1.kept gn (by simp), HC2.out.2.trans gn⟩
      clear gn c1
      go_wp2_with fail
      clear hblk
      by_cases hk2 : x.kind ≤ 2
      · have hbd : bodyB data = nob := of_decide_eq_true (c3.out.trans (decide_eq_true hk2))
        rw [hbd] at HB
        unfold nob at HB
        have HH : Keep (Has wd.drew b9 x.cells 26 ∧ w.grownBy wd.drew none) := ⟨HC2.out.1.kept (gr_drew _ none) (by simp), HC2.out.2.trans (gr_drew _ _)⟩
        refine wp_region_held_drew (S := fun w' => Has w' b9 x.cells 26 ∧ w.grownBy w' none) (by kernel_rfl) HH.out (fun hHeld => ?_)
        refine wpAnyH_take (i := 0) (oi := _) (v := ?_) rfl (by kernel_rfl) (by kernel_rfl) (by kernel_rfl) (fun _ _ _ h => h) (Or.inl ⟨by rfl, ?_⟩) (by assumption) ?_
        rotate_left
        · (intro w hSw; go_simp; first | done | (with_reducible rfl))
        simp only [Act.put, List.getElem_toArray, List.getElem_cons_zero, List.setIfInBounds_toArray, List.set_cons_zero, List.set_cons_succ]
        refine wpAnyH_take (i := 1) (oi := _) (v := ?_) rfl (by kernel_rfl) (by kernel_rfl) (by kernel_rfl) (fun _ _ _ h => h) (Or.inl ⟨by rfl, ?_⟩) (by assumption) ?_
        rotate_left
        · (intro w hSw; go_simp; first | done | (with_reducible rfl))
        simp only [Act.put, List.getElem_toArray, List.getElem_cons_succ, List.getElem_cons_zero, List.setIfInBounds_toArray, List.set_cons_zero, List.set_cons_succ]
        refine wpAnyH_take (i := 2) (oi := _) (v := ?_) rfl (by kernel_rfl) (by kernel_rfl) (by kernel_rfl) (fun _ _ _ h => h) (Or.inl ⟨by rfl, ?_⟩) (by assumption) ?_
        rotate_left
        · (intro w hSw; go_simp; first | done | (with_reducible rfl))
        simp only [Act.put, List.getElem_toArray, List.getElem_cons_succ, List.getElem_cons_zero, List.setIfInBounds_toArray, List.set_cons_zero, List.set_cons_succ]
        refine wpAnyH_take (i := 3) (oi := _) (v := ?_) rfl (by kernel_rfl) (by kernel_rfl) (by kernel_rfl) (fun _ _ _ h => h) (Or.inl ⟨by rfl, ?_⟩) (by assumption) ?_
        rotate_left
        · (intro w hSw; go_simp; first | done | (with_reducible rfl))
        simp only [Act.put, List.getElem_toArray, List.getElem_cons_succ, List.getElem_cons_zero, List.setIfInBounds_toArray, List.set_cons_zero, List.set_cons_succ]
        refine wpAnyH_take (i := 4) (oi := _) (v := ?_) rfl (by kernel_rfl) (by kernel_rfl) (by kernel_rfl) (fun _ _ _ h => h) (Or.inl ⟨by rfl, ?_⟩) (by assumption) ?_
        rotate_left
        · (intro w hSw; go_simp; first | done | (with_reducible rfl))
        simp only [Act.put, List.getElem_toArray, List.getElem_cons_succ, List.getElem_cons_zero, List.setIfInBounds_toArray, List.set_cons_zero, List.set_cons_succ]
        refine wpAnyH_take (i := 5) (oi := _) (v := ?_) rfl (by kernel_rfl) (by kernel_rfl) (by kernel_rfl) (fun _ _ _ h => h) (Or.inl ⟨by rfl, ?_⟩) (by assumption) ?_
        rotate_left
        · (intro w hSw; go_simp; first | done | (with_reducible rfl))
        simp only [Act.put, List.getElem_toArray, List.getElem_cons_succ, List.getElem_cons_zero, List.setIfInBounds_toArray, List.set_cons_zero, List.set_cons_succ]
        refine wpAnyH_take (i := 6) (oi := _) (v := ?_) rfl (by kernel_rfl) (by kernel_rfl) (by kernel_rfl) (fun _ _ _ h => h) (Or.inl ⟨by rfl, ?_⟩) (by assumption) ?_
        rotate_left
        · (intro w hSw; go_simp; first | done | (with_reducible rfl))
        simp only [Act.put, List.getElem_toArray, List.getElem_cons_succ, List.getElem_cons_zero, List.setIfInBounds_toArray, List.set_cons_zero, List.set_cons_succ]
        refine wpAnyH_take (i := 7) (oi := _) (v := ?_) rfl (by kernel_rfl) (by kernel_rfl) (by kernel_rfl) (fun _ _ _ h => h) (Or.inl ⟨by rfl, ?_⟩) (by assumption) ?_
        rotate_left
        · (intro w hSw; go_simp; first | done | (with_reducible rfl))
        simp only [Act.put, List.getElem_toArray, List.getElem_cons_succ, List.getElem_cons_zero, List.setIfInBounds_toArray, List.set_cons_zero, List.set_cons_succ]
        refine wpAnyH_take (i := 8) (oi := _) (v := .agg x.cells.toArray) rfl (by kernel_rfl) (by kernel_rfl) (by kernel_rfl) (fun _ _ _ h => h) (yieldsIf_load_mid (by rfl) 26 _ rfl b9 0 rfl x.cells du (fun w h => h.1.range) hdu hdr info26) (by assumption) ?_
        simp only [Act.put, List.getElem_toArray, List.getElem_cons_succ, List.getElem_cons_zero, List.setIfInBounds_toArray, List.set_cons_zero, List.set_cons_succ]
        refine wpAnyH_take (i := 9) (oi := _) (v := .agg x.cells.toArray) rfl (by kernel_rfl) (by kernel_rfl) (by kernel_rfl) (fun _ _ _ h => h) (yieldsIf_load_mid (by rfl) 26 _ rfl b9 0 rfl x.cells du (fun w h => h.1.range) hdu hdr info26) (by assumption) ?_
        simp only [Act.put, List.getElem_toArray, List.getElem_cons_succ, List.getElem_cons_zero, List.setIfInBounds_toArray, List.set_cons_zero, List.set_cons_succ]
        refine wpAnyH_ready (rs := [10]) (by kernel_rfl) (by simp) ?_
        refine AllReadyH.cons rfl (fun K hK => ?_) AllReadyH.nil
        go_simp
        refine (c2.out _).mono ?_
        rintro e' we ⟨rfl, gn⟩
        have HS : Keep (Has we b9 x.cells 26 ∧ w.grownBy we none) := ⟨HH.out.1.kept gn (by simp), HH.out.2.trans gn⟩
        clear gn
        refine hK.out _ _ HS.out (fun hHeld => ?_)
        clear hK K
        refine wpAnyH_take (i := 11) (oi := _) (v := ?_) rfl (by kernel_rfl) (by kernel_rfl) (by kernel_rfl) (fun _ _ _ h => h) (Or.inl ⟨by rfl, ?_⟩) (by assumption) ?_
        rotate_left
        · (intro w hSw; have hEq := eqI26 x w; have hE2 := eq26 x w; go_simp; first | done | (with_reducible rfl))
        simp only [Act.put, List.getElem_toArray, List.getElem_cons_succ, List.getElem_cons_zero, List.setIfInBounds_toArray, List.set_cons_zero, List.set_cons_succ]
        refine wpAnyH_take (i := 12) (oi := _) (v := ?_) rfl (by kernel_rfl) (by kernel_rfl) (by kernel_rfl) (fun _ _ _ h => h) (Or.inl ⟨by rfl, ?_⟩) (by assumption) ?_
        rotate_left
        · (intro w hSw; go_simp; first | done | (with_reducible rfl))
        simp only [Act.put, List.getElem_toArray, List.getElem_cons_succ, List.getElem_cons_zero, List.setIfInBounds_toArray, List.set_cons_zero, List.set_cons_succ]
        refine wpAnyH_take (i := 13) (oi := _) (v := ?_) rfl (by kernel_rfl) (by kernel_rfl) (by kernel_rfl) (fun _ _ _ h => h) (Or.inl ⟨by rfl, ?_⟩) (by assumption) ?_
        rotate_left
        · (intro w hSw; go_simp; first | done | (with_reducible rfl))
        simp only [Act.put, List.getElem_toArray, List.getElem_cons_succ, List.getElem_cons_zero, List.setIfInBounds_toArray, List.set_cons_zero, List.set_cons_succ]
        refine wpAnyH_take (i := 14) (oi := _) (v := ?_) rfl (by kernel_rfl) (by kernel_rfl) (by kernel_rfl) (fun _ _ _ h => h) (Or.inl ⟨by rfl, ?_⟩) (by assumption) ?_
        rotate_left
        · (intro w hSw; go_simp; first | done | (with_reducible rfl))
        simp only [Act.put, List.getElem_toArray, List.getElem_cons_succ, List.getElem_cons_zero, List.setIfInBounds_toArray, List.set_cons_zero, List.set_cons_succ]
        refine wpAnyH_take (i := 17) (oi := _) (v := ?_) rfl (by kernel_rfl) (by kernel_rfl) (by kernel_rfl) (fun _ _ _ h => h) (Or.inl ⟨by rfl, ?_⟩) (by assumption) ?_
        rotate_left
        · (intro w hSw; go_simp; first | done | (with_reducible rfl))
        simp only [Act.put, List.getElem_toArray, List.getElem_cons_succ, List.getElem_cons_zero, List.setIfInBounds_toArray, List.set_cons_zero, List.set_cons_succ]
        refine wpAnyH_take (i := 18) (oi := _) (v := ?_) rfl (by kernel_rfl) (by kernel_rfl) (by kernel_rfl) (fun _ _ _ h => h) (Or.inl ⟨by rfl, ?_⟩) (by assumption) ?_
        rotate_left
        · (intro w hSw; have x1 := hSw.1.cellv 0 _ rfl; clear hSw; go_simp; first | done | (with_reducible rfl))
        simp only [Act.put, List.getElem_toArray, List.getElem_cons_succ, List.getElem_cons_zero, List.setIfInBounds_toArray, List.set_cons_zero, List.set_cons_succ]
        refine wpAnyH_take (i := 19) (oi := _) (v := ?_) rfl (by kernel_rfl) (by kernel_rfl) (by kernel_rfl) (fun _ _ _ h => h) (Or.inl ⟨by rfl, ?_⟩) (by assumption) ?_
        rotate_left
        · (intro w hSw; go_simp; first | done | (with_reducible rfl))
        simp only [Act.put, List.getElem_toArray, List.getElem_cons_succ, List.getElem_cons_zero, List.setIfInBounds_toArray, List.set_cons_zero, List.set_cons_succ]
        refine wpAnyH_ready (rs := [15]) (by kernel_rfl) (by simp) ?_
        refine AllReadyH.cons rfl (fun K hK => ?_) AllReadyH.nil
        go_simp
        refine (HB.out _).mono ?_
        rintro e' wf ⟨rfl, gn⟩
        have HT : Keep (Has wf b9 x.cells 26 ∧ w.grownBy wf none) := ⟨HS.out.1.kept gn (by simp), HS.out.2.trans gn⟩
        clear gn
        refine hK.out _ _ HT.out (fun hHeld => ?_)
        clear hK K
        refine wpAnyH_take (i := 16) (oi := _) (v := ?_) rfl (by kernel_rfl) (by kernel_rfl) (by kernel_rfl) (fun _ _ _ h => h) (Or.inl ⟨by rfl, ?_⟩) (by assumption) ?_
        rotate_left
        · (intro w hSw; go_simp; first | done | (with_reducible rfl))
        simp only [Act.put, List.getElem_toArray, List.getElem_cons_succ, List.getElem_cons_zero, List.setIfInBounds_toArray, List.set_cons_zero, List.set_cons_succ]
        refine wpAnyH_take (i := 20) (oi := _) (v := ?_) rfl (by kernel_rfl) (by kernel_rfl) (by kernel_rfl) (fun _ _ _ h => h) (Or.inl ⟨by rfl, ?_⟩) (by assumption) ?_
        rotate_left
        · (intro w hSw; go_simp; first | done | (with_reducible rfl))
        simp only [Act.put, List.getElem_toArray, List.getElem_cons_succ, List.getElem_cons_zero, List.setIfInBounds_toArray, List.set_cons_zero, List.set_cons_succ]
        refine wpAnyH_take (i := 21) (oi := _) (v := ?_) rfl (by kernel_rfl) (by kernel_rfl) (by kernel_rfl) (fun _ _ _ h => h) (Or.inl ⟨by rfl, ?_⟩) (by assumption) ?_
        rotate_left
        · (intro w hSw; go_simp; first | done | (with_reducible rfl))
        simp only [Act.put, List.getElem_toArray, List.getElem_cons_succ, List.getElem_cons_zero, List.setIfInBounds_toArray, List.set_cons_zero, List.set_cons_succ]
        refine wpAnyH_take (i := 22) (oi := _) (v := ?_) rfl (by kernel_rfl) (by kernel_rfl) (by kernel_rfl) (fun _ _ _ h => h) (Or.inl ⟨by rfl, ?_⟩) (by assumption) ?_
        rotate_left
        · (intro w hSw; go_simp; first | done | (with_reducible rfl))
        simp only [Act.put, List.getElem_toArray, List.getElem_cons_succ, List.getElem_cons_zero, List.setIfInBounds_toArray, List.set_cons_zero, List.set_cons_succ]
        refine wpAnyH_done (by kernel_rfl) ?_ _
        go_wp2_with fail
        go_ret
        exact ⟨rfl, HT.out.2⟩
      · have hbd : ¬ bodyB data = nob := of_decide_eq_false (c3.out.trans (decide_eq_false hk2))
        have hdk : decide (x.kind ≤ 2) = false := decide_eq_false hk2
        generalize bodyB data = Bd at *
        have hbe : Bd.toList.isEmpty = false := by
          cases hh : Bd.toList.isEmpty with
          | false => rfl
          | true =>
            refine absurd ?_ hbd
            have := List.isEmpty_iff.1 hh
            rw [ByteArray.toList_eq] at this
            obtain ⟨A⟩ := Bd
            have : A = #[] := by simpa using this
            subst this; rfl
        have HH : Keep (Has wd.drew b9 x.cells 26 ∧ w.grownBy wd.drew none) := ⟨HC2.out.1.kept (gr_drew _ none) (by simp), HC2.out.2.trans (gr_drew _ _)⟩
        refine wp_region_held_drew (S := fun w' => Has w' b9 x.cells 26 ∧ w.grownBy w' none) (by kernel_rfl) HH.out (fun hHeld => ?_)
        refine wpAnyH_take (i := 0) (oi := _) (v := ?_) rfl (by kernel_rfl) (by kernel_rfl) (by kernel_rfl) (fun _ _ _ h => h) (Or.inl ⟨by rfl, ?_⟩) (by assumption) ?_
        rotate_left
        · (intro w hSw; go_simp; first | done | (with_reducible rfl))
        simp only [Act.put, List.getElem_toArray, List.getElem_cons_zero, List.setIfInBounds_toArray, List.set_cons_zero, List.set_cons_succ]
        refine wpAnyH_take (i := 1) (oi := _) (v := ?_) rfl (by kernel_rfl) (by kernel_rfl) (by kernel_rfl) (fun _ _ _ h => h) (Or.inl ⟨by rfl, ?_⟩) (by assumption) ?_
        rotate_left
        · (intro w hSw; go_simp; first | done | (with_reducible rfl))
        simp only [Act.put, List.getElem_toArray, List.getElem_cons_succ, List.getElem_cons_zero, List.setIfInBounds_toArray, List.set_cons_zero, List.set_cons_succ]
        refine wpAnyH_take (i := 2) (oi := _) (v := ?_) rfl (by kernel_rfl) (by kernel_rfl) (by kernel_rfl) (fun _ _ _ h => h) (Or.inl ⟨by rfl, ?_⟩) (by assumption) ?_
        rotate_left
        · (intro w hSw; go_simp; first | done | (with_reducible rfl))
        simp only [Act.put, List.getElem_toArray, List.getElem_cons_succ, List.getElem_cons_zero, List.setIfInBounds_toArray, List.set_cons_zero, List.set_cons_succ]
        refine wpAnyH_take (i := 3) (oi := _) (v := ?_) rfl (by kernel_rfl) (by kernel_rfl) (by kernel_rfl) (fun _ _ _ h => h) (Or.inl ⟨by rfl, ?_⟩) (by assumption) ?_
        rotate_left
        · (intro w hSw; go_simp; first | done | (with_reducible rfl))
        simp only [Act.put, List.getElem_toArray, List.getElem_cons_succ, List.getElem_cons_zero, List.setIfInBounds_toArray, List.set_cons_zero, List.set_cons_succ]
        refine wpAnyH_take (i := 4) (oi := _) (v := ?_) rfl (by kernel_rfl) (by kernel_rfl) (by kernel_rfl) (fun _ _ _ h => h) (Or.inl ⟨by rfl, ?_⟩) (by assumption) ?_
        rotate_left
        · (intro w hSw; go_simp; first | done | (with_reducible rfl))
        simp only [Act.put, List.getElem_toArray, List.getElem_cons_succ, List.getElem_cons_zero, List.setIfInBounds_toArray, List.set_cons_zero, List.set_cons_succ]
        refine wpAnyH_take (i := 5) (oi := _) (v := ?_) rfl (by kernel_rfl) (by kernel_rfl) (by kernel_rfl) (fun _ _ _ h => h) (Or.inl ⟨by rfl, ?_⟩) (by assumption) ?_
        rotate_left
        · (intro w hSw; go_simp; first | done | (with_reducible rfl))
        simp only [Act.put, List.getElem_toArray, List.getElem_cons_succ, List.getElem_cons_zero, List.setIfInBounds_toArray, List.set_cons_zero, List.set_cons_succ]
        refine wpAnyH_take (i := 6) (oi := _) (v := ?_) rfl (by kernel_rfl) (by kernel_rfl) (by kernel_rfl) (fun _ _ _ h => h) (Or.inl ⟨by rfl, ?_⟩) (by assumption) ?_
        rotate_left
        · (intro w hSw; go_simp; first | done | (with_reducible rfl))
        simp only [Act.put, List.getElem_toArray, List.getElem_cons_succ, List.getElem_cons_zero, List.setIfInBounds_toArray, List.set_cons_zero, List.set_cons_succ]
        refine wpAnyH_take (i := 7) (oi := _) (v := ?_) rfl (by kernel_rfl) (by kernel_rfl) (by kernel_rfl) (fun _ _ _ h => h) (Or.inl ⟨by rfl, ?_⟩) (by assumption) ?_
        rotate_left
        · (intro w hSw; go_simp; first | done | (with_reducible rfl))
        simp only [Act.put, List.getElem_toArray, List.getElem_cons_succ, List.getElem_cons_zero, List.setIfInBounds_toArray, List.set_cons_zero, List.set_cons_succ]
        refine wpAnyH_take (i := 8) (oi := _) (v := .agg x.cells.toArray) rfl (by kernel_rfl) (by kernel_rfl) (by kernel_rfl) (fun _ _ _ h => h) (yieldsIf_load_mid (by rfl) 26 _ rfl b9 0 rfl x.cells du (fun w h => h.1.range) hdu hdr info26) (by assumption) ?_
        simp only [Act.put, List.getElem_toArray, List.getElem_cons_succ, List.getElem_cons_zero, List.setIfInBounds_toArray, List.set_cons_zero, List.set_cons_succ]
        refine wpAnyH_take (i := 9) (oi := _) (v := .agg x.cells.toArray) rfl (by kernel_rfl) (by kernel_rfl) (by kernel_rfl) (fun _ _ _ h => h) (yieldsIf_load_mid (by rfl) 26 _ rfl b9 0 rfl x.cells du (fun w h => h.1.range) hdu hdr info26) (by assumption) ?_
        simp only [Act.put, List.getElem_toArray, List.getElem_cons_succ, List.getElem_cons_zero, List.setIfInBounds_toArray, List.set_cons_zero, List.set_cons_succ]
        refine wpAnyH_ready (rs := [10]) (by kernel_rfl) (by simp) ?_
        refine AllReadyH.cons rfl (fun K hK => ?_) AllReadyH.nil
        go_simp
        refine (c2.out _).mono ?_
        rintro e' we ⟨rfl, gn⟩
        have HS : Keep (Has we b9 x.cells 26 ∧ w.grownBy we none) := ⟨HH.out.1.kept gn (by simp), HH.out.2.trans gn⟩
        clear gn
        refine hK.out _ _ HS.out (fun hHeld => ?_)
        clear hK K
        refine wpAnyH_take (i := 11) (oi := _) (v := ?_) rfl (by kernel_rfl) (by kernel_rfl) (by kernel_rfl) (fun _ _ _ h => h) (Or.inl ⟨by rfl, ?_⟩) (by assumption) ?_
        rotate_left
        · (intro w hSw; have hEq := eqI26 x w; have hE2 := eq26 x w; go_simp; first | done | (with_reducible rfl))
        simp only [Act.put, List.getElem_toArray, List.getElem_cons_succ, List.getElem_cons_zero, List.setIfInBounds_toArray, List.set_cons_zero, List.set_cons_succ]
        refine wpAnyH_take (i := 12) (oi := _) (v := ?_) rfl (by kernel_rfl) (by kernel_rfl) (by kernel_rfl) (fun _ _ _ h => h) (Or.inl ⟨by rfl, ?_⟩) (by assumption) ?_
        rotate_left
        · (intro w hSw; go_simp; first | done | (with_reducible rfl))
        simp only [Act.put, List.getElem_toArray, List.getElem_cons_succ, List.getElem_cons_zero, List.setIfInBounds_toArray, List.set_cons_zero, List.set_cons_succ]
        refine wpAnyH_take (i := 13) (oi := _) (v := ?_) rfl (by kernel_rfl) (by kernel_rfl) (by kernel_rfl) (fun _ _ _ h => h) (Or.inl ⟨by rfl, ?_⟩) (by assumption) ?_
        rotate_left
        · (intro w hSw; go_simp; first | done | (with_reducible rfl))
        simp only [Act.put, List.getElem_toArray, List.getElem_cons_succ, List.getElem_cons_zero, List.setIfInBounds_toArray, List.set_cons_zero, List.set_cons_succ]
        refine wpAnyH_take (i := 14) (oi := _) (v := ?_) rfl (by kernel_rfl) (by kernel_rfl) (by kernel_rfl) (fun _ _ _ h => h) (Or.inl ⟨by rfl, ?_⟩) (by assumption) ?_
        rotate_left
        · (intro w hSw; go_simp; first | done | (with_reducible rfl))
        simp only [Act.put, List.getElem_toArray, List.getElem_cons_succ, List.getElem_cons_zero, List.setIfInBounds_toArray, List.set_cons_zero, List.set_cons_succ]
        refine wpAnyH_take (i := 17) (oi := _) (v := ?_) rfl (by kernel_rfl) (by kernel_rfl) (by kernel_rfl) (fun _ _ _ h => h) (Or.inl ⟨by rfl, ?_⟩) (by assumption) ?_
        rotate_left
        · (intro w hSw; go_simp; first | done | (with_reducible rfl))
        simp only [Act.put, List.getElem_toArray, List.getElem_cons_succ, List.getElem_cons_zero, List.setIfInBounds_toArray, List.set_cons_zero, List.set_cons_succ]
        refine wpAnyH_take (i := 18) (oi := _) (v := ?_) rfl (by kernel_rfl) (by kernel_rfl) (by kernel_rfl) (fun _ _ _ h => h) (Or.inl ⟨by rfl, ?_⟩) (by assumption) ?_
        rotate_left
        · (intro w hSw; have x1 := hSw.1.cellv 0 _ rfl; clear hSw; go_simp; first | done | (with_reducible rfl))
        simp only [Act.put, List.getElem_toArray, List.getElem_cons_succ, List.getElem_cons_zero, List.setIfInBounds_toArray, List.set_cons_zero, List.set_cons_succ]
        refine wpAnyH_take (i := 19) (oi := _) (v := ?_) rfl (by kernel_rfl) (by kernel_rfl) (by kernel_rfl) (fun _ _ _ h => h) (Or.inl ⟨by rfl, ?_⟩) (by assumption) ?_
        rotate_left
        · (intro w hSw; go_simp; first | done | (with_reducible rfl))
        simp only [Act.put, List.getElem_toArray, List.getElem_cons_succ, List.getElem_cons_zero, List.setIfInBounds_toArray, List.set_cons_zero, List.set_cons_succ]
        refine wpAnyH_ready (rs := [15]) (by kernel_rfl) (by simp) ?_
        refine AllReadyH.cons rfl (fun K hK => ?_) AllReadyH.nil
        go_simp
        refine (HB.out _).mono ?_
        rintro e' wf ⟨rfl, gn⟩
        have HT : Keep (Has wf b9 x.cells 26 ∧ w.grownBy wf none) := ⟨HS.out.1.kept gn (by simp), HS.out.2.trans gn⟩
        clear gn
        refine hK.out _ _ HT.out (fun hHeld => ?_)
        clear hK K
        refine wpAnyH_take (i := 16) (oi := _) (v := ?_) rfl (by kernel_rfl) (by kernel_rfl) (by kernel_rfl) (fun _ _ _ h => h) (Or.inl ⟨by rfl, ?_⟩) (by assumption) ?_
        rotate_left
        · (intro w hSw; go_simp; first | done | (with_reducible rfl))
        simp only [Act.put, List.getElem_toArray, List.getElem_cons_succ, List.getElem_cons_zero, List.setIfInBounds_toArray, List.set_cons_zero, List.set_cons_succ]
        refine wpAnyH_take (i := 20) (oi := _) (v := ?_) rfl (by kernel_rfl) (by kernel_rfl) (by kernel_rfl) (fun _ _ _ h => h) (Or.inl ⟨by rfl, ?_⟩) (by assumption) ?_
        rotate_left
        · (intro w hSw; go_simp; first | done | (with_reducible rfl))
        simp only [Act.put, List.getElem_toArray, List.getElem_cons_succ, List.getElem_cons_zero, List.setIfInBounds_toArray, List.set_cons_zero, List.set_cons_succ]
        refine wpAnyH_take (i := 21) (oi := _) (v := ?_) rfl (by kernel_rfl) (by kernel_rfl) (by kernel_rfl) (fun _ _ _ h => h) (Or.inl ⟨by rfl, ?_⟩) (by assumption) ?_
        rotate_left
        · (intro w hSw; go_simp; first | done | (with_reducible rfl))
        simp only [Act.put, List.getElem_toArray, List.getElem_cons_succ, List.getElem_cons_zero, List.setIfInBounds_toArray, List.set_cons_zero, List.set_cons_succ]
        refine wpAnyH_take (i := 22) (oi := _) (v := ?_) rfl (by kernel_rfl) (by kernel_rfl) (by kernel_rfl) (fun _ _ _ h => h) (Or.inl ⟨by rfl, ?_⟩) (by assumption) ?_
        rotate_left
        · (intro w hSw; go_simp; first | done | (with_reducible rfl))
        simp only [Act.put, List.getElem_toArray, List.getElem_cons_succ, List.getElem_cons_zero, List.setIfInBounds_toArray, List.set_cons_zero, List.set_cons_succ]
        refine wpAnyH_done (by kernel_rfl) ?_ _
        go_wp2_with fail
        go_ret
        exact ⟨rfl, HT.out.2⟩
    · obtain ⟨rfl, z1, z2⟩ := HGN.out hg0
      have hEq : ∀ W : World, (Op.equalIn 10000 26 (.agg (Dg.zero 0).cells.toArray) (.agg #[.int .i64 0, .string { data := #[] }, .int .u64 0, .string { data := #[] }, .string { data := #[] }, .int .u64 0, .int .i64 0, .string { data := #[] }, .int .u64 0, .int .i64 0, .int .i64 0, .bool false, .bool false, .string { data := #[] }, .string { data := #[] }])).run Tryz.prog W = .ok true W := fun W => eqI26 (Dg.zero 0) W
      have hgd : ∀ W : World, (eqGuard BinOp.eql 26 (.tmp 52) (.tmp 53) (.agg (Dg.zero 0).cells.toArray) (.agg #[.int .i64 0, .string { data := #[] }, .int .u64 0, .string { data := #[] }, .string { data := #[] }, .int .u64 0, .int .i64 0, .string { data := #[] }, .int .u64 0, .int .i64 0, .int .i64 0, .bool false, .bool false, .string { data := #[] }, .string { data := #[] }])).run Tryz.prog W = .ok () W := fun W => guard26 _ _ _ _ _ W
      have hg1 : (g != 0) = true := by simp [hg0]
      clear HG0 HGN
      go_wp2_with (first
        | (refine store_dg wa (Dg.zero 0) rfl rfl rfl rfl rfl ?_
           intro wb hs gs
           obtain ⟨b9, hblk⟩ : ∃ q, wa.heap.size = q := ⟨_, rfl⟩
           rw [hblk] at hs
           have HC2 : Keep (Has wb b9 (Dg.zero 0).cells 26 ∧ w.grownBy wb none) := ⟨hs, HGa.out.trans gs⟩
           clear hs gs)
        | (refine wpList_load_mid rfl 26 _ rfl _ _ rfl (Dg.zero 0).cells _ (HC2.out.1).range hdu hdr info26 ?_))
      go_ret
      exact ⟨rfl, HC2.out.2⟩
  · obtain ⟨rfl, z1, z2⟩ := HEN.out he0
    unfold nob
    have he1 : (e == 0) = false := by simp [he0]
    clear HE0 HO1 HEN
    replace HC : Keep (w.grownBy w2 none) := ⟨HC.out.2⟩
    go_wp2_with fail
    refine (HD.out _).mono ?_
    rintro e' wa ⟨rfl, gn⟩
    have HGa : Keep (w.grownBy wa none) := ⟨HC.out.trans gn⟩
    clear gn HC
    by_cases hg0 : g = 0
    · subst hg0
      obtain ⟨c1, c2, c3⟩ := HG0.out rfl
      have c1 := Keep.mk c1
      have c2 := Keep.mk c2
      have c3 := Keep.mk c3
      clear HG0 HGN
      go_wp2_with (first
        | (refine store_dg wa x rfl rfl rfl rfl rfl ?_
           intro wb hs gs
           obtain ⟨b9, hblk⟩ : ∃ q, wa.heap.size = q := ⟨_, rfl⟩
           rw [hblk] at hs
           have HC2 : Keep (Has wb b9 x.cells 26 ∧ w.grownBy wb none) := ⟨hs, HGa.out.trans gs⟩
           clear hs gs)
        | (refine wpList_load_mid rfl 26 _ rfl _ _ rfl x.cells _ (HC2.out.1).range hdu hdr info26 ?_))
      refine (c1.out _).mono ?_
      rintro e' wd ⟨rfl, gn⟩
      replace HC2 : Keep (Has wd b9 x.cells 26 ∧ w.grownBy wd none) := ⟨HC2.out.1.kept gn (by simp), HC2.out.2.trans gn⟩
      clear gn c1
      go_wp2_with fail
      clear hblk
      by_cases hk2 : x.kind ≤ 2
      · have hbd : bodyB data = nob := of_decide_eq_true (c3.out.trans (decide_eq_true hk2))
        rw [hbd] at HB
        unfold nob at HB
        have HH : Keep (Has wd.drew b9 x.cells 26 ∧ w.grownBy wd.drew none) := ⟨HC2.out.1.kept (gr_drew _ none) (by simp), HC2.out.2.trans (gr_drew _ _)⟩
        refine wp_region_held_drew (S := fun w' => Has w' b9 x.cells 26 ∧ w.grownBy w' none) (by kernel_rfl) HH.out (fun hHeld => ?_)
        refine wpAnyH_take (i := 0) (oi := _) (v := ?_) rfl (by kernel_rfl) (by kernel_rfl) (by kernel_rfl) (fun _ _ _ h => h) (Or.inl ⟨by rfl, ?_⟩) (by assumption) ?_
        rotate_left
        · (intro w hSw; go_simp; first | done | (with_reducible rfl))
        simp only [Act.put, List.getElem_toArray, List.getElem_cons_zero, List.setIfInBounds_toArray, List.set_cons_zero, List.set_cons_succ]
        refine wpAnyH_take (i := 1) (oi := _) (v := ?_) rfl (by kernel_rfl) (by kernel_rfl) (by kernel_rfl) (fun _ _ _ h => h) (Or.inl ⟨by rfl, ?_⟩) (by assumption) ?_
        rotate_left
        · (intro w hSw; go_simp; first | done | (with_reducible rfl))
        simp only [Act.put, List.getElem_toArray, List.getElem_cons_succ, List.getElem_cons_zero, List.setIfInBounds_toArray, List.set_cons_zero, List.set_cons_succ]
        refine wpAnyH_take (i := 2) (oi := _) (v := ?_) rfl (by kernel_rfl) (by kernel_rfl) (by kernel_rfl) (fun _ _ _ h => h) (Or.inl ⟨by rfl, ?_⟩) (by assumption) ?_
        rotate_left
        · (intro w hSw; go_simp; first | done | (with_reducible rfl))
        simp only [Act.put, List.getElem_toArray, List.getElem_cons_succ, List.getElem_cons_zero, List.setIfInBounds_toArray, List.set_cons_zero, List.set_cons_succ]
        refine wpAnyH_take (i := 3) (oi := _) (v := ?_) rfl (by kernel_rfl) (by kernel_rfl) (by kernel_rfl) (fun _ _ _ h => h) (Or.inl ⟨by rfl, ?_⟩) (by assumption) ?_
        rotate_left
        · (intro w hSw; go_simp; first | done | (with_reducible rfl))
        simp only [Act.put, List.getElem_toArray, List.getElem_cons_succ, List.getElem_cons_zero, List.setIfInBounds_toArray, List.set_cons_zero, List.set_cons_succ]
        refine wpAnyH_take (i := 4) (oi := _) (v := ?_) rfl (by kernel_rfl) (by kernel_rfl) (by kernel_rfl) (fun _ _ _ h => h) (Or.inl ⟨by rfl, ?_⟩) (by assumption) ?_
        rotate_left
        · (intro w hSw; go_simp; first | done | (with_reducible rfl))
        simp only [Act.put, List.getElem_toArray, List.getElem_cons_succ, List.getElem_cons_zero, List.setIfInBounds_toArray, List.set_cons_zero, List.set_cons_succ]
        refine wpAnyH_take (i := 5) (oi := _) (v := ?_) rfl (by kernel_rfl) (by kernel_rfl) (by kernel_rfl) (fun _ _ _ h => h) (Or.inl ⟨by rfl, ?_⟩) (by assumption) ?_
        rotate_left
        · (intro w hSw; go_simp; first | done | (with_reducible rfl))
        simp only [Act.put, List.getElem_toArray, List.getElem_cons_succ, List.getElem_cons_zero, List.setIfInBounds_toArray, List.set_cons_zero, List.set_cons_succ]
        refine wpAnyH_take (i := 6) (oi := _) (v := ?_) rfl (by kernel_rfl) (by kernel_rfl) (by kernel_rfl) (fun _ _ _ h => h) (Or.inl ⟨by rfl, ?_⟩) (by assumption) ?_
        rotate_left
        · (intro w hSw; go_simp; first | done | (with_reducible rfl))
        simp only [Act.put, List.getElem_toArray, List.getElem_cons_succ, List.getElem_cons_zero, List.setIfInBounds_toArray, List.set_cons_zero, List.set_cons_succ]
        refine wpAnyH_take (i := 7) (oi := _) (v := ?_) rfl (by kernel_rfl) (by kernel_rfl) (by kernel_rfl) (fun _ _ _ h => h) (Or.inl ⟨by rfl, ?_⟩) (by assumption) ?_
        rotate_left
        · (intro w hSw; go_simp; first | done | (with_reducible rfl))
        simp only [Act.put, List.getElem_toArray, List.getElem_cons_succ, List.getElem_cons_zero, List.setIfInBounds_toArray, List.set_cons_zero, List.set_cons_succ]
        refine wpAnyH_take (i := 8) (oi := _) (v := .agg x.cells.toArray) rfl (by kernel_rfl) (by kernel_rfl) (by kernel_rfl) (fun _ _ _ h => h) (yieldsIf_load_mid (by rfl) 26 _ rfl b9 0 rfl x.cells du (fun w h => h.1.range) hdu hdr info26) (by assumption) ?_
        simp only [Act.put, List.getElem_toArray, List.getElem_cons_succ, List.getElem_cons_zero, List.setIfInBounds_toArray, List.set_cons_zero, List.set_cons_succ]
        refine wpAnyH_take (i := 9) (oi := _) (v := .agg x.cells.toArray) rfl (by kernel_rfl) (by kernel_rfl) (by kernel_rfl) (fun _ _ _ h => h) (yieldsIf_load_mid (by rfl) 26 _ rfl b9 0 rfl x.cells du (fun w h => h.1.range) hdu hdr info26) (by assumption) ?_
        simp only [Act.put, List.getElem_toArray, List.getElem_cons_succ, List.getElem_cons_zero, List.setIfInBounds_toArray, List.set_cons_zero, List.set_cons_succ]
        refine wpAnyH_ready (rs := [10]) (by kernel_rfl) (by simp) ?_
        refine AllReadyH.cons rfl (fun K hK => ?_) AllReadyH.nil
        go_simp
        refine (c2.out _).mono ?_
        rintro e' we ⟨rfl, gn⟩
        have HS : Keep (Has we b9 x.cells 26 ∧ w.grownBy we none) := ⟨HH.out.1.kept gn (by simp), HH.out.2.trans gn⟩
        clear gn
        refine hK.out _ _ HS.out (fun hHeld => ?_)
        clear hK K
        refine wpAnyH_take (i := 11) (oi := _) (v := ?_) rfl (by kernel_rfl) (by kernel_rfl) (by kernel_rfl) (fun _ _ _ h => h) (Or.inl ⟨by rfl, ?_⟩) (by assumption) ?_
        rotate_left
        · (intro w hSw; have hEq := eqI26 x w; have hE2 := eq26 x w; go_simp; first | done | (with_reducible rfl))
        simp only [Act.put, List.getElem_toArray, List.getElem_cons_succ, List.getElem_cons_zero, List.setIfInBounds_toArray, List.set_cons_zero, List.set_cons_succ]
        refine wpAnyH_take (i := 12) (oi := _) (v := ?_) rfl (by kernel_rfl) (by kernel_rfl) (by kernel_rfl) (fun _ _ _ h => h) (Or.inl ⟨by rfl, ?_⟩) (by assumption) ?_
        rotate_left
        · (intro w hSw; go_simp; first | done | (with_reducible rfl))
        simp only [Act.put, List.getElem_toArray, List.getElem_cons_succ, List.getElem_cons_zero, List.setIfInBounds_toArray, List.set_cons_zero, List.set_cons_succ]
        refine wpAnyH_take (i := 13) (oi := _) (v := ?_) rfl (by kernel_rfl) (by kernel_rfl) (by kernel_rfl) (fun _ _ _ h => h) (Or.inl ⟨by rfl, ?_⟩) (by assumption) ?_
        rotate_left
        · (intro w hSw; go_simp; first | done | (with_reducible rfl))
        simp only [Act.put, List.getElem_toArray, List.getElem_cons_succ, List.getElem_cons_zero, List.setIfInBounds_toArray, List.set_cons_zero, List.set_cons_succ]
        refine wpAnyH_take (i := 14) (oi := _) (v := ?_) rfl (by kernel_rfl) (by kernel_rfl) (by kernel_rfl) (fun _ _ _ h => h) (Or.inl ⟨by rfl, ?_⟩) (by assumption) ?_
        rotate_left
        · (intro w hSw; go_simp; first | done | (with_reducible rfl))
        simp only [Act.put, List.getElem_toArray, List.getElem_cons_succ, List.getElem_cons_zero, List.setIfInBounds_toArray, List.set_cons_zero, List.set_cons_succ]
        refine wpAnyH_take (i := 17) (oi := _) (v := ?_) rfl (by kernel_rfl) (by kernel_rfl) (by kernel_rfl) (fun _ _ _ h => h) (Or.inl ⟨by rfl, ?_⟩) (by assumption) ?_
        rotate_left
        · (intro w hSw; go_simp; first | done | (with_reducible rfl))
        simp only [Act.put, List.getElem_toArray, List.getElem_cons_succ, List.getElem_cons_zero, List.setIfInBounds_toArray, List.set_cons_zero, List.set_cons_succ]
        refine wpAnyH_take (i := 18) (oi := _) (v := ?_) rfl (by kernel_rfl) (by kernel_rfl) (by kernel_rfl) (fun _ _ _ h => h) (Or.inl ⟨by rfl, ?_⟩) (by assumption) ?_
        rotate_left
        · (intro w hSw; have x1 := hSw.1.cellv 0 _ rfl; clear hSw; go_simp; first | done | (with_reducible rfl))
        simp only [Act.put, List.getElem_toArray, List.getElem_cons_succ, List.getElem_cons_zero, List.setIfInBounds_toArray, List.set_cons_zero, List.set_cons_succ]
        refine wpAnyH_take (i := 19) (oi := _) (v := ?_) rfl (by kernel_rfl) (by kernel_rfl) (by kernel_rfl) (fun _ _ _ h => h) (Or.inl ⟨by rfl, ?_⟩) (by assumption) ?_
        rotate_left
        · (intro w hSw; go_simp; first | done | (with_reducible rfl))
        simp only [Act.put, List.getElem_toArray, List.getElem_cons_succ, List.getElem_cons_zero, List.setIfInBounds_toArray, List.set_cons_zero, List.set_cons_succ]
        refine wpAnyH_ready (rs := [15]) (by kernel_rfl) (by simp) ?_
        refine AllReadyH.cons rfl (fun K hK => ?_) AllReadyH.nil
        go_simp
        refine (HB.out _).mono ?_
        rintro e' wf ⟨rfl, gn⟩
        have HT : Keep (Has wf b9 x.cells 26 ∧ w.grownBy wf none) := ⟨HS.out.1.kept gn (by simp), HS.out.2.trans gn⟩
        clear gn
        refine hK.out _ _ HT.out (fun hHeld => ?_)
        clear hK K
        refine wpAnyH_take (i := 16) (oi := _) (v := ?_) rfl (by kernel_rfl) (by kernel_rfl) (by kernel_rfl) (fun _ _ _ h => h) (Or.inl ⟨by rfl, ?_⟩) (by assumption) ?_
        rotate_left
        · (intro w hSw; go_simp; first | done | (with_reducible rfl))
        simp only [Act.put, List.getElem_toArray, List.getElem_cons_succ, List.getElem_cons_zero, List.setIfInBounds_toArray, List.set_cons_zero, List.set_cons_succ]
        refine wpAnyH_take (i := 20) (oi := _) (v := ?_) rfl (by kernel_rfl) (by kernel_rfl) (by kernel_rfl) (fun _ _ _ h => h) (Or.inl ⟨by rfl, ?_⟩) (by assumption) ?_
        rotate_left
        · (intro w hSw; go_simp; first | done | (with_reducible rfl))
        simp only [Act.put, List.getElem_toArray, List.getElem_cons_succ, List.getElem_cons_zero, List.setIfInBounds_toArray, List.set_cons_zero, List.set_cons_succ]
        refine wpAnyH_take (i := 21) (oi := _) (v := ?_) rfl (by kernel_rfl) (by kernel_rfl) (by kernel_rfl) (fun _ _ _ h => h) (Or.inl ⟨by rfl, ?_⟩) (by assumption) ?_
        rotate_left
        · (intro w hSw; go_simp; first | done | (with_reducible rfl))
        simp only [Act.put, List.getElem_toArray, List.getElem_cons_succ, List.getElem_cons_zero, List.setIfInBounds_toArray, List.set_cons_zero, List.set_cons_succ]
        refine wpAnyH_take (i := 22) (oi := _) (v := ?_) rfl (by kernel_rfl) (by kernel_rfl) (by kernel_rfl) (fun _ _ _ h => h) (Or.inl ⟨by rfl, ?_⟩) (by assumption) ?_
        rotate_left
        · (intro w hSw; go_simp; first | done | (with_reducible rfl))
        simp only [Act.put, List.getElem_toArray, List.getElem_cons_succ, List.getElem_cons_zero, List.setIfInBounds_toArray, List.set_cons_zero, List.set_cons_succ]
        refine wpAnyH_done (by kernel_rfl) ?_ _
        go_wp2_with fail
        go_ret
        exact ⟨rfl, HT.out.2⟩
      · have hbd : ¬ bodyB data = nob := of_decide_eq_false (c3.out.trans (decide_eq_false hk2))
        have hdk : decide (x.kind ≤ 2) = false := decide_eq_false hk2
        generalize bodyB data = Bd at *
        have hbe : Bd.toList.isEmpty = false := by
          cases hh : Bd.toList.isEmpty with
          | false => rfl
          | true =>
            refine absurd ?_ hbd
            have := List.isEmpty_iff.1 hh
            rw [ByteArray.toList_eq] at this
            obtain ⟨A⟩ := Bd
            have : A = #[] := by simpa using this
            subst this; rfl
        have HH : Keep (Has wd.drew b9 x.cells 26 ∧ w.grownBy wd.drew none) := ⟨HC2.out.1.kept (gr_drew _ none) (by simp), HC2.out.2.trans (gr_drew _ _)⟩
        refine wp_region_held_drew (S := fun w' => Has w' b9 x.cells 26 ∧ w.grownBy w' none) (by kernel_rfl) HH.out (fun hHeld => ?_)
        refine wpAnyH_take (i := 0) (oi := _) (v := ?_) rfl (by kernel_rfl) (by kernel_rfl) (by kernel_rfl) (fun _ _ _ h => h) (Or.inl ⟨by rfl, ?_⟩) (by assumption) ?_
        rotate_left
        · (intro w hSw; go_simp; first | done | (with_reducible rfl))
        simp only [Act.put, List.getElem_toArray, List.getElem_cons_zero, List.setIfInBounds_toArray, List.set_cons_zero, List.set_cons_succ]
        refine wpAnyH_take (i := 1) (oi := _) (v := ?_) rfl (by kernel_rfl) (by kernel_rfl) (by kernel_rfl) (fun _ _ _ h => h) (Or.inl ⟨by rfl, ?_⟩) (by assumption) ?_
        rotate_left
        · (intro w hSw; go_simp; first | done | (with_reducible rfl))
        simp only [Act.put, List.getElem_toArray, List.getElem_cons_succ, List.getElem_cons_zero, List.setIfInBounds_toArray, List.set_cons_zero, List.set_cons_succ]
        refine wpAnyH_take (i := 2) (oi := _) (v := ?_) rfl (by kernel_rfl) (by kernel_rfl) (by kernel_rfl) (fun _ _ _ h => h) (Or.inl ⟨by rfl, ?_⟩) (by assumption) ?_
        rotate_left
        · (intro w hSw; go_simp; first | done | (with_reducible rfl))
        simp only [Act.put, List.getElem_toArray, List.getElem_cons_succ, List.getElem_cons_zero, List.setIfInBounds_toArray, List.set_cons_zero, List.set_cons_succ]
        refine wpAnyH_take (i := 3) (oi := _) (v := ?_) rfl (by kernel_rfl) (by kernel_rfl) (by kernel_rfl) (fun _ _ _ h => h) (Or.inl ⟨by rfl, ?_⟩) (by assumption) ?_
        rotate_left
        · (intro w hSw; go_simp; first | done | (with_reducible rfl))
        simp only [Act.put, List.getElem_toArray, List.getElem_cons_succ, List.getElem_cons_zero, List.setIfInBounds_toArray, List.set_cons_zero, List.set_cons_succ]
        refine wpAnyH_take (i := 4) (oi := _) (v := ?_) rfl (by kernel_rfl) (by kernel_rfl) (by kernel_rfl) (fun _ _ _ h => h) (Or.inl ⟨by rfl, ?_⟩) (by assumption) ?_
        rotate_left
        · (intro w hSw; go_simp; first | done | (with_reducible rfl))
        simp only [Act.put, List.getElem_toArray, List.getElem_cons_succ, List.getElem_cons_zero, List.setIfInBounds_toArray, List.set_cons_zero, List.set_cons_succ]
        refine wpAnyH_take (i := 5) (oi := _) (v := ?_) rfl (by kernel_rfl) (by kernel_rfl) (by kernel_rfl) (fun _ _ _ h => h) (Or.inl ⟨by rfl, ?_⟩) (by assumption) ?_
        rotate_left
        · (intro w hSw; go_simp; first | done | (with_reducible rfl))
        simp only [Act.put, List.getElem_toArray, List.getElem_cons_succ, List.getElem_cons_zero, List.setIfInBounds_toArray, List.set_cons_zero, List.set_cons_succ]
        refine wpAnyH_take (i := 6) (oi := _) (v := ?_) rfl (by kernel_rfl) (by kernel_rfl) (by kernel_rfl) (fun _ _ _ h => h) (Or.inl ⟨by rfl, ?_⟩) (by assumption) ?_
        rotate_left
        · (intro w hSw; go_simp; first | done | (with_reducible rfl))
        simp only [Act.put, List.getElem_toArray, List.getElem_cons_succ, List.getElem_cons_zero, List.setIfInBounds_toArray, List.set_cons_zero, List.set_cons_succ]
        refine wpAnyH_take (i := 7) (oi := _) (v := ?_) rfl (by kernel_rfl) (by kernel_rfl) (by kernel_rfl) (fun _ _ _ h => h) (Or.inl ⟨by rfl, ?_⟩) (by assumption) ?_
        rotate_left
        · (intro w hSw; go_simp; first | done | (with_reducible rfl))
        simp only [Act.put, List.getElem_toArray, List.getElem_cons_succ, List.getElem_cons_zero, List.setIfInBounds_toArray, List.set_cons_zero, List.set_cons_succ]
        refine wpAnyH_take (i := 8) (oi := _) (v := .agg x.cells.toArray) rfl (by kernel_rfl) (by kernel_rfl) (by kernel_rfl) (fun _ _ _ h => h) (yieldsIf_load_mid (by rfl) 26 _ rfl b9 0 rfl x.cells du (fun w h => h.1.range) hdu hdr info26) (by assumption) ?_
        simp only [Act.put, List.getElem_toArray, List.getElem_cons_succ, List.getElem_cons_zero, List.setIfInBounds_toArray, List.set_cons_zero, List.set_cons_succ]
        refine wpAnyH_take (i := 9) (oi := _) (v := .agg x.cells.toArray) rfl (by kernel_rfl) (by kernel_rfl) (by kernel_rfl) (fun _ _ _ h => h) (yieldsIf_load_mid (by rfl) 26 _ rfl b9 0 rfl x.cells du (fun w h => h.1.range) hdu hdr info26) (by assumption) ?_
        simp only [Act.put, List.getElem_toArray, List.getElem_cons_succ, List.getElem_cons_zero, List.setIfInBounds_toArray, List.set_cons_zero, List.set_cons_succ]
        refine wpAnyH_ready (rs := [10]) (by kernel_rfl) (by simp) ?_
        refine AllReadyH.cons rfl (fun K hK => ?_) AllReadyH.nil
        go_simp
        refine (c2.out _).mono ?_
        rintro e' we ⟨rfl, gn⟩
        have HS : Keep (Has we b9 x.cells 26 ∧ w.grownBy we none) := ⟨HH.out.1.kept gn (by simp), HH.out.2.trans gn⟩
        clear gn
        refine hK.out _ _ HS.out (fun hHeld => ?_)
        clear hK K
        refine wpAnyH_take (i := 11) (oi := _) (v := ?_) rfl (by kernel_rfl) (by kernel_rfl) (by kernel_rfl) (fun _ _ _ h => h) (Or.inl ⟨by rfl, ?_⟩) (by assumption) ?_
        rotate_left
        · (intro w hSw; have hEq := eqI26 x w; have hE2 := eq26 x w; go_simp; first | done | (with_reducible rfl))
        simp only [Act.put, List.getElem_toArray, List.getElem_cons_succ, List.getElem_cons_zero, List.setIfInBounds_toArray, List.set_cons_zero, List.set_cons_succ]
        refine wpAnyH_take (i := 12) (oi := _) (v := ?_) rfl (by kernel_rfl) (by kernel_rfl) (by kernel_rfl) (fun _ _ _ h => h) (Or.inl ⟨by rfl, ?_⟩) (by assumption) ?_
        rotate_left
        · (intro w hSw; go_simp; first | done | (with_reducible rfl))
        simp only [Act.put, List.getElem_toArray, List.getElem_cons_succ, List.getElem_cons_zero, List.setIfInBounds_toArray, List.set_cons_zero, List.set_cons_succ]
        refine wpAnyH_take (i := 13) (oi := _) (v := ?_) rfl (by kernel_rfl) (by kernel_rfl) (by kernel_rfl) (fun _ _ _ h => h) (Or.inl ⟨by rfl, ?_⟩) (by assumption) ?_
        rotate_left
        · (intro w hSw; go_simp; first | done | (with_reducible rfl))
        simp only [Act.put, List.getElem_toArray, List.getElem_cons_succ, List.getElem_cons_zero, List.setIfInBounds_toArray, List.set_cons_zero, List.set_cons_succ]
        refine wpAnyH_take (i := 14) (oi := _) (v := ?_) rfl (by kernel_rfl) (by kernel_rfl) (by kernel_rfl) (fun _ _ _ h => h) (Or.inl ⟨by rfl, ?_⟩) (by assumption) ?_
        rotate_left
        · (intro w hSw; go_simp; first | done | (with_reducible rfl))
        simp only [Act.put, List.getElem_toArray, List.getElem_cons_succ, List.getElem_cons_zero, List.setIfInBounds_toArray, List.set_cons_zero, List.set_cons_succ]
        refine wpAnyH_take (i := 17) (oi := _) (v := ?_) rfl (by kernel_rfl) (by kernel_rfl) (by kernel_rfl) (fun _ _ _ h => h) (Or.inl ⟨by rfl, ?_⟩) (by assumption) ?_
        rotate_left
        · (intro w hSw; go_simp; first | done | (with_reducible rfl))
        simp only [Act.put, List.getElem_toArray, List.getElem_cons_succ, List.getElem_cons_zero, List.setIfInBounds_toArray, List.set_cons_zero, List.set_cons_succ]
        refine wpAnyH_take (i := 18) (oi := _) (v := ?_) rfl (by kernel_rfl) (by kernel_rfl) (by kernel_rfl) (fun _ _ _ h => h) (Or.inl ⟨by rfl, ?_⟩) (by assumption) ?_
        rotate_left
        · (intro w hSw; have x1 := hSw.1.cellv 0 _ rfl; clear hSw; go_simp; first | done | (with_reducible rfl))
        simp only [Act.put, List.getElem_toArray, List.getElem_cons_succ, List.getElem_cons_zero, List.setIfInBounds_toArray, List.set_cons_zero, List.set_cons_succ]
        refine wpAnyH_take (i := 19) (oi := _) (v := ?_) rfl (by kernel_rfl) (by kernel_rfl) (by kernel_rfl) (fun _ _ _ h => h) (Or.inl ⟨by rfl, ?_⟩) (by assumption) ?_
        rotate_left
        · (intro w hSw; go_simp; first | done | (with_reducible rfl))
        simp only [Act.put, List.getElem_toArray, List.getElem_cons_succ, List.getElem_cons_zero, List.setIfInBounds_toArray, List.set_cons_zero, List.set_cons_succ]
        refine wpAnyH_ready (rs := [15]) (by kernel_rfl) (by simp) ?_
        refine AllReadyH.cons rfl (fun K hK => ?_) AllReadyH.nil
        go_simp
        refine (HB.out _).mono ?_
        rintro e' wf ⟨rfl, gn⟩
        have HT : Keep (Has wf b9 x.cells 26 ∧ w.grownBy wf none) := ⟨HS.out.1.kept gn (by simp), HS.out.2.trans gn⟩
        clear gn
        refine hK.out _ _ HT.out (fun hHeld => ?_)
        clear hK K
        refine wpAnyH_take (i := 16) (oi := _) (v := ?_) rfl (by kernel_rfl) (by kernel_rfl) (by kernel_rfl) (fun _ _ _ h => h) (Or.inl ⟨by rfl, ?_⟩) (by assumption) ?_
        rotate_left
        · (intro w hSw; go_simp; first | done | (with_reducible rfl))
        simp only [Act.put, List.getElem_toArray, List.getElem_cons_succ, List.getElem_cons_zero, List.setIfInBounds_toArray, List.set_cons_zero, List.set_cons_succ]
        refine wpAnyH_take (i := 20) (oi := _) (v := ?_) rfl (by kernel_rfl) (by kernel_rfl) (by kernel_rfl) (fun _ _ _ h => h) (Or.inl ⟨by rfl, ?_⟩) (by assumption) ?_
        rotate_left
        · (intro w hSw; go_simp; first | done | (with_reducible rfl))
        simp only [Act.put, List.getElem_toArray, List.getElem_cons_succ, List.getElem_cons_zero, List.setIfInBounds_toArray, List.set_cons_zero, List.set_cons_succ]
        refine wpAnyH_take (i := 21) (oi := _) (v := ?_) rfl (by kernel_rfl) (by kernel_rfl) (by kernel_rfl) (fun _ _ _ h => h) (Or.inl ⟨by rfl, ?_⟩) (by assumption) ?_
        rotate_left
        · (intro w hSw; go_simp; first | done | (with_reducible rfl))
        simp only [Act.put, List.getElem_toArray, List.getElem_cons_succ, List.getElem_cons_zero, List.setIfInBounds_toArray, List.set_cons_zero, List.set_cons_succ]
        refine wpAnyH_take (i := 22) (oi := _) (v := ?_) rfl (by kernel_rfl) (by kernel_rfl) (by kernel_rfl) (fun _ _ _ h => h) (Or.inl ⟨by rfl, ?_⟩) (by assumption) ?_
        rotate_left
        · (intro w hSw; go_simp; first | done | (with_reducible rfl))
        simp only [Act.put, List.getElem_toArray, List.getElem_cons_succ, List.getElem_cons_zero, List.setIfInBounds_toArray, List.set_cons_zero, List.set_cons_succ]
        refine wpAnyH_done (by kernel_rfl) ?_ _
        go_wp2_with fail
        go_ret
        exact ⟨rfl, HT.out.2⟩
    · obtain ⟨rfl, z1, z2⟩ := HGN.out hg0
      have hEq : ∀ W : World, (Op.equalIn 10000 26 (.agg (Dg.zero 0).cells.toArray) (.agg #[.int .i64 0, .string { data := #[] }, .int .u64 0, .string { data := #[] }, .string { data := #[] }, .int .u64 0, .int .i64 0, .string { data := #[] }, .int .u64 0, .int .i64 0, .int .i64 0, .bool false, .bool false, .string { data := #[] }, .string { data := #[] }])).run Tryz.prog W = .ok true W := fun W => eqI26 (Dg.zero 0) W
      have hgd : ∀ W : World, (eqGuard BinOp.eql 26 (.tmp 52) (.tmp 53) (.agg (Dg.zero 0).cells.toArray) (.agg #[.int .i64 0, .string { data := #[] }, .int .u64 0, .string { data := #[] }, .string { data := #[] }, .int .u64 0, .int .i64 0, .string { data := #[] }, .int .u64 0, .int .i64 0, .int .i64 0, .bool false, .bool false, .string { data := #[] }, .string { data := #[] }])).run Tryz.prog W = .ok () W := fun W => guard26 _ _ _ _ _ W
      have hg1 : (g != 0) = true := by simp [hg0]
      clear HG0 HGN
      go_wp2_with (first
        | (refine store_dg wa (Dg.zero 0) rfl rfl rfl rfl rfl ?_
           intro wb hs gs
           obtain ⟨b9, hblk⟩ : ∃ q, wa.heap.size = q := ⟨_, rfl⟩
           rw [hblk] at hs
           have HC2 : Keep (Has wb b9 (Dg.zero 0).cells 26 ∧ w.grownBy wb none) := ⟨hs, HGa.out.trans gs⟩
           clear hs gs)
        | (refine wpList_load_mid rfl 26 _ rfl _ _ rfl (Dg.zero 0).cells _ (HC2.out.1).range hdu hdr info26 ?_))
      go_ret
      exact ⟨rfl, HC2.out.2⟩
end Go.Proofs.YtiphnlfbgbemfaaGreatDoor.Pk

