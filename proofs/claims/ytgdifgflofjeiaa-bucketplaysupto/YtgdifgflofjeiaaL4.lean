/- BucketPlays' walk. -/
import Derived.Test.YtgdifgflofjeiaaC1
import Derived.Deep.DeepCutAuto
namespace Go.Proofs.Ytgdifgflofjeiaa
open Go Go.RowKit
theorem own_slice {lo : Nat} {W : World} {e : TypeId} {s : Nat} {v : Value} {n : Nat} {xs : List Value} (h : W.ownsRow lo e s v n xs) : ∃ a c, v = .slice a n c := by
  obtain ⟨_, h2⟩ := h
  rcases h2 with ⟨e, h0⟩ | ⟨g, cap, cur, e, _⟩
  · exact ⟨none, 0, by rw [e, h0]⟩
  · exact ⟨_, _, e⟩
theorem tk_tick {r u y : Int} : min (y + r) (16 * u) = tk r u y 1 := by
  unfold tk
  rw [show min (1 : Int) 16000 = 1 by omega, Int.mul_one]
/-- the reference's bucket is stored -/
theorem PL.putQ {w wr : World} {kb kr : Nat} {r u Y Z X : Int} {va vp : Value} {L M : List Int} (h : PL w wr kb kr r u Y Z va vp L M) : PL w (((wr.setCell ⟨kr, 0, none⟩ (.int .i64 r)).setCell ⟨kr, 1, none⟩ (.int .i64 (16 * u))).setCell ⟨kr, 2, none⟩ (.int .i64 X)) kb kr r u Y X va vp L M :=
  h.setQ (((h.q.setCell 0 _).setCell 1 _).setCell 2 _) (gr3 wr kr 0 _ _ _)
theorem PL.putB {w wr : World} {kb kr : Nat} {r u Y Z X : Int} {va vp : Value} {L M : List Int} (h : PL w wr kb kr r u Y Z va vp L M) (hX : 0 ≤ X ∧ X ≤ 16 * u) : PL w (((wr.setCell ⟨kb, 0, none⟩ (.int .i64 r)).setCell ⟨kb, 1, none⟩ (.int .i64 u)).setCell ⟨kb, 2, none⟩ (.int .i64 X)) kb kr r u X Z va vp L M :=
  h.setB ⟨⟨((h.b.b.has.setCell 0 _).setCell 1 _).setCell 2 _, h.b.b.r0, h.b.b.r1, h.b.b.u0, h.b.b.u1, hX.1, hX.2⟩, gr_new h.b.g (gr3 wr kb 0 _ _ _) h.b.lo, h.b.lo⟩ (gr3 wr kb 0 _ _ _)
set_option maxRecDepth 100000 in
set_option maxHeartbeats 64000000 in
theorem plays_law (x x2 : Int) (a : Option Addr) (n c : Nat) (xs : List (Int × Int)) (w : World) (hs : Scr w a n xs) (hn : n ≤ 1048576) :
    Calls Try.prog 6 #[.int .i64 x, .int .i64 x2, .slice a n c] w fun e w' => e = .returned (.bool true) ∧ w.grownBy w' none := by
  have HX : Keep (Scr w a n xs) := ⟨hs⟩
  clear hs
  go_enter Try.func6, Try.ntmps6
  go_wp2_with fail
  refine (fixed_c _).mono ?_
  rintro e w1 ⟨rfl, g1⟩
  have HG := Keep.mk g1
  clear g1
  go_wp2_with fail
  by_cases hk : okay x x2
  · refine (new_yes x x2 _ hk).mono ?_
    rintro e w2 ⟨rfl, g2⟩
    have HM1 : Keep (MB w (w2.alloc (.cells #[.int .i64 x, .int .i64 x2, .int .i64 (16 * x2)] 24)) w2.heap.size x x2 (16 * x2)) := ⟨MB.full (HG.out.trans g2) hk⟩
    clear g2 HG
    go_wp2_with fail
    generalize w2.alloc _ = w3 at *
    generalize w2.heap.size = kb at *
    clear w2
    refine (rnew_yes x x2 _ hk).mono ?_
    rintro e w4 ⟨rfl, g4⟩
    have HM : Keep (PL w (w4.alloc (.cells #[.int .i64 x, .int .i64 (16 * x2), .int .i64 (16 * x2)] 41)) kb w4.heap.size x x2 (16 * x2) (16 * x2) (.slice none 0 0) (.slice none 0 0) [] []) :=
      ⟨(HM1.out.kept g4).al _, Has.new w4 (bks x (16 * x2) (16 * x2)) 41, (HM1.out.kept g4).g.size, World.ownsRow_nil _ _ _ _, World.ownsRow_nil _ _ _ _, by have := (HM1.out.kept g4).lt; omega, (fun e => by cases e), (fun e => by cases e), (fun e => by cases e), (fun e => by cases e), (fun g e => by cases e), (fun y hy => by cases hy)⟩
    clear g4 HM1
    go_wp2_with fail
    generalize w4.alloc _ = w5 at *
    generalize w4.heap.size = kr at *
    clear w4 w3
    obtain ⟨hr0, hr1, hu0, hu1⟩ := hk
    obtain ⟨r, hr⟩ : ∃ r, x = r := ⟨_, rfl⟩
    obtain ⟨u, hu⟩ : ∃ u, x2 = u := ⟨_, rfl⟩
    rw [hr] at HM hr0 hr1
    rw [hu] at HM hu0 hu1
    clear hr hu
    obtain ⟨m16, hm16⟩ : ∃ m, 16 * u = m := ⟨_, rfl⟩
    have HM16 : Keep (16 * u = m16) := ⟨hm16⟩
    clear hm16
    go_loopw [11, 12, 13] (fun s11 s12 s13 w' => ∃ (i : Nat) (L : List Int) (Y : Int), i ≤ n ∧ L.length ≤ i ∧ s13 = .int .i64 (i : Nat) ∧ Keep (PL w w' kb kr r u Y Y s11 s12 L L)) (fun _ _ s _ => n - (intOf s).toNat)
    case atStart => exact ⟨0, [], 16 * u, by omega, by simp, rfl, HM⟩
    case round =>
      clear HM
      obtain ⟨i, L, Y, i1, hLi, rfl, HM⟩ := hrel
      by_cases hi : i < n
      · have hia : (i : Int) < (n : Int) := by omega
        obtain ⟨B, o, k, m, rfl, hxi, m0, m1, hcc⟩ := HX.out.step hi
        obtain ⟨c1, c2⟩ := hcc wr HM.out.b.g
        clear hcc hxi
        have hwi : IntKind.i64.wrap ((i : Int) + 1) = ((i + 1 : Nat) : Int) := wi _ (by omega) (by omega)
        obtain ⟨w6, hw6⟩ : ∃ q, wr.alloc (.cells #[.int .i64 k, .int .u64 m] 30) = q := ⟨_, rfl⟩
        have HM6 : Keep (PL w w6 kb kr r u Y Y u11 u12 L L) := ⟨by rw [← hw6]; exact HM.out.grown (World.grownBy_alloc _ _ _)⟩
        have HS6 : Keep (Has w6 wr.heap.size [.int .i64 k, .int .u64 m] 30) := ⟨by rw [← hw6]; exact Has.new wr [.int .i64 k, .int .u64 m] 30⟩
        have HN6 : Keep (kb ≠ wr.heap.size ∧ kr ≠ wr.heap.size) := ⟨by have := HM.out.b.lt; omega, by have := HM.out.q.lt; omega⟩
        have s0 := HS6.out.cellv 0 _ rfl
        have s1 := HS6.out.cellv 1 _ rfl
        have HYY : Keep (0 ≤ Y ∧ Y ≤ 16000 ∧ Y ≤ 16 * u) := ⟨HM.out.b.b.h0, by have := HM.out.b.b.h1; omega, HM.out.b.b.h1⟩
        clear HM
        by_cases k1 : k = 1
        · subst k1
          go_wp2_with fail
          have c := my_take HM6.out.b
          refine c.mono ?_
          rintro e w7 ⟨rfl, hb, g⟩
          have HM7 : Keep (PL w w7 kb kr r u (took Y) Y u11 u12 L L) := ⟨HM6.out.setB hb g⟩
          clear c hb g HM6 hw6 HS6 s0 s1 c1 c2
          have q0 := HM7.out.q.cellv 0 _ rfl
          have q1 := HM7.out.q.cellv 1 _ rfl
          have q2 := HM7.out.q.cellv 2 _ rfl
          have qz0 := HM7.out.q.frozen 0
          have qz1 := HM7.out.q.frozen 1
          have qz2 := HM7.out.q.frozen 2
          go_wp2_with fail
          refine (rtake_c r (16 * u) Y _ HYY.out.1 HYY.out.2.1).mono ?_
          rintro e wt ⟨rfl, g⟩
          obtain ⟨w8, hw8⟩ : ∃ q, wt.alloc (.cells #[.int .i64 r, .int .i64 (16 * u), .int .i64 (took Y)] 41) = q := ⟨_, rfl⟩
          have HM8 : Keep (PL w w8 kb kr r u (took Y) Y u11 u12 L L) := ⟨by rw [← hw8]; exact (HM7.out.grown g).grown (World.grownBy_alloc _ _ _)⟩
          have HS8 : Keep (Has w8 wt.heap.size (bks r (16 * u) (took Y)) 41) := ⟨by rw [← hw8]; exact Has.new wt (bks r (16 * u) (took Y)) 41⟩
          clear g HM7 q0 q1 q2 qz0 qz1 qz2
          have q0 := HM8.out.q.cellv 0 _ rfl
          have q1 := HM8.out.q.cellv 1 _ rfl
          have q2 := HM8.out.q.cellv 2 _ rfl
          have qz0 := HM8.out.q.frozen 0
          have qz1 := HM8.out.q.frozen 1
          have qz2 := HM8.out.q.frozen 2
          have p0 := HS8.out.cellv 0 _ rfl
          have p1 := HS8.out.cellv 1 _ rfl
          have p2 := HS8.out.cellv 2 _ rfl
          generalize took Y = YY at *
          generalize tcode Y = cd at *
          go_wp2_with fail
          have HM : Keep (PL w ((((w8).setCell ⟨kr, 0, none⟩ (.int .i64 r)).setCell ⟨kr, 1, none⟩ (.int .i64 (16 * u))).setCell ⟨kr, 2, none⟩ (.int .i64 YY)) kb kr r u YY YY u11 u12 L L) := ⟨HM8.out.putQ⟩
          generalize hW9 : (((w8).setCell ⟨kr, 0, none⟩ (.int .i64 r)).setCell ⟨kr, 1, none⟩ (.int .i64 (16 * u))).setCell ⟨kr, 2, none⟩ (.int .i64 YY) = w9 at HM ⊢
          clear hW9
          have HB : Keep (0 ≤ YY ∧ YY ≤ 16000) := ⟨HM.out.b.b.h0, by have := HM.out.b.b.h1; omega⟩
          have HH : Keep (PL w w9.drew kb kr r u YY YY u11 u12 L L) := ⟨HM.out.grown (gr_drew _ _)⟩
          refine wp_region_held_drew (S := fun w' => PL w w' kb kr r u YY YY u11 u12 L L) (by kernel_rfl) HH.out (fun hHeld => ?_)
          refine wpAnyH_take (i := 1) (oi := _) (v := ?_) rfl (by kernel_rfl) (by kernel_rfl) (by kernel_rfl) (fun _ _ _ h => h) (Or.inl ⟨by rfl, ?_⟩) (by assumption) ?_
          rotate_left
          · (intro w hSw; have x0 := hSw.q.cellv 0 _ rfl; have x1 := hSw.q.cellv 1 _ rfl; have x2 := hSw.q.cellv 2 _ rfl; clear hSw; go_simp; first | done | (with_reducible rfl))
          simp only [Act.put, List.getElem_toArray, List.getElem_cons_succ, List.getElem_cons_zero, List.setIfInBounds_toArray, List.set_cons_zero, List.set_cons_succ]
          refine wpAnyH_ready (rs := [0]) (by kernel_rfl) (by simp) ?_
          refine AllReadyH.cons rfl (fun K hK => ?_) AllReadyH.nil
          go_simp
          have c := my_left HH.out.b
          refine c.mono ?_
          rintro e wa ⟨rfl, hwa⟩
          rw [hwa]
          clear c hwa wa
          refine hK.out _ _ HH.out (fun hHeld => ?_)
          clear hK K
          refine wpAnyH_ready (rs := [2]) (by kernel_rfl) (by simp) ?_
          refine AllReadyH.cons rfl (fun K hK => ?_) AllReadyH.nil
          go_simp
          refine (rleft_c r (16 * u) YY _ HB.out.1 HB.out.2).mono ?_
          rintro e wa ⟨rfl, g⟩
          have HH2 : Keep (PL w wa kb kr r u YY YY u11 u12 L L) := ⟨HH.out.grown g⟩
          clear g
          refine hK.out _ _ HH2.out (fun hHeld => ?_)
          clear hK K
          generalize YY / 16 = qq at *
          refine wpAnyH_take (i := 3) (oi := _) (v := ?_) rfl (by kernel_rfl) (by kernel_rfl) (by kernel_rfl) (fun _ _ _ h => h) (Or.inl ⟨by rfl, ?_⟩) (by assumption) ?_
          rotate_left
          · (intro w hSw; go_simp; first | done | (with_reducible rfl))
          simp only [Act.put, List.getElem_toArray, List.getElem_cons_succ, List.getElem_cons_zero, List.setIfInBounds_toArray, List.set_cons_zero, List.set_cons_succ]
          refine wpAnyH_done (by kernel_rfl) ?_ _
          go_wp2_with fail
          refine ⟨⟨i + 1, L, YY, by omega, by omega, rfl, HH2⟩, ?_⟩
          simp only [intOf]; omega
        by_cases k2 : k = 2
        · subst k2
          go_wp2_with fail
          have c := my_tick HM6.out.b
          refine c.mono ?_
          rintro e w7 ⟨rfl, hb, g⟩
          have HM7 : Keep (PL w w7 kb kr r u (tk r u Y 1) Y u11 u12 L L) := ⟨HM6.out.setB hb g⟩
          clear c hb g HM6 hw6 HS6 s0 s1 c1 c2
          have q0 := HM7.out.q.cellv 0 _ rfl
          have q1 := HM7.out.q.cellv 1 _ rfl
          have q2 := HM7.out.q.cellv 2 _ rfl
          have qz0 := HM7.out.q.frozen 0
          have qz1 := HM7.out.q.frozen 1
          have qz2 := HM7.out.q.frozen 2
          go_wp2_with fail
          refine (rtick_c r (16 * u) Y _ HYY.out.1 HYY.out.2.1 hr0 hr1).mono ?_
          rintro e w8 ⟨rfl, g⟩
          rw [tk_tick]
          have HM8 : Keep (PL w w8 kb kr r u (tk r u Y 1) Y u11 u12 L L) := ⟨HM7.out.grown g⟩
          clear g HM7 q0 q1 q2 qz0 qz1 qz2
          have q0 := HM8.out.q.cellv 0 _ rfl
          have q1 := HM8.out.q.cellv 1 _ rfl
          have q2 := HM8.out.q.cellv 2 _ rfl
          have qz0 := HM8.out.q.frozen 0
          have qz1 := HM8.out.q.frozen 1
          have qz2 := HM8.out.q.frozen 2
          generalize tk r u Y 1 = YY at *
          go_wp2_with fail
          have HM : Keep (PL w ((((w8).setCell ⟨kr, 0, none⟩ (.int .i64 r)).setCell ⟨kr, 1, none⟩ (.int .i64 (16 * u))).setCell ⟨kr, 2, none⟩ (.int .i64 YY)) kb kr r u YY YY u11 u12 L L) := ⟨HM8.out.putQ⟩
          generalize hW9 : (((w8).setCell ⟨kr, 0, none⟩ (.int .i64 r)).setCell ⟨kr, 1, none⟩ (.int .i64 (16 * u))).setCell ⟨kr, 2, none⟩ (.int .i64 YY) = w9 at HM ⊢
          clear hW9
          have HB : Keep (0 ≤ YY ∧ YY ≤ 16000) := ⟨HM.out.b.b.h0, by have := HM.out.b.b.h1; omega⟩
          have HH : Keep (PL w w9.drew kb kr r u YY YY u11 u12 L L) := ⟨HM.out.grown (gr_drew _ _)⟩
          refine wp_region_held_drew (S := fun w' => PL w w' kb kr r u YY YY u11 u12 L L) (by kernel_rfl) HH.out (fun hHeld => ?_)
          refine wpAnyH_take (i := 1) (oi := _) (v := ?_) rfl (by kernel_rfl) (by kernel_rfl) (by kernel_rfl) (fun _ _ _ h => h) (Or.inl ⟨by rfl, ?_⟩) (by assumption) ?_
          rotate_left
          · (intro w hSw; have x0 := hSw.q.cellv 0 _ rfl; have x1 := hSw.q.cellv 1 _ rfl; have x2 := hSw.q.cellv 2 _ rfl; clear hSw; go_simp; first | done | (with_reducible rfl))
          simp only [Act.put, List.getElem_toArray, List.getElem_cons_succ, List.getElem_cons_zero, List.setIfInBounds_toArray, List.set_cons_zero, List.set_cons_succ]
          refine wpAnyH_ready (rs := [0]) (by kernel_rfl) (by simp) ?_
          refine AllReadyH.cons rfl (fun K hK => ?_) AllReadyH.nil
          go_simp
          have c := my_left HH.out.b
          refine c.mono ?_
          rintro e wa ⟨rfl, hwa⟩
          rw [hwa]
          clear c hwa wa
          refine hK.out _ _ HH.out (fun hHeld => ?_)
          clear hK K
          refine wpAnyH_ready (rs := [2]) (by kernel_rfl) (by simp) ?_
          refine AllReadyH.cons rfl (fun K hK => ?_) AllReadyH.nil
          go_simp
          refine (rleft_c r (16 * u) YY _ HB.out.1 HB.out.2).mono ?_
          rintro e wa ⟨rfl, g⟩
          have HH2 : Keep (PL w wa kb kr r u YY YY u11 u12 L L) := ⟨HH.out.grown g⟩
          clear g
          refine hK.out _ _ HH2.out (fun hHeld => ?_)
          clear hK K
          generalize YY / 16 = qq at *
          refine wpAnyH_take (i := 3) (oi := _) (v := ?_) rfl (by kernel_rfl) (by kernel_rfl) (by kernel_rfl) (fun _ _ _ h => h) (Or.inl ⟨by rfl, ?_⟩) (by assumption) ?_
          rotate_left
          · (intro w hSw; go_simp; first | done | (with_reducible rfl))
          simp only [Act.put, List.getElem_toArray, List.getElem_cons_succ, List.getElem_cons_zero, List.setIfInBounds_toArray, List.set_cons_zero, List.set_cons_succ]
          refine wpAnyH_done (by kernel_rfl) ?_ _
          go_wp2_with fail
          refine ⟨⟨i + 1, L, YY, by omega, by omega, rfl, HH2⟩, ?_⟩
          simp only [intOf]; omega
        by_cases k3 : k = 3
        · subst k3
          go_wp2_with fail
          have c := my_ticks m HM6.out.b m0 m1
          refine c.mono ?_
          rintro e w7 ⟨rfl, hb, g⟩
          have HM7 : Keep (PL w w7 kb kr r u (tk r u Y m) Y u11 u12 L L) := ⟨HM6.out.setB hb g⟩
          have HS7 : Keep (Has w7 wr.heap.size [.int .i64 3, .int .u64 m] 30) := ⟨HS6.out.kept g (by simp [Ne.symm HN6.out.1])⟩
          clear c hb g HM6 hw6 HS6 s0 s1 c1 c2
          have s1 := HS7.out.cellv 1 _ rfl
          have q0 := HM7.out.q.cellv 0 _ rfl
          have q1 := HM7.out.q.cellv 1 _ rfl
          have q2 := HM7.out.q.cellv 2 _ rfl
          have qz0 := HM7.out.q.frozen 0
          have qz1 := HM7.out.q.frozen 1
          have qz2 := HM7.out.q.frozen 2
          go_wp2_with fail
          refine (rticks_c r u Y m _ ⟨hr0, hr1, hu0, hu1⟩ HYY.out.1 HYY.out.2.2 m0).mono ?_
          rintro e w8 ⟨rfl, g⟩
          have HM8 : Keep (PL w w8 kb kr r u (tk r u Y m) Y u11 u12 L L) := ⟨HM7.out.grown g⟩
          clear g HM7 q0 q1 q2 qz0 qz1 qz2 s1
          have q0 := HM8.out.q.cellv 0 _ rfl
          have q1 := HM8.out.q.cellv 1 _ rfl
          have q2 := HM8.out.q.cellv 2 _ rfl
          have qz0 := HM8.out.q.frozen 0
          have qz1 := HM8.out.q.frozen 1
          have qz2 := HM8.out.q.frozen 2
          generalize tk r u Y m = YY at *
          go_wp2_with fail
          have HM : Keep (PL w ((((w8).setCell ⟨kr, 0, none⟩ (.int .i64 r)).setCell ⟨kr, 1, none⟩ (.int .i64 (16 * u))).setCell ⟨kr, 2, none⟩ (.int .i64 YY)) kb kr r u YY YY u11 u12 L L) := ⟨HM8.out.putQ⟩
          generalize hW9 : (((w8).setCell ⟨kr, 0, none⟩ (.int .i64 r)).setCell ⟨kr, 1, none⟩ (.int .i64 (16 * u))).setCell ⟨kr, 2, none⟩ (.int .i64 YY) = w9 at HM ⊢
          clear hW9
          have HB : Keep (0 ≤ YY ∧ YY ≤ 16000) := ⟨HM.out.b.b.h0, by have := HM.out.b.b.h1; omega⟩
          have HH : Keep (PL w w9.drew kb kr r u YY YY u11 u12 L L) := ⟨HM.out.grown (gr_drew _ _)⟩
          refine wp_region_held_drew (S := fun w' => PL w w' kb kr r u YY YY u11 u12 L L) (by kernel_rfl) HH.out (fun hHeld => ?_)
          refine wpAnyH_take (i := 1) (oi := _) (v := ?_) rfl (by kernel_rfl) (by kernel_rfl) (by kernel_rfl) (fun _ _ _ h => h) (Or.inl ⟨by rfl, ?_⟩) (by assumption) ?_
          rotate_left
          · (intro w hSw; have x0 := hSw.q.cellv 0 _ rfl; have x1 := hSw.q.cellv 1 _ rfl; have x2 := hSw.q.cellv 2 _ rfl; clear hSw; go_simp; first | done | (with_reducible rfl))
          simp only [Act.put, List.getElem_toArray, List.getElem_cons_succ, List.getElem_cons_zero, List.setIfInBounds_toArray, List.set_cons_zero, List.set_cons_succ]
          refine wpAnyH_ready (rs := [0]) (by kernel_rfl) (by simp) ?_
          refine AllReadyH.cons rfl (fun K hK => ?_) AllReadyH.nil
          go_simp
          have c := my_left HH.out.b
          refine c.mono ?_
          rintro e wa ⟨rfl, hwa⟩
          rw [hwa]
          clear c hwa wa
          refine hK.out _ _ HH.out (fun hHeld => ?_)
          clear hK K
          refine wpAnyH_ready (rs := [2]) (by kernel_rfl) (by simp) ?_
          refine AllReadyH.cons rfl (fun K hK => ?_) AllReadyH.nil
          go_simp
          refine (rleft_c r (16 * u) YY _ HB.out.1 HB.out.2).mono ?_
          rintro e wa ⟨rfl, g⟩
          have HH2 : Keep (PL w wa kb kr r u YY YY u11 u12 L L) := ⟨HH.out.grown g⟩
          clear g
          refine hK.out _ _ HH2.out (fun hHeld => ?_)
          clear hK K
          generalize YY / 16 = qq at *
          refine wpAnyH_take (i := 3) (oi := _) (v := ?_) rfl (by kernel_rfl) (by kernel_rfl) (by kernel_rfl) (fun _ _ _ h => h) (Or.inl ⟨by rfl, ?_⟩) (by assumption) ?_
          rotate_left
          · (intro w hSw; go_simp; first | done | (with_reducible rfl))
          simp only [Act.put, List.getElem_toArray, List.getElem_cons_succ, List.getElem_cons_zero, List.setIfInBounds_toArray, List.set_cons_zero, List.set_cons_succ]
          refine wpAnyH_done (by kernel_rfl) ?_ _
          go_wp2_with fail
          refine ⟨⟨i + 1, L, YY, by omega, by omega, rfl, HH2⟩, ?_⟩
          simp only [intOf]; omega
        by_cases k4 : k = 4
        · subst k4
          obtain ⟨ga, ca, w7, ra, hm7⟩ := HM6.out.appA (by omega)
          obtain ⟨gp, cp, w8, rp, hm8⟩ := hm7.appP (by omega)
          have RA := Keep.mk ra
          have RP := Keep.mk rp
          have HB6 := HM6.out.b.b.has
          have b0 := HB6.cellv 0 _ rfl
          have b1 := HB6.cellv 1 _ rfl
          have b2 := HB6.cellv 2 _ rfl
          have q0 := hm7.q.cellv 0 _ rfl
          have q1 := hm7.q.cellv 1 _ rfl
          have q2 := hm7.q.cellv 2 _ rfl
          have HM : Keep (PL w w8 kb kr r u Y Y (.slice (some ⟨ga, 0, none⟩) (L.length + 1) ca) (.slice (some ⟨gp, 0, none⟩) (L.length + 1) cp) (L ++ [Y]) (L ++ [Y])) := ⟨hm8⟩
          have HLL : Keep ((L ++ [Y]).length = L.length + 1) := ⟨by simp⟩
          clear ra rp hm7 hm8 HM6 HB6
          go_wp2_with ((first | (at_builtin; refine wpList_append_run _ rfl (.tmp 81) (.tmp 83) 44 rfl _ _ rfl rfl RA.out ?_) | (at_builtin; refine wpList_append_run _ rfl (.tmp 85) (.tmp 87) 45 rfl _ _ rfl rfl RP.out ?_)))
          clear RA RP b0 b1 b2 q0 q1 q2 s0 s1 c1 c2 hw6 HS6
          have HB : Keep (0 ≤ Y ∧ Y ≤ 16000) := ⟨HM.out.b.b.h0, by have := HM.out.b.b.h1; omega⟩
          have HH : Keep (PL w w8.drew kb kr r u Y Y (.slice (some ⟨ga, 0, none⟩) (L.length + 1) ca) (.slice (some ⟨gp, 0, none⟩) (L.length + 1) cp) (L ++ [Y]) (L ++ [Y])) := ⟨HM.out.grown (gr_drew _ _)⟩
          refine wp_region_held_drew (S := fun w' => PL w w' kb kr r u Y Y (.slice (some ⟨ga, 0, none⟩) (L.length + 1) ca) (.slice (some ⟨gp, 0, none⟩) (L.length + 1) cp) (L ++ [Y]) (L ++ [Y])) (by kernel_rfl) HH.out (fun hHeld => ?_)
          refine wpAnyH_take (i := 1) (oi := _) (v := ?_) rfl (by kernel_rfl) (by kernel_rfl) (by kernel_rfl) (fun _ _ _ h => h) (Or.inl ⟨by rfl, ?_⟩) (by assumption) ?_
          rotate_left
          · (intro w hSw; have x0 := hSw.q.cellv 0 _ rfl; have x1 := hSw.q.cellv 1 _ rfl; have x2 := hSw.q.cellv 2 _ rfl; clear hSw; go_simp; first | done | (with_reducible rfl))
          simp only [Act.put, List.getElem_toArray, List.getElem_cons_succ, List.getElem_cons_zero, List.setIfInBounds_toArray, List.set_cons_zero, List.set_cons_succ]
          refine wpAnyH_ready (rs := [0]) (by kernel_rfl) (by simp) ?_
          refine AllReadyH.cons rfl (fun K hK => ?_) AllReadyH.nil
          go_simp
          have c := my_left HH.out.b
          refine c.mono ?_
          rintro e wa ⟨rfl, hwa⟩
          rw [hwa]
          clear c hwa wa
          refine hK.out _ _ HH.out (fun hHeld => ?_)
          clear hK K
          refine wpAnyH_ready (rs := [2]) (by kernel_rfl) (by simp) ?_
          refine AllReadyH.cons rfl (fun K hK => ?_) AllReadyH.nil
          go_simp
          refine (rleft_c r (16 * u) Y _ HB.out.1 HB.out.2).mono ?_
          rintro e wa ⟨rfl, g⟩
          have HH2 : Keep (PL w wa kb kr r u Y Y (.slice (some ⟨ga, 0, none⟩) (L.length + 1) ca) (.slice (some ⟨gp, 0, none⟩) (L.length + 1) cp) (L ++ [Y]) (L ++ [Y])) := ⟨HH.out.grown g⟩
          clear g
          refine hK.out _ _ HH2.out (fun hHeld => ?_)
          clear hK K
          generalize Y / 16 = qq at *
          refine wpAnyH_take (i := 3) (oi := _) (v := ?_) rfl (by kernel_rfl) (by kernel_rfl) (by kernel_rfl) (fun _ _ _ h => h) (Or.inl ⟨by rfl, ?_⟩) (by assumption) ?_
          rotate_left
          · (intro w hSw; go_simp; first | done | (with_reducible rfl))
          simp only [Act.put, List.getElem_toArray, List.getElem_cons_succ, List.getElem_cons_zero, List.setIfInBounds_toArray, List.set_cons_zero, List.set_cons_succ]
          refine wpAnyH_done (by kernel_rfl) ?_ _
          go_wp2_with fail
          refine ⟨⟨i + 1, (L ++ [Y]), Y, by omega, by rw [HLL.out]; omega, rfl, HH2⟩, ?_⟩
          simp only [intOf]; omega
        by_cases k5 : k = 5
        · subst k5
          rcases Nat.eq_zero_or_pos L.length with hL | hL
          · obtain ⟨aa, ca, e1⟩ := own_slice HM6.out.a
            rw [hL] at e1
            subst e1
            have HM := HM6
            clear HM6
            have HL0 := Keep.mk hL
            clear hL
            go_wp2_with fail
            clear c1 c2 s0 s1 hw6 HS6
            have HB : Keep (0 ≤ Y ∧ Y ≤ 16000) := ⟨HM.out.b.b.h0, by have := HM.out.b.b.h1; omega⟩
            have HH : Keep (PL w w6.drew kb kr r u Y Y (.slice aa 0 ca) u12 L L) := ⟨HM.out.grown (gr_drew _ _)⟩
            refine wp_region_held_drew (S := fun w' => PL w w' kb kr r u Y Y (.slice aa 0 ca) u12 L L) (by kernel_rfl) HH.out (fun hHeld => ?_)
            refine wpAnyH_take (i := 1) (oi := _) (v := ?_) rfl (by kernel_rfl) (by kernel_rfl) (by kernel_rfl) (fun _ _ _ h => h) (Or.inl ⟨by rfl, ?_⟩) (by assumption) ?_
            rotate_left
            · (intro w hSw; have x0 := hSw.q.cellv 0 _ rfl; have x1 := hSw.q.cellv 1 _ rfl; have x2 := hSw.q.cellv 2 _ rfl; clear hSw; go_simp; first | done | (with_reducible rfl))
            simp only [Act.put, List.getElem_toArray, List.getElem_cons_succ, List.getElem_cons_zero, List.setIfInBounds_toArray, List.set_cons_zero, List.set_cons_succ]
            refine wpAnyH_ready (rs := [0]) (by kernel_rfl) (by simp) ?_
            refine AllReadyH.cons rfl (fun K hK => ?_) AllReadyH.nil
            go_simp
            have c := my_left HH.out.b
            refine c.mono ?_
            rintro e wa ⟨rfl, hwa⟩
            rw [hwa]
            clear c hwa wa
            refine hK.out _ _ HH.out (fun hHeld => ?_)
            clear hK K
            refine wpAnyH_ready (rs := [2]) (by kernel_rfl) (by simp) ?_
            refine AllReadyH.cons rfl (fun K hK => ?_) AllReadyH.nil
            go_simp
            refine (rleft_c r (16 * u) Y _ HB.out.1 HB.out.2).mono ?_
            rintro e wa ⟨rfl, g⟩
            have HH2 : Keep (PL w wa kb kr r u Y Y (.slice aa 0 ca) u12 L L) := ⟨HH.out.grown g⟩
            clear g
            refine hK.out _ _ HH2.out (fun hHeld => ?_)
            clear hK K
            generalize Y / 16 = qq at *
            refine wpAnyH_take (i := 3) (oi := _) (v := ?_) rfl (by kernel_rfl) (by kernel_rfl) (by kernel_rfl) (fun _ _ _ h => h) (Or.inl ⟨by rfl, ?_⟩) (by assumption) ?_
            rotate_left
            · (intro w hSw; go_simp; first | done | (with_reducible rfl))
            simp only [Act.put, List.getElem_toArray, List.getElem_cons_succ, List.getElem_cons_zero, List.setIfInBounds_toArray, List.set_cons_zero, List.set_cons_succ]
            refine wpAnyH_done (by kernel_rfl) ?_ _
            go_wp2_with fail
            refine ⟨⟨i + 1, L, Y, by omega, by omega, rfl, HH2⟩, ?_⟩
            simp only [intOf]; omega
          · obtain ⟨ga, ca, gp, cp, e1, e2⟩ := HM6.out.shape hL rfl
            obtain ⟨q, hq⟩ : ∃ q, L.length = q + 1 := ⟨L.length - 1, by omega⟩
            rw [hq] at e1 e2
            subst e1 e2
            have hqL : q < L.length := by omega
            have HQ := Keep.mk hq
            have hqn : q + 1 ≤ i := by omega
            clear hq hL
            have hwq : IntKind.i64.wrap ((q : Int) + 1 - 1) = (q : Int) := by rw [show (q : Int) + 1 - 1 = (q : Int) by omega]; exact wi _ (by omega) (by omega)
            have hwq2 : IntKind.i64.wrap (((q + 1 : Nat) : Int) - 1) = (q : Int) := by rw [show ((q + 1 : Nat) : Int) - 1 = (q : Int) by omega]; exact wi _ (by omega) (by omega)
            obtain ⟨y1, hy1⟩ : ∃ y, L[q] = y := ⟨_, rfl⟩
            obtain ⟨HA, y0, y16⟩ := HM6.out.atA hqL
            have HP := HM6.out.atP hqL
            rw [hy1] at HA y0 y16 HP
            have HYQ : Keep (0 ≤ y1 ∧ y1 ≤ 16 * u) := ⟨y0, y16⟩
            obtain ⟨w7, hw7⟩ : ∃ q, w6.alloc (.cells #[.int .i64 r, .int .i64 u, .int .i64 Y] 24) = q := ⟨_, rfl⟩
            have HM7 : Keep (PL w w7 kb kr r u Y Y (.slice (some ⟨ga, 0, none⟩) (q + 1) ca) (.slice (some ⟨gp, 0, none⟩) (q + 1) cp) L L) := ⟨by rw [← hw7]; exact HM6.out.grown (World.grownBy_alloc _ _ _)⟩
            have HS7 : Keep (Has w7 w6.heap.size (bks r u Y) 24) := ⟨by rw [← hw7]; exact Has.new w6 (bks r u Y) 24⟩
            have b0 := HM6.out.b.b.has.cellv 0 _ rfl
            have b1 := HM6.out.b.b.has.cellv 1 _ rfl
            have b2 := HM6.out.b.b.has.cellv 2 _ rfl
            have bz0 := HM7.out.b.b.has.frozen 0
            have bz1 := HM7.out.b.b.has.frozen 1
            have bz2 := HM7.out.b.b.has.frozen 2
            have bc0 := HM7.out.b.b.has.cellv 0 _ rfl
            have bc1 := HM7.out.b.b.has.cellv 1 _ rfl
            have bc2 := HM7.out.b.b.has.cellv 2 _ rfl
            have HA7 := (HM7.out.atA hqL).1
            rw [hy1] at HA7
            have a0 := (HA7 0 _ (by omega) rfl).1
            have a1 := (HA7 1 _ (by omega) rfl).1
            have a2 := (HA7 2 _ (by omega) rfl).1
            rw [Nat.add_zero] at a0
            have HN7 : Keep (kb ≠ w6.heap.size) := ⟨by have := HM6.out.b.lt; omega⟩
            have HY1 := Keep.mk hy1
            clear HA HP HA7 y0 y16 hy1 HM6
            go_upto_region 36 with fail
            have HM8 : Keep (PL w ((((w7).setCell ⟨kb, 0, none⟩ (.int .i64 r)).setCell ⟨kb, 1, none⟩ (.int .i64 u)).setCell ⟨kb, 2, none⟩ (.int .i64 y1)) kb kr r u y1 Y (.slice (some ⟨ga, 0, none⟩) (q + 1) ca) (.slice (some ⟨gp, 0, none⟩) (q + 1) cp) L L) := ⟨HM7.out.putB HYQ.out⟩
            have HS8 : Keep (Has ((((w7).setCell ⟨kb, 0, none⟩ (.int .i64 r)).setCell ⟨kb, 1, none⟩ (.int .i64 u)).setCell ⟨kb, 2, none⟩ (.int .i64 y1)) w6.heap.size (bks r u Y) 24) := ⟨HS7.out.kept (gr3 w7 kb 0 _ _ _) (by simp [Ne.symm HN7.out])⟩
            generalize hw8 : ((((w7).setCell ⟨kb, 0, none⟩ (.int .i64 r)).setCell ⟨kb, 1, none⟩ (.int .i64 u)).setCell ⟨kb, 2, none⟩ (.int .i64 y1)) = w8 at HM8 HS8 ⊢
            clear b0 b1 b2 bz0 bz1 bz2 bc0 bc1 bc2 a0 a1 a2 HM7 HS7 hw8 hw7
            have p0 := HS8.out.cellv 0 _ rfl
            have p1 := HS8.out.cellv 1 _ rfl
            have p2 := HS8.out.cellv 2 _ rfl
            have HA8 := (HM8.out.atA hqL).1
            have a0 := (HA8 0 _ (by omega) rfl)
            have a1 := (HA8 1 _ (by omega) rfl)
            have a2 := (HA8 2 _ (by omega) rfl)
            rw [Nat.add_zero] at a0
            obtain ⟨a0, az0⟩ := a0
            obtain ⟨a1, az1⟩ := a1
            obtain ⟨a2, az2⟩ := a2
            clear HA8
            go_upto_region 37 with fail
            have HM9 : Keep (PL w ((((w8).setCell ⟨ga, q * 3, none⟩ (.int .i64 r)).setCell ⟨ga, q * 3 + 1, none⟩ (.int .i64 u)).setCell ⟨ga, q * 3 + 2, none⟩ (.int .i64 Y)) kb kr r u y1 Y (.slice (some ⟨ga, 0, none⟩) (q + 1) ca) (.slice (some ⟨gp, 0, none⟩) (q + 1) cp) (L.set q Y) L) := ⟨HM8.out.setA HQ.out hqL ⟨HYY.out.1, HYY.out.2.2⟩⟩
            generalize hw9 : ((((w8).setCell ⟨ga, q * 3, none⟩ (.int .i64 r)).setCell ⟨ga, q * 3 + 1, none⟩ (.int .i64 u)).setCell ⟨ga, q * 3 + 2, none⟩ (.int .i64 Y)) = w9 at HM9 ⊢
            clear p0 p1 p2 a0 a1 a2 az0 az1 az2 HM8 HS8 hw9
            obtain ⟨wa, hwa⟩ : ∃ q, w9.alloc (.cells #[.int .i64 r, .int .i64 (16 * u), .int .i64 Y] 41) = q := ⟨_, rfl⟩
            have HMa : Keep (PL w wa kb kr r u y1 Y (.slice (some ⟨ga, 0, none⟩) (q + 1) ca) (.slice (some ⟨gp, 0, none⟩) (q + 1) cp) (L.set q Y) L) := ⟨by rw [← hwa]; exact HM9.out.grown (World.grownBy_alloc _ _ _)⟩
            have HSa : Keep (Has wa w9.heap.size (bks r (16 * u) Y) 41) := ⟨by rw [← hwa]; exact Has.new w9 (bks r (16 * u) Y) 41⟩
            have HNa : Keep (kr ≠ w9.heap.size) := ⟨by have := HM9.out.q.lt; omega⟩
            have p0 := HM9.out.q.cellv 0 _ rfl
            have p1 := HM9.out.q.cellv 1 _ rfl
            have p2 := HM9.out.q.cellv 2 _ rfl
            have q0 := HMa.out.q.cellv 0 _ rfl
            have q1 := HMa.out.q.cellv 1 _ rfl
            have q2 := HMa.out.q.cellv 2 _ rfl
            have qz0 := HMa.out.q.frozen 0
            have qz1 := HMa.out.q.frozen 1
            have qz2 := HMa.out.q.frozen 2
            have HPa := HMa.out.atP hqL
            rw [HY1.out] at HPa
            have a0 := (HPa 0 _ (by omega) rfl).1
            have a1 := (HPa 1 _ (by omega) rfl).1
            have a2 := (HPa 2 _ (by omega) rfl).1
            rw [Nat.add_zero] at a0
            clear HPa
            go_upto_region 39 with fail
            have HMb : Keep (PL w ((((wa).setCell ⟨kr, 0, none⟩ (.int .i64 r)).setCell ⟨kr, 1, none⟩ (.int .i64 (16 * u))).setCell ⟨kr, 2, none⟩ (.int .i64 y1)) kb kr r u y1 y1 (.slice (some ⟨ga, 0, none⟩) (q + 1) ca) (.slice (some ⟨gp, 0, none⟩) (q + 1) cp) (L.set q Y) L) := ⟨HMa.out.putQ⟩
            have HSb : Keep (Has ((((wa).setCell ⟨kr, 0, none⟩ (.int .i64 r)).setCell ⟨kr, 1, none⟩ (.int .i64 (16 * u))).setCell ⟨kr, 2, none⟩ (.int .i64 y1)) w9.heap.size (bks r (16 * u) Y) 41) := ⟨HSa.out.kept (gr3 wa kr 0 _ _ _) (by simp [Ne.symm HNa.out])⟩
            generalize hwb : ((((wa).setCell ⟨kr, 0, none⟩ (.int .i64 r)).setCell ⟨kr, 1, none⟩ (.int .i64 (16 * u))).setCell ⟨kr, 2, none⟩ (.int .i64 y1)) = wb at HMb HSb ⊢
            clear p0 p1 p2 a0 a1 a2 q0 q1 q2 qz0 qz1 qz2 HMa HSa hwb hwa HM9
            have p0 := HSb.out.cellv 0 _ rfl
            have p1 := HSb.out.cellv 1 _ rfl
            have p2 := HSb.out.cellv 2 _ rfl
            have HPb := HMb.out.atP hqL
            have a0 := (HPb 0 _ (by omega) rfl)
            have a1 := (HPb 1 _ (by omega) rfl)
            have a2 := (HPb 2 _ (by omega) rfl)
            rw [Nat.add_zero] at a0
            obtain ⟨a0, az0⟩ := a0
            obtain ⟨a1, az1⟩ := a1
            obtain ⟨a2, az2⟩ := a2
            clear HPb
            go_upto_region 40 with fail
            have HM : Keep (PL w ((((wb).setCell ⟨gp, q * 3, none⟩ (.int .i64 r)).setCell ⟨gp, q * 3 + 1, none⟩ (.int .i64 (16 * u))).setCell ⟨gp, q * 3 + 2, none⟩ (.int .i64 Y)) kb kr r u y1 y1 (.slice (some ⟨ga, 0, none⟩) (q + 1) ca) (.slice (some ⟨gp, 0, none⟩) (q + 1) cp) (L.set q Y) (L.set q Y)) := ⟨HMb.out.setP HQ.out hqL⟩
            generalize hwc : ((((wb).setCell ⟨gp, q * 3, none⟩ (.int .i64 r)).setCell ⟨gp, q * 3 + 1, none⟩ (.int .i64 (16 * u))).setCell ⟨gp, q * 3 + 2, none⟩ (.int .i64 Y)) = wc at HM ⊢
            have HLq : Keep ((L.set q Y).length = q + 1) := ⟨by rw [List.length_set]; exact HQ.out⟩
            clear p0 p1 p2 a0 a1 a2 az0 az1 az2 HMb HSb hwc s0 s1 c1 c2 hw6 HS6
            have HB : Keep (0 ≤ y1 ∧ y1 ≤ 16000) := ⟨HM.out.b.b.h0, by have := HM.out.b.b.h1; omega⟩
            have HH : Keep (PL w wc.drew kb kr r u y1 y1 (.slice (some ⟨ga, 0, none⟩) (q + 1) ca) (.slice (some ⟨gp, 0, none⟩) (q + 1) cp) (L.set q Y) (L.set q Y)) := ⟨HM.out.grown (gr_drew _ _)⟩
            refine wp_region_held_drew (S := fun w' => PL w w' kb kr r u y1 y1 (.slice (some ⟨ga, 0, none⟩) (q + 1) ca) (.slice (some ⟨gp, 0, none⟩) (q + 1) cp) (L.set q Y) (L.set q Y)) (by kernel_rfl) HH.out (fun hHeld => ?_)
            refine wpAnyH_take (i := 1) (oi := _) (v := ?_) rfl (by kernel_rfl) (by kernel_rfl) (by kernel_rfl) (fun _ _ _ h => h) (Or.inl ⟨by rfl, ?_⟩) (by assumption) ?_
            rotate_left
            · (intro w hSw; have x0 := hSw.q.cellv 0 _ rfl; have x1 := hSw.q.cellv 1 _ rfl; have x2 := hSw.q.cellv 2 _ rfl; clear hSw; go_simp; first | done | (with_reducible rfl))
            simp only [Act.put, List.getElem_toArray, List.getElem_cons_succ, List.getElem_cons_zero, List.setIfInBounds_toArray, List.set_cons_zero, List.set_cons_succ]
            refine wpAnyH_ready (rs := [0]) (by kernel_rfl) (by simp) ?_
            refine AllReadyH.cons rfl (fun K hK => ?_) AllReadyH.nil
            go_simp
            have c := my_left HH.out.b
            refine c.mono ?_
            rintro e wa ⟨rfl, hwa⟩
            rw [hwa]
            clear c hwa wa
            refine hK.out _ _ HH.out (fun hHeld => ?_)
            clear hK K
            refine wpAnyH_ready (rs := [2]) (by kernel_rfl) (by simp) ?_
            refine AllReadyH.cons rfl (fun K hK => ?_) AllReadyH.nil
            go_simp
            refine (rleft_c r (16 * u) y1 _ HB.out.1 HB.out.2).mono ?_
            rintro e wa ⟨rfl, g⟩
            have HH2 : Keep (PL w wa kb kr r u y1 y1 (.slice (some ⟨ga, 0, none⟩) (q + 1) ca) (.slice (some ⟨gp, 0, none⟩) (q + 1) cp) (L.set q Y) (L.set q Y)) := ⟨HH.out.grown g⟩
            clear g
            refine hK.out _ _ HH2.out (fun hHeld => ?_)
            clear hK K
            generalize y1 / 16 = qq at *
            refine wpAnyH_take (i := 3) (oi := _) (v := ?_) rfl (by kernel_rfl) (by kernel_rfl) (by kernel_rfl) (fun _ _ _ h => h) (Or.inl ⟨by rfl, ?_⟩) (by assumption) ?_
            rotate_left
            · (intro w hSw; go_simp; first | done | (with_reducible rfl))
            simp only [Act.put, List.getElem_toArray, List.getElem_cons_succ, List.getElem_cons_zero, List.setIfInBounds_toArray, List.set_cons_zero, List.set_cons_succ]
            refine wpAnyH_done (by kernel_rfl) ?_ _
            go_wp2_with fail
            refine ⟨⟨i + 1, (L.set q Y), y1, by omega, by rw [HLq.out]; omega, rfl, HH2⟩, ?_⟩
            simp only [intOf]; omega
        · have HM := HM6
          clear HM6
          go_wp2_with fail
          clear c1 c2 s0 s1 hw6 HS6
          have HB : Keep (0 ≤ Y ∧ Y ≤ 16000) := ⟨HM.out.b.b.h0, by have := HM.out.b.b.h1; omega⟩
          have HH : Keep (PL w w6.drew kb kr r u Y Y u11 u12 L L) := ⟨HM.out.grown (gr_drew _ _)⟩
          refine wp_region_held_drew (S := fun w' => PL w w' kb kr r u Y Y u11 u12 L L) (by kernel_rfl) HH.out (fun hHeld => ?_)
          refine wpAnyH_take (i := 1) (oi := _) (v := ?_) rfl (by kernel_rfl) (by kernel_rfl) (by kernel_rfl) (fun _ _ _ h => h) (Or.inl ⟨by rfl, ?_⟩) (by assumption) ?_
          rotate_left
          · (intro w hSw; have x0 := hSw.q.cellv 0 _ rfl; have x1 := hSw.q.cellv 1 _ rfl; have x2 := hSw.q.cellv 2 _ rfl; clear hSw; go_simp; first | done | (with_reducible rfl))
          simp only [Act.put, List.getElem_toArray, List.getElem_cons_succ, List.getElem_cons_zero, List.setIfInBounds_toArray, List.set_cons_zero, List.set_cons_succ]
          refine wpAnyH_ready (rs := [0]) (by kernel_rfl) (by simp) ?_
          refine AllReadyH.cons rfl (fun K hK => ?_) AllReadyH.nil
          go_simp
          have c := my_left HH.out.b
          refine c.mono ?_
          rintro e wa ⟨rfl, hwa⟩
          rw [hwa]
          clear c hwa wa
          refine hK.out _ _ HH.out (fun hHeld => ?_)
          clear hK K
          refine wpAnyH_ready (rs := [2]) (by kernel_rfl) (by simp) ?_
          refine AllReadyH.cons rfl (fun K hK => ?_) AllReadyH.nil
          go_simp
          refine (rleft_c r (16 * u) Y _ HB.out.1 HB.out.2).mono ?_
          rintro e wa ⟨rfl, g⟩
          have HH2 : Keep (PL w wa kb kr r u Y Y u11 u12 L L) := ⟨HH.out.grown g⟩
          clear g
          refine hK.out _ _ HH2.out (fun hHeld => ?_)
          clear hK K
          generalize Y / 16 = qq at *
          refine wpAnyH_take (i := 3) (oi := _) (v := ?_) rfl (by kernel_rfl) (by kernel_rfl) (by kernel_rfl) (fun _ _ _ h => h) (Or.inl ⟨by rfl, ?_⟩) (by assumption) ?_
          rotate_left
          · (intro w hSw; go_simp; first | done | (with_reducible rfl))
          simp only [Act.put, List.getElem_toArray, List.getElem_cons_succ, List.getElem_cons_zero, List.setIfInBounds_toArray, List.set_cons_zero, List.set_cons_succ]
          refine wpAnyH_done (by kernel_rfl) ?_ _
          go_wp2_with fail
          refine ⟨⟨i + 1, L, Y, by omega, by omega, rfl, HH2⟩, ?_⟩
          simp only [intOf]; omega
      · have hia : ¬ (i : Int) < (n : Int) := by omega
        rcases Nat.eq_zero_or_pos L.length with hL | hL
        · obtain ⟨aa, ca, e1⟩ := own_slice HM.out.a
          rw [hL] at e1
          subst e1
          clear hL
          go_wp2_with fail
          go_loopw [21] (fun s w' => s = .int .i64 0 ∧ Keep (PL w w' kb kr r u Y Y (.slice aa 0 ca) u12 L L)) (fun s _ => 0)
          case atStart => exact ⟨rfl, HM⟩
          case round =>
            clear HM
            obtain ⟨rfl, HM⟩ := hrel
            go_wp2_with fail
            go_ret
            exact ⟨rfl, HM.out.b.g⟩
        · obtain ⟨ga, ca, gp, cp, e1, e2⟩ := HM.out.shape hL rfl
          subst e1 e2
          go_wp2_with fail
          go_loopw [21] (fun s w' => ∃ (j : Nat), j ≤ L.length ∧ s = .int .i64 (j : Nat) ∧ Keep (PL w w' kb kr r u Y Y (.slice (some ⟨ga, 0, none⟩) L.length ca) (.slice (some ⟨gp, 0, none⟩) L.length cp) L L)) (fun s _ => L.length - (intOf s).toNat)
          case atStart => exact ⟨0, by omega, rfl, HM⟩
          case round =>
            clear HM
            obtain ⟨j, j1, rfl, HM⟩ := hrel
            by_cases hj : j < L.length
            · have hja : (j : Int) < (L.length : Int) := by omega
              have hwj : IntKind.i64.wrap ((j : Int) + 1) = ((j + 1 : Nat) : Int) := wi _ (by omega) (by omega)
              obtain ⟨y1, hy1⟩ : ∃ y, L[j] = y := ⟨_, rfl⟩
              have HY1 : Keep (L[j] = y1 ∧ 0 ≤ y1 ∧ y1 ≤ 16000) := ⟨hy1, by rw [← hy1]; exact (HM.out.atA hj).2.1, by have := (HM.out.atA hj).2.2; omega⟩
              clear hy1
              go_wp2_with fail
              have HH : Keep (PL w wr.drew kb kr r u Y Y (.slice (some ⟨ga, 0, none⟩) L.length ca) (.slice (some ⟨gp, 0, none⟩) L.length cp) L L) := ⟨HM.out.grown (gr_drew _ _)⟩
              refine wp_region_held_drew (S := fun w' => PL w w' kb kr r u Y Y (.slice (some ⟨ga, 0, none⟩) L.length ca) (.slice (some ⟨gp, 0, none⟩) L.length cp) L L) (by kernel_rfl) HH.out (fun hHeld => ?_)
              refine wpAnyH_take (i := 0) (oi := _) (v := ?_) rfl (by kernel_rfl) (by kernel_rfl) (by kernel_rfl) (fun _ _ _ h => h) (Or.inl ⟨by rfl, ?_⟩) (by assumption) ?_
              rotate_left
              · (intro w hSw; go_simp; first | done | (with_reducible rfl))
              simp only [Act.put, List.getElem_toArray, List.getElem_cons_zero, List.setIfInBounds_toArray, List.set_cons_zero, List.set_cons_succ]
              refine wpAnyH_take (i := 1) (oi := _) (v := ?_) rfl (by kernel_rfl) (by kernel_rfl) (by kernel_rfl) (fun _ _ _ h => h) (Or.inl ⟨by rfl, ?_⟩) (by assumption) ?_
              rotate_left
              · (intro w hSw; go_simp; first | done | (with_reducible rfl))
              simp only [Act.put, List.getElem_toArray, List.getElem_cons_succ, List.getElem_cons_zero, List.setIfInBounds_toArray, List.set_cons_zero, List.set_cons_succ]
              refine wpAnyH_take (i := 2) (oi := _) (v := ?_) rfl (by kernel_rfl) (by kernel_rfl) (by kernel_rfl) (fun _ _ _ h => h) (Or.inl ⟨by rfl, ?_⟩) (by assumption) ?_
              rotate_left
              · (intro w hSw; go_simp; first | done | (with_reducible rfl))
              simp only [Act.put, List.getElem_toArray, List.getElem_cons_succ, List.getElem_cons_zero, List.setIfInBounds_toArray, List.set_cons_zero, List.set_cons_succ]
              refine wpAnyH_take (i := 4) (oi := _) (v := ?_) rfl (by kernel_rfl) (by kernel_rfl) (by kernel_rfl) (fun _ _ _ h => h) (Or.inl ⟨by rfl, ?_⟩) (by assumption) ?_
              rotate_left
              · (intro w hSw; go_simp; first | done | (with_reducible rfl))
              simp only [Act.put, List.getElem_toArray, List.getElem_cons_succ, List.getElem_cons_zero, List.setIfInBounds_toArray, List.set_cons_zero, List.set_cons_succ]
              refine wpAnyH_take (i := 5) (oi := _) (v := ?_) rfl (by kernel_rfl) (by kernel_rfl) (by kernel_rfl) (fun _ _ _ h => h) (Or.inl ⟨by rfl, ?_⟩) (by assumption) ?_
              rotate_left
              · (intro w hSw; go_simp; first | done | (with_reducible rfl))
              simp only [Act.put, List.getElem_toArray, List.getElem_cons_succ, List.getElem_cons_zero, List.setIfInBounds_toArray, List.set_cons_zero, List.set_cons_succ]
              refine wpAnyH_take (i := 6) (oi := _) (v := ?_) rfl (by kernel_rfl) (by kernel_rfl) (by kernel_rfl) (fun _ _ _ h => h) (Or.inl ⟨by rfl, ?_⟩) (by assumption) ?_
              rotate_left
              · (intro w hSw; go_simp; first | done | (with_reducible rfl))
              simp only [Act.put, List.getElem_toArray, List.getElem_cons_succ, List.getElem_cons_zero, List.setIfInBounds_toArray, List.set_cons_zero, List.set_cons_succ]
              refine wpAnyH_take (i := 7) (oi := _) (v := ?_) rfl (by kernel_rfl) (by kernel_rfl) (by kernel_rfl) (fun _ _ _ h => h) (Or.inl ⟨by rfl, ?_⟩) (by assumption) ?_
              rotate_left
              · (intro w hSw; have h0 := ((hSw.atP hj) 0 _ (by omega) rfl).1; have h1 := ((hSw.atP hj) 1 _ (by omega) rfl).1; have h2 := ((hSw.atP hj) 2 _ (by omega) rfl).1; rw [HY1.out.1] at h2; rw [Nat.add_zero] at h0; clear hSw; go_simp; first | done | (with_reducible rfl))
              simp only [Act.put, List.getElem_toArray, List.getElem_cons_succ, List.getElem_cons_zero, List.setIfInBounds_toArray, List.set_cons_zero, List.set_cons_succ]
              refine wpAnyH_ready (rs := [3]) (by kernel_rfl) (by simp) ?_
              refine AllReadyH.cons rfl (fun K hK => ?_) AllReadyH.nil
              go_simp
              have c := left_at ga (j * 3) y1 _ (by have h := ((HH.out.atA hj).1 2 _ (by omega) rfl).1; rw [HY1.out.1] at h; exact h) HY1.out.2.1 HY1.out.2.2
              refine c.mono ?_
              rintro e wa ⟨rfl, hwa⟩
              rw [hwa]
              clear c hwa wa
              refine hK.out _ _ HH.out (fun hHeld => ?_)
              clear hK K
              refine wpAnyH_ready (rs := [8]) (by kernel_rfl) (by simp) ?_
              refine AllReadyH.cons rfl (fun K hK => ?_) AllReadyH.nil
              go_simp
              refine (rleft_c r (16 * u) y1 _ HY1.out.2.1 HY1.out.2.2).mono ?_
              rintro e wa ⟨rfl, g⟩
              have HH2 : Keep (PL w wa kb kr r u Y Y (.slice (some ⟨ga, 0, none⟩) L.length ca) (.slice (some ⟨gp, 0, none⟩) L.length cp) L L) := ⟨HH.out.grown g⟩
              clear g
              refine hK.out _ _ HH2.out (fun hHeld => ?_)
              clear hK K
              generalize y1 / 16 = qq at *
              refine wpAnyH_take (i := 9) (oi := _) (v := ?_) rfl (by kernel_rfl) (by kernel_rfl) (by kernel_rfl) (fun _ _ _ h => h) (Or.inl ⟨by rfl, ?_⟩) (by assumption) ?_
              rotate_left
              · (intro w hSw; go_simp; first | done | (with_reducible rfl))
              simp only [Act.put, List.getElem_toArray, List.getElem_cons_succ, List.getElem_cons_zero, List.setIfInBounds_toArray, List.set_cons_zero, List.set_cons_succ]
              refine wpAnyH_done (by kernel_rfl) ?_ _
              go_wp2_with fail
              refine ⟨⟨j + 1, by omega, rfl, HH2⟩, ?_⟩
              simp only [intOf]; omega
            · have hja : ¬ (j : Int) < (L.length : Int) := by omega
              go_wp2_with fail
              go_ret
              exact ⟨rfl, HM.out.b.g⟩
  · refine (new_no x x2 _ hk).mono ?_
    rintro e w2 ⟨rfl, g2⟩
    have HG2 : Keep (w.grownBy (w2.alloc (.cells #[.int .i64 0, .int .i64 0, .int .i64 0] 24)) none) := ⟨gr_al (HG.out.trans g2)⟩
    clear g2 HG
    go_wp2_with fail
    generalize w2.alloc _ = w3 at *
    refine (rnew_no x x2 _ hk).mono ?_
    rintro e w4 ⟨rfl, g4⟩
    have HG4 : Keep (w.grownBy (w4.alloc (.cells #[.int .i64 0, .int .i64 0, .int .i64 0] 41)) none) := ⟨gr_al (HG2.out.trans g4)⟩
    clear g4 HG2
    go_wp2_with fail
    go_ret
    exact ⟨rfl, HG4.out⟩
end Go.Proofs.Ytgdifgflofjeiaa
