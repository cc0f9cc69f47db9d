/- RingScript: the walk. -/
import Derived.Test.YtflglflggeaokaaG7
namespace Go.Proofs.Ytflglflggeaokaa
open Go Go.RowKit Go.Shelf

theorem wpAnyH_weaken {P : Program} {md : Region.Mode} {ops : Array Oper} {Q : Exit → Act → World → Prop} {S S' : World → Prop} (hS : ∀ w, S' w → S w) : ∀ (fuel : Nat) (listed : Array Bool) (a : Act) (w : World), wpAnyH P md ops Q S' fuel listed a w → wpAnyH P md ops Q S fuel listed a w
  | 0, _, _, _, h => h
  | fuel + 1, _, _, _, h => ⟨h.1, fun i hi => wpOp_mono (fun a' w' h' => ⟨hS w' h'.1, wpAnyH_weaken hS fuel _ a' w' h'.2⟩) (h.2 i hi)⟩

/-- a script as it reads -/
structure Scr (w : World) (a : Option Addr) (n : Nat) (xs : List (Int × Int × Int)) : Prop where
  len : xs.length = n
  at_ : 0 < n → ∃ B o, a = some ⟨B, o, none⟩ ∧ ∀ j k t m, xs[j]? = some (k, t, m) → w.cell? ⟨B, o + j * 3, none⟩ = some (iv k) ∧ w.cell? ⟨B, o + j * 3 + 1, none⟩ = some (iv t) ∧ w.cell? ⟨B, o + j * 3 + 2, none⟩ = some (iv m)
theorem cell_kept {w w' : World} {x : Addr} {v : Value} (hg : w.grownBy w' none) (h : w.cell? x = some v) : w'.cell? x = some v := by
  have hb : x.block < w.heap.size := World.block_lt_of_cell? w x h
  rw [← h]
  simp only [World.cell?]
  rw [hg.block x.block hb (by simp)]
theorem own_cell {lo : Nat} {W : World} {v : Value} {n : Nat} {xs : List Value} (h : W.ownsRow lo 22 1 v n xs) {k : Nat} (hk : k < n) : ∃ g c t, v = .slice (some ⟨g, 0, none⟩) n c ∧ xs[k]? = some t ∧ W.cell? ⟨g, k, none⟩ = some t := by
  obtain ⟨h1, h2⟩ := h
  rcases h2 with ⟨_, h0⟩ | ⟨g, cap, cur, rfl, hb, hheap, h3, h4, h5, h6⟩
  · omega
  · obtain ⟨t, ht⟩ : ∃ t, xs[k]? = some t := ⟨_, List.getElem?_eq_getElem (by omega)⟩
    refine ⟨g, cap, t, rfl, ht, ?_⟩
    rw [← h6, List.getElem?_take, if_pos (by omega)] at ht
    simp only [World.cell?, hheap]
    simpa using ht
theorem begin_gs (w W : World) (pb n : Nat) (sz : Int) (h : GS w W pb n) :
    Calls Try.prog 23 #[.pointer (some ⟨pb, 0, none⟩), .int .i64 0, .int .i64 sz] W fun e W' => e = .returned (.bool true) ∧ GS w W' pb n := by
  obtain ⟨g, rb0, v0, db0, a0, sz0, L0, rb1, v1, db1, a1, sz1, L1, tv, wv, ts, ws, X, s⟩ := h
  have hlo : w.heap.size ≤ W.heap.size := g.size
  have hp : Has W pb [.pointer (some ⟨rb0, 0, none⟩), .pointer (some ⟨rb1, 0, none⟩), .pointer (some ⟨db0, 0, none⟩), .pointer (some ⟨db1, 0, none⟩), tv, wv] 57 := s.p (playO pb _) (by simp)
  by_cases hN : 1 ≤ sz ∧ sz ≤ 4096
  · have hc := begin_yes pb _ 0 sz.toNat W (by decide) (by omega) (by omega) hp rfl
    rw [show ((sz.toNat : Nat) : Int) = sz by omega] at hc
    refine hc.mono ?_
    rintro e W' ⟨rfl, rb, db, w2, q1, q2, q3, q4, rfl⟩
    obtain ⟨s2, f2⟩ := s.begun (k := 0) hlo q1 q2 q3 q4
    refine ⟨rfl, grown_fr g f2, rb, .slice none 0 0, db, none, sz.toNat, [], rb1, v1, db1, a1, sz1, L1, tv, wv, ts, ws, X, s2.sub ?_⟩
    exact .cons_cons _ (.cons_cons _ (.cons_cons _ (.cons _ (.cons_cons _ .slnil))))
  · refine (begin_no pb 0 sz W hN).mono ?_
    rintro e W' ⟨rfl, rfl⟩
    exact ⟨rfl, g, rb0, v0, db0, a0, sz0, L0, rb1, v1, db1, a1, sz1, L1, tv, wv, ts, ws, X, s⟩
/-- the first ring -/
theorem begin_one (w W : World) (hg : w.grownBy W none) (pb : Nat) (hpb : w.heap.size ≤ pb) (hp : Has W pb [.pointer none, .pointer none, .pointer none, .pointer none, .slice none 0 0, .slice none 0 0] 57) :
    Calls Try.prog 23 #[.pointer (some ⟨pb, 0, none⟩), .int .i64 0, .int .i64 3] W fun e W' => e = .returned (.bool true) ∧ w.grownBy W' none ∧ ∃ rb db, Sep w.heap.size W' [bookO w.heap.size (.slice none 0 0) (.slice none 0 0) 0 0 [] [] [], playO pb [.pointer (some ⟨rb, 0, none⟩), .pointer none, .pointer (some ⟨db, 0, none⟩), .pointer none, .slice none 0 0, .slice none 0 0], pairO rb (.slice none 0 0) db none 3 [] []] := by
  have s : Sep w.heap.size W [bookO w.heap.size (.slice none 0 0) (.slice none 0 0) 0 0 [] [] [], playO pb [.pointer none, .pointer none, .pointer none, .pointer none, .slice none 0 0, .slice none 0 0]] := by
    refine ⟨fun o ho => ?_, fun o ho i hi => ?_, ?_⟩
    · simp at ho
      rcases ho with rfl | rfl
      · exact ⟨World.ownsRow_nil _ _ _ _, World.ownsRow_nil _ _ _ _, fun i e => (by cases e), fun p hp => (by cases hp), fun p hp => (by cases hp), fun k t u ht => (by simp at ht)⟩
      · exact hp
    · simp at ho
      rcases ho with rfl | rfl
      · rcases hi with e | e | ⟨p, hp, _⟩
        · cases e
        · cases e
        · cases hp
      · have e : i = pb := hi
        omega
    · refine List.pairwise_cons.2 ⟨fun o ho i hi e => ?_, List.pairwise_cons.2 ⟨fun o ho => (by cases ho), List.Pairwise.nil⟩⟩
      rcases hi with e | e | ⟨p, hp, _⟩
      · cases e
      · cases e
      · cases hp
  refine (begin_yes pb _ 0 3 W (by decide) (by decide) (by decide) hp rfl).mono ?_
  rintro e W' ⟨rfl, rb, db, w2, q1, q2, q3, q4, rfl⟩
  obtain ⟨s2, f2⟩ := s.begun (k := 0) hg.size q1 q2 q3 q4
  exact ⟨rfl, grown_fr hg f2, rb, db, s2⟩
/-- the second -/
theorem begin_two (w W : World) (hg : w.grownBy W none) (pb rb db : Nat) (s : Sep w.heap.size W [bookO w.heap.size (.slice none 0 0) (.slice none 0 0) 0 0 [] [] [], playO pb [.pointer (some ⟨rb, 0, none⟩), .pointer none, .pointer (some ⟨db, 0, none⟩), .pointer none, .slice none 0 0, .slice none 0 0], pairO rb (.slice none 0 0) db none 3 [] []]) :
    Calls Try.prog 23 #[.pointer (some ⟨pb, 0, none⟩), .int .i64 1, .int .i64 1] W fun e W' => e = .returned (.bool true) ∧ GS w W' pb 0 := by
  have hp : Has W pb [.pointer (some ⟨rb, 0, none⟩), .pointer none, .pointer (some ⟨db, 0, none⟩), .pointer none, .slice none 0 0, .slice none 0 0] 57 := s.p (playO pb _) (by simp)
  refine (begin_yes pb _ 1 1 W (by decide) (by decide) (by decide) hp rfl).mono ?_
  rintro e W' ⟨rfl, rb1, db1, w2, q1, q2, q3, q4, rfl⟩
  obtain ⟨s2, f2⟩ := s.begun (k := 1) hg.size q1 q2 q3 q4
  exact ⟨rfl, grown_fr hg f2, rb, .slice none 0 0, db, none, 3, [], rb1, .slice none 0 0, db1, none, 1, [], _, _, _, _, _, s2.perm (List.Perm.cons _ (List.Perm.cons _ (List.Perm.swap _ _ _)))⟩

set_option maxRecDepth 100000 in
set_option maxHeartbeats 8000000 in
theorem script_walk (size : Int) (a : Option Addr) (n c : Nat) (xs : List (Int × Int × Int)) (w : World) (hx : Scr w a n xs) (hn : n * 24 ≤ 140737488355328) :
    Calls Try.prog 7 #[.int .i64 size, .slice a n c] w fun e w' => e = .returned (.bool true) ∧ w.grownBy w' none := by
  have HX : Keep (Scr w a n xs) := ⟨hx⟩
  clear hx
  go_enter Try.func7, Try.ntmps7
  go_wp2_with ((go_at_call 8; refine (alive_c _).mono ?_; rintro e w1 ⟨rfl, g1⟩))
  have HG1 : Keep (w.grownBy w1 none) := ⟨g1⟩
  clear g1
  go_wp2_with fail
  have HG2 : Keep (w.grownBy (w1.alloc (.cells #[.pointer none, .pointer none, .pointer none, .pointer none, .slice none 0 0, .slice none 0 0] 57)) none ∧ w.heap.size ≤ w1.heap.size ∧ Has (w1.alloc (.cells #[.pointer none, .pointer none, .pointer none, .pointer none, .slice none 0 0, .slice none 0 0] 57)) w1.heap.size [.pointer none, .pointer none, .pointer none, .pointer none, .slice none 0 0, .slice none 0 0] 57) := ⟨HG1.out.trans (World.grownBy_alloc _ _ _), HG1.out.size, Has.newA w1 _ 57⟩
  obtain ⟨w2, hw2⟩ : ∃ w2, w1.alloc (.cells #[.pointer none, .pointer none, .pointer none, .pointer none, .slice none 0 0, .slice none 0 0] 57) = w2 := ⟨_, rfl⟩
  obtain ⟨pb, hpb⟩ : ∃ pb, w1.heap.size = pb := ⟨_, rfl⟩
  rw [hw2] at HG2 ⊢
  rw [hpb] at HG2
  simp only [hpb]
  clear hw2 hpb HG1
  refine (begin_one w w2 HG2.out.1 pb HG2.out.2.1 HG2.out.2.2).mono ?_
  rintro e w3 ⟨rfl, g3, rb, db, s3⟩
  have H3 : Keep (w.grownBy w3 none ∧ Sep w.heap.size w3 [bookO w.heap.size (.slice none 0 0) (.slice none 0 0) 0 0 [] [] [], playO pb [.pointer (some ⟨rb, 0, none⟩), .pointer none, .pointer (some ⟨db, 0, none⟩), .pointer none, .slice none 0 0, .slice none 0 0], pairO rb (.slice none 0 0) db none 3 [] []]) := ⟨g3, s3⟩
  clear g3 s3 HG2
  go_wp2_with fail
  refine (begin_two w w3 H3.out.1 pb rb db H3.out.2).mono ?_
  rintro e w4 ⟨rfl, g4⟩
  have H4 : Keep (GS w w4 pb 0) := ⟨g4⟩
  clear g4 H3
  go_wp2_with fail
  refine (begin_gs w w4 pb 0 size H4.out).mono ?_
  rintro e w5 ⟨rfl, g5⟩
  have H5 : Keep (GS w w5 pb 0) := ⟨g5⟩
  clear g5 H4
  go_wp2_with fail
  go_loopw [6] (fun s6 w' => ∃ i : Nat, i ≤ n ∧ s6 = .int .i64 i ∧ Keep (∃ m, m ≤ i ∧ GS w w' pb m)) (fun s6 _ => (n - (intOf s6).toNat))
  case atStart => exact ⟨0, Nat.zero_le _, rfl, ⟨0, Nat.le_refl _, H5.out⟩⟩
  case round =>
    obtain ⟨i, hi, rfl, HI⟩ := hrel
    clear H5
    by_cases hlt : i < n
    · have hlt2 : (i : Int) < n := by omega
      obtain ⟨B, o, hBo, hc⟩ := HX.out.at_ (by omega)
      subst hBo
      obtain ⟨⟨kd, At, N⟩, hel⟩ : ∃ x, xs[i]? = some x := ⟨_, List.getElem?_eq_getElem (by rw [HX.out.len]; omega)⟩
      have hcc := hc i kd At N hel
      have HCX : Keep (∀ W : World, w.grownBy W none → W.cell? ⟨B, o + i * 3, none⟩ = some (iv kd) ∧ W.cell? ⟨B, o + i * 3 + 1, none⟩ = some (iv At) ∧ W.cell? ⟨B, o + i * 3 + 2, none⟩ = some (iv N)) := ⟨fun W hg => ⟨cell_kept hg hcc.1, cell_kept hg hcc.2.1, cell_kept hg hcc.2.2⟩⟩
      have hwi : IntKind.i64.wrap ((i : Int) + 1) = ((i + 1 : Nat) : Int) := by rw [wi _ (by omega) (by omega)]; omega
      clear hc hcc hel
      go_wp2_with fail
      obtain ⟨m, hm, hGS⟩ := HI.out
      have HGS : Keep (GS w wr.drew pb m ∧ m ≤ i) := ⟨hGS.grown (gr_drewN wr 1 none), hm⟩
      clear HI hGS hm
      refine wp_region_held_drew (S := fun w' => w.grownBy w' none) (by kernel_rfl) HGS.out.1.1 (fun hHeld => ?_)
      refine wpAnyH_take (i := 0) (oi := _) (v := ?_) rfl (by kernel_rfl) (by kernel_rfl) (by kernel_rfl) (fun _ _ _ h => h) (Or.inl ⟨by rfl, ?_⟩) (by assumption) ?_
      rotate_left
      · (intro w hSw; go_simp; first | done | (with_reducible rfl))
      simp only [Act.put, List.getElem_toArray, List.getElem_cons_zero, List.setIfInBounds_toArray, List.set_cons_zero, List.set_cons_succ]
      refine wpAnyH_take (i := 1) (oi := _) (v := ?_) rfl (by kernel_rfl) (by kernel_rfl) (by kernel_rfl) (fun _ _ _ h => h) (Or.inl ⟨by rfl, ?_⟩) (by assumption) ?_
      rotate_left
      · (intro w hSw; go_simp; first | done | (with_reducible rfl))
      simp only [Act.put, List.getElem_toArray, List.getElem_cons_succ, List.getElem_cons_zero, List.setIfInBounds_toArray, List.set_cons_zero, List.set_cons_succ]
      refine wpAnyH_take (i := 2) (oi := _) (v := ?_) rfl (by kernel_rfl) (by kernel_rfl) (by kernel_rfl) (fun _ _ _ h => h) (Or.inl ⟨by rfl, ?_⟩) (by assumption) ?_
      rotate_left
      · (intro w hSw; go_simp; first | done | (with_reducible rfl))
      simp only [Act.put, List.getElem_toArray, List.getElem_cons_succ, List.getElem_cons_zero, List.setIfInBounds_toArray, List.set_cons_zero, List.set_cons_succ]
      refine wpAnyH_take (i := 3) (oi := _) (v := ?_) rfl (by kernel_rfl) (by kernel_rfl) (by kernel_rfl) (fun _ _ _ h => h) (Or.inl ⟨by rfl, ?_⟩) (by assumption) ?_
      rotate_left
      · (intro w hSw; go_simp; first | done | (with_reducible rfl))
      simp only [Act.put, List.getElem_toArray, List.getElem_cons_succ, List.getElem_cons_zero, List.setIfInBounds_toArray, List.set_cons_zero, List.set_cons_succ]
      refine wpAnyH_take (i := 4) (oi := _) (v := ?_) rfl (by kernel_rfl) (by kernel_rfl) (by kernel_rfl) (fun _ _ _ h => h) (Or.inl ⟨by rfl, ?_⟩) (by assumption) ?_
      rotate_left
      · (intro w hSw; obtain ⟨x0, x1, x2⟩ := HCX.out w hSw; go_simp; first | done | (with_reducible rfl))
      simp only [Act.put, List.getElem_toArray, List.getElem_cons_succ, List.getElem_cons_zero, List.setIfInBounds_toArray, List.set_cons_zero, List.set_cons_succ]
      refine wpAnyH_ready (rs := [5]) (by kernel_rfl) (by simp) ?_
      refine AllReadyH.cons rfl (fun K hK => ?_) AllReadyH.nil
      go_simp
      go_wp2_with (go_at_call 24; refine (step_c w wr.drew pb m kd At N HGS.out.1 (by have := HGS.out.2; omega)).mono ?_; rintro e wa ⟨rfl, m2, hm2, hG2⟩)
      refine hK.out _ _ hG2.1 (fun hHeld => ?_)
      clear hK K
      have HGA : Keep (GS w wa pb m2 ∧ m2 ≤ i + 1) := ⟨hG2, by have := HGS.out.2; omega⟩
      clear hG2 hm2 HGS hHeld HCX
      refine wpAnyH_weaken (S' := fun w' => wa.grownBy w' none) (fun w' h => HGA.out.1.1.trans h) _ _ _ _ ?_
      have hHeld : wa.grownBy wa none := World.grownBy.refl _ _
      obtain ⟨_, rb0, v0, db0, a0, sz0, L0, rb1, v1, db1, a1, sz1, L1, tv, wv, ts, ws, X, s⟩ := HGA.out.1
      have HC : Keep (∀ W : World, wa.grownBy W none → W.cell? ⟨pb, 0, none⟩ = some (.pointer (some ⟨rb0, 0, none⟩)) ∧ W.cell? ⟨pb, 1, none⟩ = some (.pointer (some ⟨rb1, 0, none⟩)) ∧ W.cell? ⟨pb, 2, none⟩ = some (.pointer (some ⟨db0, 0, none⟩)) ∧ W.cell? ⟨pb, 3, none⟩ = some (.pointer (some ⟨db1, 0, none⟩))) := by
        have hp : Has wa pb [.pointer (some ⟨rb0, 0, none⟩), .pointer (some ⟨rb1, 0, none⟩), .pointer (some ⟨db0, 0, none⟩), .pointer (some ⟨db1, 0, none⟩), tv, wv] 57 := s.p (playO pb _) (by simp)
        exact ⟨fun W hg => ⟨cell_kept hg (hp.cellv 0 _ rfl), cell_kept hg (hp.cellv 1 _ rfl), cell_kept hg (hp.cellv 2 _ rfl), cell_kept hg (hp.cellv 3 _ rfl)⟩⟩
      have HW0 : Keep (∀ W : World, wa.grownBy W none → Calls Try.prog 25 #[.pointer (some ⟨rb0, 0, none⟩), .pointer (some ⟨db0, 0, none⟩)] W fun e w' => e = .returned (.bool true) ∧ W.grownBy w' none) := by
        obtain ⟨q1, ⟨c0, q2⟩, _⟩ := s.p (pairO rb0 v0 db0 a0 sz0 L0 L0) (by simp)
        exact ⟨fun W hg => whole_c rb0 db0 v0 sz0 L0 a0 c0 W (q1.kept hg) (q2.kept hg)⟩
      have HW1 : Keep (∀ W : World, wa.grownBy W none → Calls Try.prog 25 #[.pointer (some ⟨rb1, 0, none⟩), .pointer (some ⟨db1, 0, none⟩)] W fun e w' => e = .returned (.bool true) ∧ W.grownBy w' none) := by
        obtain ⟨q1, ⟨c0, q2⟩, _⟩ := s.p (pairO rb1 v1 db1 a1 sz1 L1 L1) (by simp)
        exact ⟨fun W hg => whole_c rb1 db1 v1 sz1 L1 a1 c0 W (q1.kept hg) (q2.kept hg)⟩
      clear s
      refine wpAnyH_take (i := 6) (oi := _) (v := ?_) rfl (by kernel_rfl) (by kernel_rfl) (by kernel_rfl) (fun _ _ _ h => h) (Or.inl ⟨by rfl, ?_⟩) (by assumption) ?_
      rotate_left
      · (intro w hSw; go_simp; first | done | (with_reducible rfl))
      simp only [Act.put, List.getElem_toArray, List.getElem_cons_succ, List.getElem_cons_zero, List.setIfInBounds_toArray, List.set_cons_zero, List.set_cons_succ]
      refine wpAnyH_take (i := 7) (oi := _) (v := ?_) rfl (by kernel_rfl) (by kernel_rfl) (by kernel_rfl) (fun _ _ _ h => h) (Or.inl ⟨by rfl, ?_⟩) (by assumption) ?_
      rotate_left
      · (intro w hSw; go_simp; first | done | (with_reducible rfl))
      simp only [Act.put, List.getElem_toArray, List.getElem_cons_succ, List.getElem_cons_zero, List.setIfInBounds_toArray, List.set_cons_zero, List.set_cons_succ]
      refine wpAnyH_take (i := 8) (oi := _) (v := ?_) rfl (by kernel_rfl) (by kernel_rfl) (by kernel_rfl) (fun _ _ _ h => h) (Or.inl ⟨by rfl, ?_⟩) (by assumption) ?_
      rotate_left
      · (intro w hSw; go_simp; first | done | (with_reducible rfl))
      simp only [Act.put, List.getElem_toArray, List.getElem_cons_succ, List.getElem_cons_zero, List.setIfInBounds_toArray, List.set_cons_zero, List.set_cons_succ]
      refine wpAnyH_take (i := 9) (oi := _) (v := ?_) rfl (by kernel_rfl) (by kernel_rfl) (by kernel_rfl) (fun _ _ _ h => h) (Or.inl ⟨by rfl, ?_⟩) (by assumption) ?_
      rotate_left
      · (intro w hSw; go_simp; first | done | (with_reducible rfl))
      simp only [Act.put, List.getElem_toArray, List.getElem_cons_succ, List.getElem_cons_zero, List.setIfInBounds_toArray, List.set_cons_zero, List.set_cons_succ]
      refine wpAnyH_take (i := 10) (oi := _) (v := ?_) rfl (by kernel_rfl) (by kernel_rfl) (by kernel_rfl) (fun _ _ _ h => h) (Or.inl ⟨by rfl, ?_⟩) (by assumption) ?_
      rotate_left
      · (intro w hSw; go_simp; first | done | (with_reducible rfl))
      simp only [Act.put, List.getElem_toArray, List.getElem_cons_succ, List.getElem_cons_zero, List.setIfInBounds_toArray, List.set_cons_zero, List.set_cons_succ]
      refine wpAnyH_take (i := 11) (oi := _) (v := ?_) rfl (by kernel_rfl) (by kernel_rfl) (by kernel_rfl) (fun _ _ _ h => h) (Or.inl ⟨by rfl, ?_⟩) (by assumption) ?_
      rotate_left
      · (intro w hSw; go_simp; first | done | (with_reducible rfl))
      simp only [Act.put, List.getElem_toArray, List.getElem_cons_succ, List.getElem_cons_zero, List.setIfInBounds_toArray, List.set_cons_zero, List.set_cons_succ]
      refine wpAnyH_take (i := 12) (oi := _) (v := ?_) rfl (by kernel_rfl) (by kernel_rfl) (by kernel_rfl) (fun _ _ _ h => h) (Or.inl ⟨by rfl, ?_⟩) (by assumption) ?_
      rotate_left
      · (intro w hSw; obtain ⟨x0, x1, x2, x3⟩ := HC.out w hSw; go_simp; first | done | (with_reducible rfl))
      simp only [Act.put, List.getElem_toArray, List.getElem_cons_succ, List.getElem_cons_zero, List.setIfInBounds_toArray, List.set_cons_zero, List.set_cons_succ]
      refine wpAnyH_take (i := 13) (oi := _) (v := ?_) rfl (by kernel_rfl) (by kernel_rfl) (by kernel_rfl) (fun _ _ _ h => h) (Or.inl ⟨by rfl, ?_⟩) (by assumption) ?_
      rotate_left
      · (intro w hSw; go_simp; first | done | (with_reducible rfl))
      simp only [Act.put, List.getElem_toArray, List.getElem_cons_succ, List.getElem_cons_zero, List.setIfInBounds_toArray, List.set_cons_zero, List.set_cons_succ]
      refine wpAnyH_take (i := 14) (oi := _) (v := ?_) rfl (by kernel_rfl) (by kernel_rfl) (by kernel_rfl) (fun _ _ _ h => h) (Or.inl ⟨by rfl, ?_⟩) (by assumption) ?_
      rotate_left
      · (intro w hSw; go_simp; first | done | (with_reducible rfl))
      simp only [Act.put, List.getElem_toArray, List.getElem_cons_succ, List.getElem_cons_zero, List.setIfInBounds_toArray, List.set_cons_zero, List.set_cons_succ]
      refine wpAnyH_take (i := 15) (oi := _) (v := ?_) rfl (by kernel_rfl) (by kernel_rfl) (by kernel_rfl) (fun _ _ _ h => h) (Or.inl ⟨by rfl, ?_⟩) (by assumption) ?_
      rotate_left
      · (intro w hSw; go_simp; first | done | (with_reducible rfl))
      simp only [Act.put, List.getElem_toArray, List.getElem_cons_succ, List.getElem_cons_zero, List.setIfInBounds_toArray, List.set_cons_zero, List.set_cons_succ]
      refine wpAnyH_take (i := 16) (oi := _) (v := ?_) rfl (by kernel_rfl) (by kernel_rfl) (by kernel_rfl) (fun _ _ _ h => h) (Or.inl ⟨by rfl, ?_⟩) (by assumption) ?_
      rotate_left
      · (intro w hSw; go_simp; first | done | (with_reducible rfl))
      simp only [Act.put, List.getElem_toArray, List.getElem_cons_succ, List.getElem_cons_zero, List.setIfInBounds_toArray, List.set_cons_zero, List.set_cons_succ]
      refine wpAnyH_take (i := 17) (oi := _) (v := ?_) rfl (by kernel_rfl) (by kernel_rfl) (by kernel_rfl) (fun _ _ _ h => h) (Or.inl ⟨by rfl, ?_⟩) (by assumption) ?_
      rotate_left
      · (intro w hSw; obtain ⟨x0, x1, x2, x3⟩ := HC.out w hSw; go_simp; first | done | (with_reducible rfl))
      simp only [Act.put, List.getElem_toArray, List.getElem_cons_succ, List.getElem_cons_zero, List.setIfInBounds_toArray, List.set_cons_zero, List.set_cons_succ]
      refine wpAnyH_ready (rs := [18]) (by kernel_rfl) (by simp) ?_
      refine AllReadyH.cons rfl (fun K hK => ?_) AllReadyH.nil
      go_simp
      go_wp2_with (go_at_call 25; refine (HW0.out _ hHeld).mono ?_; rintro e wb ⟨rfl, hgb⟩)
      refine hK.out _ _ (hHeld.trans hgb) (fun hHeld => ?_)
      clear hK K
      clear hgb
      refine wpAnyH_take (i := 19) (oi := _) (v := ?_) rfl (by kernel_rfl) (by kernel_rfl) (by kernel_rfl) (fun _ _ _ h => h) (Or.inl ⟨by rfl, ?_⟩) (by assumption) ?_
      rotate_left
      · (intro w hSw; go_simp; first | done | (with_reducible rfl))
      simp only [Act.put, List.getElem_toArray, List.getElem_cons_succ, List.getElem_cons_zero, List.setIfInBounds_toArray, List.set_cons_zero, List.set_cons_succ]
      refine wpAnyH_take (i := 20) (oi := _) (v := ?_) rfl (by kernel_rfl) (by kernel_rfl) (by kernel_rfl) (fun _ _ _ h => h) (Or.inl ⟨by rfl, ?_⟩) (by assumption) ?_
      rotate_left
      · (intro w hSw; go_simp; first | done | (with_reducible rfl))
      simp only [Act.put, List.getElem_toArray, List.getElem_cons_succ, List.getElem_cons_zero, List.setIfInBounds_toArray, List.set_cons_zero, List.set_cons_succ]
      refine wpAnyH_take (i := 21) (oi := _) (v := ?_) rfl (by kernel_rfl) (by kernel_rfl) (by kernel_rfl) (fun _ _ _ h => h) (Or.inl ⟨by rfl, ?_⟩) (by assumption) ?_
      rotate_left
      · (intro w hSw; go_simp; first | done | (with_reducible rfl))
      simp only [Act.put, List.getElem_toArray, List.getElem_cons_succ, List.getElem_cons_zero, List.setIfInBounds_toArray, List.set_cons_zero, List.set_cons_succ]
      refine wpAnyH_take (i := 22) (oi := _) (v := ?_) rfl (by kernel_rfl) (by kernel_rfl) (by kernel_rfl) (fun _ _ _ h => h) (Or.inl ⟨by rfl, ?_⟩) (by assumption) ?_
      rotate_left
      · (intro w hSw; go_simp; first | done | (with_reducible rfl))
      simp only [Act.put, List.getElem_toArray, List.getElem_cons_succ, List.getElem_cons_zero, List.setIfInBounds_toArray, List.set_cons_zero, List.set_cons_succ]
      refine wpAnyH_take (i := 23) (oi := _) (v := ?_) rfl (by kernel_rfl) (by kernel_rfl) (by kernel_rfl) (fun _ _ _ h => h) (Or.inl ⟨by rfl, ?_⟩) (by assumption) ?_
      rotate_left
      · (intro w hSw; go_simp; first | done | (with_reducible rfl))
      simp only [Act.put, List.getElem_toArray, List.getElem_cons_succ, List.getElem_cons_zero, List.setIfInBounds_toArray, List.set_cons_zero, List.set_cons_succ]
      refine wpAnyH_take (i := 24) (oi := _) (v := ?_) rfl (by kernel_rfl) (by kernel_rfl) (by kernel_rfl) (fun _ _ _ h => h) (Or.inl ⟨by rfl, ?_⟩) (by assumption) ?_
      rotate_left
      · (intro w hSw; go_simp; first | done | (with_reducible rfl))
      simp only [Act.put, List.getElem_toArray, List.getElem_cons_succ, List.getElem_cons_zero, List.setIfInBounds_toArray, List.set_cons_zero, List.set_cons_succ]
      refine wpAnyH_take (i := 25) (oi := _) (v := ?_) rfl (by kernel_rfl) (by kernel_rfl) (by kernel_rfl) (fun _ _ _ h => h) (Or.inl ⟨by rfl, ?_⟩) (by assumption) ?_
      rotate_left
      · (intro w hSw; go_simp; first | done | (with_reducible rfl))
      simp only [Act.put, List.getElem_toArray, List.getElem_cons_succ, List.getElem_cons_zero, List.setIfInBounds_toArray, List.set_cons_zero, List.set_cons_succ]
      refine wpAnyH_take (i := 26) (oi := _) (v := ?_) rfl (by kernel_rfl) (by kernel_rfl) (by kernel_rfl) (fun _ _ _ h => h) (Or.inl ⟨by rfl, ?_⟩) (by assumption) ?_
      rotate_left
      · (intro w hSw; obtain ⟨x0, x1, x2, x3⟩ := HC.out w hSw; go_simp; first | done | (with_reducible rfl))
      simp only [Act.put, List.getElem_toArray, List.getElem_cons_succ, List.getElem_cons_zero, List.setIfInBounds_toArray, List.set_cons_zero, List.set_cons_succ]
      refine wpAnyH_take (i := 27) (oi := _) (v := ?_) rfl (by kernel_rfl) (by kernel_rfl) (by kernel_rfl) (fun _ _ _ h => h) (Or.inl ⟨by rfl, ?_⟩) (by assumption) ?_
      rotate_left
      · (intro w hSw; go_simp; first | done | (with_reducible rfl))
      simp only [Act.put, List.getElem_toArray, List.getElem_cons_succ, List.getElem_cons_zero, List.setIfInBounds_toArray, List.set_cons_zero, List.set_cons_succ]
      refine wpAnyH_take (i := 28) (oi := _) (v := ?_) rfl (by kernel_rfl) (by kernel_rfl) (by kernel_rfl) (fun _ _ _ h => h) (Or.inl ⟨by rfl, ?_⟩) (by assumption) ?_
      rotate_left
      · (intro w hSw; go_simp; first | done | (with_reducible rfl))
      simp only [Act.put, List.getElem_toArray, List.getElem_cons_succ, List.getElem_cons_zero, List.setIfInBounds_toArray, List.set_cons_zero, List.set_cons_succ]
      refine wpAnyH_take (i := 29) (oi := _) (v := ?_) rfl (by kernel_rfl) (by kernel_rfl) (by kernel_rfl) (fun _ _ _ h => h) (Or.inl ⟨by rfl, ?_⟩) (by assumption) ?_
      rotate_left
      · (intro w hSw; go_simp; first | done | (with_reducible rfl))
      simp only [Act.put, List.getElem_toArray, List.getElem_cons_succ, List.getElem_cons_zero, List.setIfInBounds_toArray, List.set_cons_zero, List.set_cons_succ]
      refine wpAnyH_take (i := 30) (oi := _) (v := ?_) rfl (by kernel_rfl) (by kernel_rfl) (by kernel_rfl) (fun _ _ _ h => h) (Or.inl ⟨by rfl, ?_⟩) (by assumption) ?_
      rotate_left
      · (intro w hSw; go_simp; first | done | (with_reducible rfl))
      simp only [Act.put, List.getElem_toArray, List.getElem_cons_succ, List.getElem_cons_zero, List.setIfInBounds_toArray, List.set_cons_zero, List.set_cons_succ]
      refine wpAnyH_take (i := 31) (oi := _) (v := ?_) rfl (by kernel_rfl) (by kernel_rfl) (by kernel_rfl) (fun _ _ _ h => h) (Or.inl ⟨by rfl, ?_⟩) (by assumption) ?_
      rotate_left
      · (intro w hSw; obtain ⟨x0, x1, x2, x3⟩ := HC.out w hSw; go_simp; first | done | (with_reducible rfl))
      simp only [Act.put, List.getElem_toArray, List.getElem_cons_succ, List.getElem_cons_zero, List.setIfInBounds_toArray, List.set_cons_zero, List.set_cons_succ]
      refine wpAnyH_ready (rs := [32]) (by kernel_rfl) (by simp) ?_
      refine AllReadyH.cons rfl (fun K hK => ?_) AllReadyH.nil
      go_simp
      go_wp2_with (go_at_call 25; refine (HW1.out _ hHeld).mono ?_; rintro e wc ⟨rfl, hgc⟩)
      refine hK.out _ _ (hHeld.trans hgc) (fun hHeld => ?_)
      clear hK K
      clear hgc
      refine wpAnyH_take (i := 33) (oi := _) (v := ?_) rfl (by kernel_rfl) (by kernel_rfl) (by kernel_rfl) (fun _ _ _ h => h) (Or.inl ⟨by rfl, ?_⟩) (by assumption) ?_
      rotate_left
      · (intro w hSw; go_simp; first | done | (with_reducible rfl))
      simp only [Act.put, List.getElem_toArray, List.getElem_cons_succ, List.getElem_cons_zero, List.setIfInBounds_toArray, List.set_cons_zero, List.set_cons_succ]
      refine wpAnyH_take (i := 34) (oi := _) (v := ?_) rfl (by kernel_rfl) (by kernel_rfl) (by kernel_rfl) (fun _ _ _ h => h) (Or.inl ⟨by rfl, ?_⟩) (by assumption) ?_
      rotate_left
      · (intro w hSw; go_simp; first | done | (with_reducible rfl))
      simp only [Act.put, List.getElem_toArray, List.getElem_cons_succ, List.getElem_cons_zero, List.setIfInBounds_toArray, List.set_cons_zero, List.set_cons_succ]
      refine wpAnyH_done (by kernel_rfl) ?_ _
      have HE : Keep (∃ m, m ≤ i + 1 ∧ GS w wc pb m) := ⟨m2, HGA.out.2, HGA.out.1.grown hHeld⟩
      clear hHeld HC HW0 HW1 HGA
      go_wp2_with fail
      exact ⟨⟨i + 1, by omega, by simp, HE⟩, by simp only [intOf]; omega⟩
    · have hlt2 : ¬ ((i : Int) < n) := by omega
      obtain ⟨m, hm, gr, rb0, v0, db0, a0, sz0, L0, rb1, v1, db1, a1, sz1, L1, tv, wv, ts, ws, X, s⟩ := HI.out
      have hmn : m ≤ n := by omega
      have HP : Keep (Has wr pb [.pointer (some ⟨rb0, 0, none⟩), .pointer (some ⟨rb1, 0, none⟩), .pointer (some ⟨db0, 0, none⟩), .pointer (some ⟨db1, 0, none⟩), tv, wv] 57) := ⟨s.p (playO pb _) (by simp)⟩
      have HB : Keep ((bookO w.heap.size tv wv m m ts ws X).P wr ∧ w.grownBy wr none) := ⟨s.p (bookO w.heap.size tv wv m m ts ws X) (by simp), gr⟩
      clear s gr HI hm
      obtain ⟨ta, tc, htv⟩ := own_slice HB.out.1.1
      obtain ⟨wva, wvc, hwv⟩ := own_slice HB.out.1.2.1
      subst htv hwv
      go_wp2_with fail
      obtain ⟨wo, rfl⟩ : ∃ wo, wo = wr := ⟨_, rfl⟩
      have H0 : Keep (wo.grownBy wo none) := ⟨World.grownBy.refl _ _⟩
      go_loopw [7] (fun s7 w' => ∃ j : Nat, j ≤ m ∧ s7 = .int .i64 j ∧ Keep (wo.grownBy w' none)) (fun s7 _ => (m - (intOf s7).toNat))
      case atStart => exact ⟨0, Nat.zero_le _, rfl, H0⟩
      case round =>
        obtain ⟨j, hj, rfl, HJ⟩ := hrel
        clear H0
        have hP2 := HP.out.kept HJ.out (by simp)
        have hB2 := (bookO w.heap.size (.slice ta m tc) (.slice wva m wvc) m m ts ws X).st (fun _ => False) wo wr HB.out.1 (Fr.ofNone HJ.out) (fun _ _ e => e)
        have c4 : wr.cell? ⟨pb, 4, none⟩ = some (.slice ta m tc) := hP2.cellv 4 _ rfl
        have c5 : wr.cell? ⟨pb, 5, none⟩ = some (.slice wva m wvc) := hP2.cellv 5 _ rfl
        by_cases hjm : j < m
        · have hjm2 : (j : Int) < m := by omega
          obtain ⟨g1, tc1, t, e1, ht, ct⟩ := own_cell hB2.1 hjm
          obtain ⟨g2, tc2, u, e2, hu, cu⟩ := own_cell hB2.2.1 hjm
          injection e1 with e11 e12 e13
          injection e2 with e21 e22 e23
          subst e11 e21
          obtain ⟨ya, yn, yca, yb, ycb, ys, rfl, rfl, hyn, hint⟩ := hB2.2.2.2.2.2 j t u ht hu
          obtain ⟨i1, i2⟩ := hint wr hB2.2.2.2.1
          have HSM : Keep (∀ k, Calls Try.prog 15 #[.slice ya yn yca, .slice yb yn ycb] (wr.drewN k) fun e w' => e = .returned (.bool true) ∧ ∃ q, w' = (wr.drewN k).drewN q) := by
            refine ⟨fun k => (same_c ya yb yn yn yca ycb ys ys (wr.drewN k) (i1.drewN k) (i2.drewN k) (by omega) (by omega)).mono ?_⟩
            rintro e w' ⟨rfl, h⟩
            exact ⟨by simp, h⟩
          have hwj : IntKind.i64.wrap ((j : Int) + 1) = ((j + 1 : Nat) : Int) := by rw [wi _ (by omega) (by omega)]; omega
          clear hP2 hB2 ht hu hint i1 i2 e12 e13 e22 e23
          go_wp2_with fail
          go_quiet ((go_at_call 15; exact Calls.quiet_of (HSM.out _)))
          rename_i nq
          have HE : Keep (wo.grownBy (wr.drewN nq) none) := ⟨HJ.out.trans (gr_drewN _ _ _)⟩
          clear HSM
          go_wp2_with fail
          exact ⟨⟨j + 1, by omega, by simp, HE⟩, by simp only [intOf]; omega⟩
        · have hjm2 : ¬ ((j : Int) < m) := by omega
          clear hP2 hB2
          go_wp2_with fail
          go_ret
          exact ⟨rfl, HB.out.2.trans HJ.out⟩
end Go.Proofs.Ytflglflggeaokaa
