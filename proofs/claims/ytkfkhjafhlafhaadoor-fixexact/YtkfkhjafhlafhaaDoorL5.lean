/- FixExact -/
import Derived.Test.YtkfkhjafhlafhaaDoorL0
import Derived.Test.YtkfkhjafhlafhaaDoorG4
import Derived.Test.YtkfkhjafhlafhaaDoorG6
import Derived.Test.YtkfkhjafhlafhaaDoorG8
import Derived.Deep.RegionHeld
namespace Go.Proofs.YtkfkhjafhlafhaaDoor
open Go Go.RowKit

def lv (a b c i : Int) : Int := if i = 0 then a else if i = 1 then b else c
/-- the three numbers in their block -/
def Three (w : World) (k : Nat) (a b c : Int) : Prop := k < w.heap.size ∧ ∀ i : Int, 0 ≤ i → i < 3 → w.cell? ⟨k, i.toNat, none⟩ = some (.int .i64 (lv a b c i))
theorem Three.kept {w w' : World} {k : Nat} {a b c : Int} (h : Three w k a b c) (hg : w.grownBy w' none) : Three w' k a b c := by
  refine ⟨Nat.lt_of_lt_of_le h.1 hg.size, fun i h0 h1 => ?_⟩
  rw [← h.2 i h0 h1]
  have hb := hg.block k h.1 (by simp)
  simp only [World.cell?, hb]
theorem lv_in {a b c i : Int} (ha : In a) (hb : In b) (hc : In c) : In (lv a b c i) := by
  unfold lv; (repeat' split) <;> assumption

theorem three_alloc (w : World) (a b c : Int) : Three (w.alloc (.cells #[.int .i64 a, .int .i64 b, .int .i64 c] 35)) w.heap.size a b c := by
  have hb : (w.alloc (.cells #[.int .i64 a, .int .i64 b, .int .i64 c] 35)).heap[w.heap.size]? = some (.cells #[.int .i64 a, .int .i64 b, .int .i64 c] 35) := by
    show (w.heap.push _)[w.heap.size]? = _
    rw [Array.getElem?_push_size]
  refine ⟨by show w.heap.size < (w.heap.push _).size; rw [Array.size_push]; omega, fun i h0 h1 => ?_⟩
  have hi : i = 0 ∨ i = 1 ∨ i = 2 := by omega
  rcases hi with rfl | rfl | rfl
  · simp only [World.cell?, hb]; rfl
  · simp only [World.cell?, hb]; rfl
  · simp only [World.cell?, hb]; rfl

set_option maxRecDepth 100000 in
set_option maxHeartbeats 8000000 in
theorem exact_any (a b c : Int) (ha : In a) (hb : In b) (hc : In c) (w : World) (hk : Kc w) :
    Calls Tryd.prog 7 #[.int .i64 a, .int .i64 b, .int .i64 c] w fun e w' => e = .returned (.bool true) ∧ w.grownBy w' none := by
  have c0 := fixed_c w hk
  have HL : Keep (∀ i, In (lv a b c i)) := ⟨fun i => lv_in ha hb hc⟩
  clear ha hb hc hk
  go_enter Tryd.func7, Tryd.ntmps7
  go_wp2_with fail
  refine c0.mono ?_
  rintro e w1 ⟨rfl, hg⟩
  have HG1 := Keep.mk hg
  clear hg c0
  have HT := Keep.mk (three_alloc w1 a b c)
  have HG2 := Keep.mk (HG1.out.trans (gr_alloc w1 (.cells #[.int .i64 a, .int .i64 b, .int .i64 c] 35) none))
  go_wp2_with fail
  obtain ⟨k, hk⟩ : ∃ k, w1.heap.size = k := ⟨_, rfl⟩
  rw [hk] at HT
  go_loopw [8] (fun s8 w' => ∃ i : Int, 0 ≤ i ∧ i ≤ 3 ∧ s8 = .int .i64 i ∧ Keep (w.grownBy w' none ∧ Three w' k a b c)) (fun s8 _ => (3 - intOf s8).toNat)
  case atStart => exact ⟨0, by omega, by omega, rfl, ⟨HG2.out, HT.out⟩⟩
  case round =>
    clear HT HG1 HG2
    obtain ⟨i, i0, i1, rfl, HI⟩ := hrel
    by_cases ci : i < 3
    · obtain ⟨x, hx⟩ : ∃ x, lv a b c i = x := ⟨_, rfl⟩
      have hxI : In x := by rw [← hx]; exact HL.out i
      have hcx : ∀ W, wr.grownBy W none → W.cell? ⟨k, i.toNat, none⟩ = some (.int .i64 x) := fun W g => by
        rw [← hx]; exact (HI.out.2.kept g).2 i i0 ci
      have r1 := fun W => root_c x hxI W
      have r2 := fun W => rroot_c x hxI W
      obtain ⟨R, hR⟩ : ∃ z, rootZ x = z := ⟨_, rfl⟩
      rw [hR] at r1 r2
      have HX := Keep.mk (And.intro hx hxI)
      clear hR hx hxI
      go_wp2_with fail
      rw [hk]
      refine wp_region_held_drew (S := fun w' => wr.grownBy w' none) (by kernel_rfl) (gr_drewN _ 1 none) (fun hHeld => ?_)
      refine wpAnyH_take (i := 0) (oi := _) (v := ?_) rfl (by kernel_rfl) (by kernel_rfl) (by kernel_rfl) (fun _ _ _ h => h) (Or.inl ⟨by rfl, ?_⟩) (by assumption) ?_
      rotate_left
      · (intro w hSw; go_simp; first | done | (with_reducible rfl))
      simp only [Act.put, List.getElem_toArray, List.getElem_cons_zero, List.setIfInBounds_toArray, List.set_cons_zero, List.set_cons_succ]
      refine wpAnyH_take (i := 1) (oi := _) (v := ?_) rfl (by kernel_rfl) (by kernel_rfl) (by kernel_rfl) (fun _ _ _ h => h) (Or.inl ⟨by rfl, ?_⟩) (by assumption) ?_
      rotate_left
      · (intro w hSw; go_simp; first | done | (with_reducible rfl))
      simp only [Act.put, List.getElem_toArray, List.getElem_cons_succ, List.getElem_cons_zero, List.setIfInBounds_toArray, List.set_cons_zero, List.set_cons_succ]
      refine wpAnyH_take (i := 2) (oi := _) (v := ?_) rfl (by kernel_rfl) (by kernel_rfl) (by kernel_rfl) (fun _ _ _ h => h) (Or.inl ⟨by rfl, ?_⟩) (by assumption) ?_
      rotate_left
      · (intro w hSw; have hcw := hcx w hSw; go_simp; first | done | (with_reducible rfl))
      simp only [Act.put, List.getElem_toArray, List.getElem_cons_succ, List.getElem_cons_zero, List.setIfInBounds_toArray, List.set_cons_zero, List.set_cons_succ]
      refine wpAnyH_take (i := 4) (oi := _) (v := ?_) rfl (by kernel_rfl) (by kernel_rfl) (by kernel_rfl) (fun _ _ _ h => h) (Or.inl ⟨by rfl, ?_⟩) (by assumption) ?_
      rotate_left
      · (intro w hSw; go_simp; first | done | (with_reducible rfl))
      simp only [Act.put, List.getElem_toArray, List.getElem_cons_succ, List.getElem_cons_zero, List.setIfInBounds_toArray, List.set_cons_zero, List.set_cons_succ]
      refine wpAnyH_take (i := 5) (oi := _) (v := ?_) rfl (by kernel_rfl) (by kernel_rfl) (by kernel_rfl) (fun _ _ _ h => h) (Or.inl ⟨by rfl, ?_⟩) (by assumption) ?_
      rotate_left
      · (intro w hSw; go_simp; first | done | (with_reducible rfl))
      simp only [Act.put, List.getElem_toArray, List.getElem_cons_succ, List.getElem_cons_zero, List.setIfInBounds_toArray, List.set_cons_zero, List.set_cons_succ]
      refine wpAnyH_take (i := 6) (oi := _) (v := ?_) rfl (by kernel_rfl) (by kernel_rfl) (by kernel_rfl) (fun _ _ _ h => h) (Or.inl ⟨by rfl, ?_⟩) (by assumption) ?_
      rotate_left
      · (intro w hSw; have hcw := hcx w hSw; go_simp; first | done | (with_reducible rfl))
      simp only [Act.put, List.getElem_toArray, List.getElem_cons_succ, List.getElem_cons_zero, List.setIfInBounds_toArray, List.set_cons_zero, List.set_cons_succ]
      refine wpAnyH_ready (rs := [3]) (by kernel_rfl) (by simp) ?_
      refine AllReadyH.cons rfl (fun K hK => ?_) AllReadyH.nil
      go_simp
      go_wp2_with (go_at_call 12; refine (r1 _).mono ?_; rintro e w6 ⟨rfl, g6⟩; rw [g6])
      refine hK.out _ _ hHeld (fun _ => ?_)
      clear hK K
      refine wpAnyH_ready (rs := [7]) (by kernel_rfl) (by simp) ?_
      refine AllReadyH.cons rfl (fun K hK => ?_) AllReadyH.nil
      go_simp
      go_wp2_with (go_at_call 24; refine (r2 _).mono ?_; rintro e w7 ⟨rfl, g7⟩; rw [g7])
      refine hK.out _ _ hHeld (fun _ => ?_)
      clear hK K
      refine wpAnyH_take (i := 8) (oi := _) (v := ?_) rfl (by kernel_rfl) (by kernel_rfl) (by kernel_rfl) (fun _ _ _ h => h) (Or.inl ⟨by rfl, ?_⟩) (by assumption) ?_
      rotate_left
      · (intro w hSw; go_simp; first | done | (with_reducible rfl))
      simp only [Act.put, List.getElem_toArray, List.getElem_cons_succ, List.getElem_cons_zero, List.setIfInBounds_toArray, List.set_cons_zero, List.set_cons_succ]
      refine wpAnyH_done (by kernel_rfl) ?_ _
      have HI2 : Keep (w.grownBy wr.drew none ∧ Three wr.drew k a b c) := ⟨HI.out.1.trans hHeld, HI.out.2.kept hHeld⟩
      clear hcx r1 r2 hHeld HI
      clear g6 g7
      clear w6 w7
      go_wp2_with fail
      rename World => wo
      go_loopw [9] (fun s9 w' => ∃ j : Int, 0 ≤ j ∧ j ≤ 3 ∧ s9 = .int .i64 j ∧ Keep (w.grownBy w' none ∧ Three w' k a b c)) (fun s9 _ => (3 - intOf s9).toNat)
      case atStart => exact ⟨0, by omega, by omega, rfl, HI2⟩
      case round =>
        clear HI2
        obtain ⟨j, j0, j1, rfl, HI⟩ := hrel
        by_cases cj : j < 3
        · obtain ⟨y, hy⟩ : ∃ y, lv a b c j = y := ⟨_, rfl⟩
          have hyI : In y := by rw [← hy]; exact HL.out j
          have hx1 : wr.cell? ⟨k, i.toNat, none⟩ = some (.int .i64 x) := by rw [← HX.out.1]; exact HI.out.2.2 i i0 ci
          have hy1 : wr.cell? ⟨k, j.toNat, none⟩ = some (.int .i64 y) := by rw [← hy]; exact HI.out.2.2 j j0 cj
          have d1 := fun W => add_c x y HX.out.2 hyI W
          have d2 := fun W => radd_c x y HX.out.2 hyI W
          have d3 := fun W => mul_c x y HX.out.2 hyI W
          have d4 := fun W => rmul_c x y HX.out.2 hyI W
          have d5 := fun W => div_c x y HX.out.2 hyI W
          have d6 := fun W => rdiv_c x y HX.out.2 hyI W
          generalize addZ x y = s at *
          generalize mulZ x y = p at *
          generalize divZ x y = q at *
          clear hy hyI
          go_wp2_with fail
          refine (d1 _).mono ?_
          rintro e w' ⟨rfl, hw⟩; rw [hw]
          go_wp2_with fail
          refine (d2 _).mono ?_
          rintro e w' ⟨rfl, hw⟩; rw [hw]
          go_wp2_with fail
          refine (d3 _).mono ?_
          rintro e w' ⟨rfl, hw⟩; rw [hw]
          go_wp2_with fail
          refine (d4 _).mono ?_
          rintro e w' ⟨rfl, hw⟩; rw [hw]
          go_wp2_with fail
          refine (d5 _).mono ?_
          rintro e w4 ⟨rfl, hg⟩
          go_wp2_with fail
          refine (d6 _).mono ?_
          rintro e w' ⟨rfl, hw⟩; rw [hw]
          have HI3 := Keep.mk (And.intro (HI.out.1.trans hg) (HI.out.2.kept hg))
          clear HI hg d1 d2 d3 d4 d5 d6 hx1 hy1
          go_wp2_with fail
          rename World => wp
          go_loopw [12] (fun s12 w' => ∃ m : Int, 0 ≤ m ∧ m ≤ 3 ∧ s12 = .int .i64 m ∧ Keep (w.grownBy w' none ∧ Three w' k a b c)) (fun s12 _ => (3 - intOf s12).toNat)
          case atStart => exact ⟨0, by omega, by omega, rfl, HI3⟩
          case round =>
            clear HI3
            obtain ⟨m, m0, m1, rfl, HI⟩ := hrel
            by_cases cm : m < 3
            · obtain ⟨z, hz⟩ : ∃ z, lv a b c m = z := ⟨_, rfl⟩
              have hcz : ∀ W, wr.grownBy W none → W.cell? ⟨k, m.toNat, none⟩ = some (.int .i64 z) := fun W g => by
                rw [← hz]; exact (HI.out.2.kept g).2 m m0 cm
              have r1 := fun W => clamp_c x y z W
              have r2 := fun W => rclamp_c x y z W
              obtain ⟨R, hR⟩ : ∃ u, clampZ x y z = u := ⟨_, rfl⟩
              rw [hR] at r1 r2
              clear hR hz
              go_wp2_with fail
              refine wp_region_held_drew (S := fun w' => wr.grownBy w' none) (by kernel_rfl) (gr_drewN _ 1 none) (fun hHeld => ?_)
              refine wpAnyH_take (i := 0) (oi := _) (v := ?_) rfl (by kernel_rfl) (by kernel_rfl) (by kernel_rfl) (fun _ _ _ h => h) (Or.inl ⟨by rfl, ?_⟩) (by assumption) ?_
              rotate_left
              · (intro w hSw; go_simp; first | done | (with_reducible rfl))
              simp only [Act.put, List.getElem_toArray, List.getElem_cons_zero, List.setIfInBounds_toArray, List.set_cons_zero, List.set_cons_succ]
              refine wpAnyH_take (i := 1) (oi := _) (v := ?_) rfl (by kernel_rfl) (by kernel_rfl) (by kernel_rfl) (fun _ _ _ h => h) (Or.inl ⟨by rfl, ?_⟩) (by assumption) ?_
              rotate_left
              · (intro w hSw; go_simp; first | done | (with_reducible rfl))
              simp only [Act.put, List.getElem_toArray, List.getElem_cons_succ, List.getElem_cons_zero, List.setIfInBounds_toArray, List.set_cons_zero, List.set_cons_succ]
              refine wpAnyH_take (i := 2) (oi := _) (v := ?_) rfl (by kernel_rfl) (by kernel_rfl) (by kernel_rfl) (fun _ _ _ h => h) (Or.inl ⟨by rfl, ?_⟩) (by assumption) ?_
              rotate_left
              · (intro w hSw; go_simp; first | done | (with_reducible rfl))
              simp only [Act.put, List.getElem_toArray, List.getElem_cons_succ, List.getElem_cons_zero, List.setIfInBounds_toArray, List.set_cons_zero, List.set_cons_succ]
              refine wpAnyH_take (i := 3) (oi := _) (v := ?_) rfl (by kernel_rfl) (by kernel_rfl) (by kernel_rfl) (fun _ _ _ h => h) (Or.inl ⟨by rfl, ?_⟩) (by assumption) ?_
              rotate_left
              · (intro w hSw; go_simp; first | done | (with_reducible rfl))
              simp only [Act.put, List.getElem_toArray, List.getElem_cons_succ, List.getElem_cons_zero, List.setIfInBounds_toArray, List.set_cons_zero, List.set_cons_succ]
              refine wpAnyH_take (i := 4) (oi := _) (v := ?_) rfl (by kernel_rfl) (by kernel_rfl) (by kernel_rfl) (fun _ _ _ h => h) (Or.inl ⟨by rfl, ?_⟩) (by assumption) ?_
              rotate_left
              · (intro w hSw; have hcw := hcz w hSw; go_simp; first | done | (with_reducible rfl))
              simp only [Act.put, List.getElem_toArray, List.getElem_cons_succ, List.getElem_cons_zero, List.setIfInBounds_toArray, List.set_cons_zero, List.set_cons_succ]
              refine wpAnyH_take (i := 6) (oi := _) (v := ?_) rfl (by kernel_rfl) (by kernel_rfl) (by kernel_rfl) (fun _ _ _ h => h) (Or.inl ⟨by rfl, ?_⟩) (by assumption) ?_
              rotate_left
              · (intro w hSw; go_simp; first | done | (with_reducible rfl))
              simp only [Act.put, List.getElem_toArray, List.getElem_cons_succ, List.getElem_cons_zero, List.setIfInBounds_toArray, List.set_cons_zero, List.set_cons_succ]
              refine wpAnyH_take (i := 7) (oi := _) (v := ?_) rfl (by kernel_rfl) (by kernel_rfl) (by kernel_rfl) (fun _ _ _ h => h) (Or.inl ⟨by rfl, ?_⟩) (by assumption) ?_
              rotate_left
              · (intro w hSw; go_simp; first | done | (with_reducible rfl))
              simp only [Act.put, List.getElem_toArray, List.getElem_cons_succ, List.getElem_cons_zero, List.setIfInBounds_toArray, List.set_cons_zero, List.set_cons_succ]
              refine wpAnyH_take (i := 8) (oi := _) (v := ?_) rfl (by kernel_rfl) (by kernel_rfl) (by kernel_rfl) (fun _ _ _ h => h) (Or.inl ⟨by rfl, ?_⟩) (by assumption) ?_
              rotate_left
              · (intro w hSw; go_simp; first | done | (with_reducible rfl))
              simp only [Act.put, List.getElem_toArray, List.getElem_cons_succ, List.getElem_cons_zero, List.setIfInBounds_toArray, List.set_cons_zero, List.set_cons_succ]
              refine wpAnyH_take (i := 9) (oi := _) (v := ?_) rfl (by kernel_rfl) (by kernel_rfl) (by kernel_rfl) (fun _ _ _ h => h) (Or.inl ⟨by rfl, ?_⟩) (by assumption) ?_
              rotate_left
              · (intro w hSw; go_simp; first | done | (with_reducible rfl))
              simp only [Act.put, List.getElem_toArray, List.getElem_cons_succ, List.getElem_cons_zero, List.setIfInBounds_toArray, List.set_cons_zero, List.set_cons_succ]
              refine wpAnyH_take (i := 10) (oi := _) (v := ?_) rfl (by kernel_rfl) (by kernel_rfl) (by kernel_rfl) (fun _ _ _ h => h) (Or.inl ⟨by rfl, ?_⟩) (by assumption) ?_
              rotate_left
              · (intro w hSw; have hcw := hcz w hSw; go_simp; first | done | (with_reducible rfl))
              simp only [Act.put, List.getElem_toArray, List.getElem_cons_succ, List.getElem_cons_zero, List.setIfInBounds_toArray, List.set_cons_zero, List.set_cons_succ]
              refine wpAnyH_ready (rs := [5]) (by kernel_rfl) (by simp) ?_
              refine AllReadyH.cons rfl (fun K hK => ?_) AllReadyH.nil
              go_simp
              go_wp2_with (go_at_call 14; refine (r1 _).mono ?_; rintro e w6 ⟨rfl, g6⟩; rw [g6])
              refine hK.out _ _ hHeld (fun _ => ?_)
              clear hK K
              refine wpAnyH_ready (rs := [11]) (by kernel_rfl) (by simp) ?_
              refine AllReadyH.cons rfl (fun K hK => ?_) AllReadyH.nil
              go_simp
              go_wp2_with (go_at_call 28; refine (r2 _).mono ?_; rintro e w7 ⟨rfl, g7⟩; rw [g7])
              refine hK.out _ _ hHeld (fun _ => ?_)
              clear hK K
              refine wpAnyH_take (i := 12) (oi := _) (v := ?_) rfl (by kernel_rfl) (by kernel_rfl) (by kernel_rfl) (fun _ _ _ h => h) (Or.inl ⟨by rfl, ?_⟩) (by assumption) ?_
              rotate_left
              · (intro w hSw; go_simp; first | done | (with_reducible rfl))
              simp only [Act.put, List.getElem_toArray, List.getElem_cons_succ, List.getElem_cons_zero, List.setIfInBounds_toArray, List.set_cons_zero, List.set_cons_succ]
              refine wpAnyH_done (by kernel_rfl) ?_ _
              have HI4 : Keep (w.grownBy wr.drew none ∧ Three wr.drew k a b c) := ⟨HI.out.1.trans hHeld, HI.out.2.kept hHeld⟩
              clear hcz r1 r2 hHeld HI
              clear g6 g7
              clear w6 w7
              go_wp2_with fail
              refine ⟨⟨m + 1, by omega, by omega, rfl, HI4⟩, ?_⟩
              simp only [intOf]; omega
            · go_wp2_with fail
              refine ⟨⟨j + 1, by omega, by omega, rfl, HI⟩, ?_⟩
              simp only [intOf]; omega
        · go_wp2_with fail
          refine ⟨⟨by omega, by omega⟩, ?_⟩
          simp only [intOf]; omega
    · go_wp2_with fail
      go_ret
      exact ⟨rfl, HI.out.1⟩
end Go.Proofs.YtkfkhjafhlafhaaDoor
