/- BoardPlaces: the walk. -/
import Derived.Test.YtglnmmifedlgmaaRL1
import Derived.Deep.DeepCutAuto
namespace Go.Proofs.Ytglnmmifedlgmaa
open Go Go.RowKit

/-- a place, a box's half, two numbers -/
structure Spt where
  ax : Int
  ay : Int
  h : Int
  x : Int
  y : Int
def Spt.ok (p : Spt) : Prop := In p.ax ∧ In p.ay ∧ In p.h
/-- spots as they are handed in -/
structure Spots (W : World) (v : Value) (xs : List Spt) : Prop where
  o : ∃ a cap, v = .slice a xs.length cap ∧ (0 < xs.length → ∃ g o, a = some ⟨g, o, none⟩ ∧ ∀ (j : Nat) (p : Spt), xs[j]? = some p → W.cell? ⟨g, o + j * 5, none⟩ = some (iv p.ax) ∧ W.cell? ⟨g, o + j * 5 + 1, none⟩ = some (iv p.ay) ∧ W.cell? ⟨g, o + j * 5 + 2, none⟩ = some (iv p.h) ∧ W.cell? ⟨g, o + j * 5 + 3, none⟩ = some (iv p.x) ∧ W.cell? ⟨g, o + j * 5 + 4, none⟩ = some (iv p.y))
  s : ∀ p ∈ xs, p.ok
  n : xs.length ≤ 1048576
set_option maxHeartbeats 32000000 in
set_option maxRecDepth 100000 in
theorem places_w (s : ByteArray) (v : Value) (xs : List Spt) (hs : s.size ≤ 1048576) (w : World) (hx : Spots w v xs) : Calls Try.prog 8 #[.string s, v] w fun e w' => e = .returned (.bool true) ∧ w.grownBy w' none := by
  have hP := parsed_c w s hs
  obtain ⟨a0, cap, rfl, hcells⟩ := hx.o
  have HX := Keep.mk hx
  have HCE := Keep.mk hcells
  have hn := hx.n
  clear hs hx hcells
  obtain ⟨n, hnn⟩ : ∃ n, xs.length = n := ⟨_, rfl⟩
  rw [hnn] at hn HCE
  rw [hnn]
  have HNN := Keep.mk hnn
  clear hnn
  go_enter Try.func8, Try.ntmps8
  go_wp2_with fail
  refine hP.mono ?_
  rintro e w0 ⟨g1, h1⟩
  have HG1 := Keep.mk g1
  have hA := alive_c w0
  clear hP g1
  rcases h1 with rfl | ⟨kb, kk, L, he, rfl, hB, hK⟩
  · go_wp2_with fail
    refine hA.mono ?_
    rintro e w2 ⟨rfl, g2⟩
    have HG2 := Keep.mk (HG1.out.trans g2)
    clear hA g2
    go_wp2_with fail
    go_ret
    exact ⟨rfl, HG2.out⟩
  have HB1 := Keep.mk hB
  have HK1 := Keep.mk hK
  clear hB hK he
  go_wp2_with fail
  refine hA.mono ?_
  rintro e w1 ⟨rfl, g2⟩
  have HB0 := Keep.mk (HB1.out.kept g2)
  have HK0 := Keep.mk (HK1.out.kept g2)
  have HG := Keep.mk (HG1.out.trans g2)
  clear hA g2 HB1 HK1 HG1
  go_wp2_with fail
  have k2 : IntKind.i64.wrap (2 * (n : Int)) = 2 * (n : Int) := wi _ (by omega) (by omega)
  go_loopw [8] (fun u wr => ∃ i : Nat, i ≤ 2 * n ∧ u = iv i ∧ Keep (w1.grownBy wr none)) (fun u _ => (2 * (n : Int) - intOf u).toNat)
  case atStart => exact ⟨0, by omega, rfl, ⟨World.grownBy.refl _ _⟩⟩
  case round =>
    obtain ⟨i, hi, rfl, hR⟩ := hrel
    by_cases hlt : (i : Int) < 2 * (n : Int)
    · by_cases h200 : (i : Int) < 200
      · have hn0 : 0 < n := by omega
        obtain ⟨g, o, rfl, hc⟩ := HCE.out hn0
        have hcell : ∀ (j : Nat) (p : Spt), xs[j]? = some p → wr.cell? ⟨g, o + j * 5, none⟩ = some (iv p.ax) ∧ wr.cell? ⟨g, o + j * 5 + 1, none⟩ = some (iv p.ay) ∧ wr.cell? ⟨g, o + j * 5 + 2, none⟩ = some (iv p.h) ∧ wr.cell? ⟨g, o + j * 5 + 3, none⟩ = some (iv p.x) ∧ wr.cell? ⟨g, o + j * 5 + 4, none⟩ = some (iv p.y) := fun j p hp => by
          obtain ⟨q0, q1, q2, q3, q4⟩ := hc j p hp
          have gg := HG.out.trans hR.out
          exact ⟨gg.cell q0 (by simp), gg.cell q1 (by simp), gg.cell q2 (by simp), gg.cell q3 (by simp), gg.cell q4 (by simp)⟩
        obtain ⟨j, hj⟩ : ∃ j, i % n = j := ⟨_, rfl⟩
        have hjn : j < n := by rw [← hj]; exact Nat.mod_lt _ hn0
        have hmod : (i : Int) % (n : Int) = (j : Int) := by rw [← hj]; simp
        have htm : IntKind.i64.wrap ((i : Int).tmod (n : Int)) = (j : Int) := by rw [Int.tmod_eq_emod_of_nonneg (by omega), hmod]; exact wi _ (by omega) (by omega)
        have hne : (n : Int) ≠ 0 := by omega
        obtain ⟨p, hp⟩ : ∃ p, xs[j]? = some p := ⟨_, List.getElem?_eq_getElem (by rw [HNN.out]; exact hjn)⟩
        obtain ⟨c0, c1, c2, c3, c4⟩ := hcell j p hp
        have hj1 : (j : Int) < (n : Nat) := by omega
        have htj : (j : Int).toNat = j := by omega
        have S0 := (Sep.start hR.out).newBox #[iv p.ax, iv p.ay, iv p.h, iv p.x, iv p.y] 49
        have Z := (Sep.start hR.out).newBox #[iv 0, iv 0, iv 0, iv 0, iv 0] 49
        have f0 := (Z.boxGet k0m).frozen 0
        have f1 := (Z.boxGet k0m).frozen 1
        have f2 := (Z.boxGet k0m).frozen 2
        have f3 := (Z.boxGet k0m).frozen 3
        have f4 := (Z.boxGet k0m).frozen 4
        have HSB := Keep.mk S0
        clear S0 Z
        go_upto_if 45 with fail
        go_cut [] (fun wx => Keep (∃ p : Spt, p.ok ∧ Sep w1 wx [boxA wr.heap.size [iv p.ax, iv p.ay, iv p.h, iv p.x, iv p.y] 49]))
        case first =>
          by_cases hni : n ≤ i
          · obtain ⟨j2, hj2⟩ : ∃ j2, n - 1 - j = j2 := ⟨_, rfl⟩
            obtain ⟨p2, hp2⟩ : ∃ p, xs[j2]? = some p := ⟨_, List.getElem?_eq_getElem (by rw [HNN.out]; omega)⟩
            have ga := World.grownBy_alloc wr (.cells #[iv p.ax, iv p.ay, iv p.h, iv p.x, iv p.y] 49) none
            obtain ⟨d0, d1, d2, d3, d4⟩ := hcell j2 p2 hp2
            have d0 := ga.cell d0 (by simp)
            have d1 := ga.cell d1 (by simp)
            have d2 := ga.cell d2 (by simp)
            have d3 := ga.cell d3 (by simp)
            have d4 := ga.cell d4 (by simp)
            have e0 := (HSB.out.boxGet k0m).frozen 0
            have e1 := (HSB.out.boxGet k0m).frozen 1
            have e2 := (HSB.out.boxGet k0m).frozen 2
            have e3 := (HSB.out.boxGet k0m).frozen 3
            have e4 := (HSB.out.boxGet k0m).frozen 4
            have hs1 : IntKind.i64.wrap ((n : Int) - 1) = (n : Int) - 1 := wi _ (by omega) (by omega)
            have hs2 : IntKind.i64.wrap ((n : Int) - 1 - (j : Int)) = (j2 : Int) := by rw [wi _ (by omega) (by omega)]; omega
            have hs3 : (n : Int) - 1 - (j : Int) = (j2 : Int) := by omega
            have hj21 : (j2 : Int) < (n : Nat) := by omega
            have htj2 : (j2 : Int).toNat = j2 := by omega
            have S2 := (Sep.start hR.out).newBox #[iv p2.ax, iv p2.ay, iv p2.h, iv p2.x, iv p2.y] 49
            have HS2 : Keep (∃ p : Spt, p.ok ∧ Sep w1 _ [boxA wr.heap.size [iv p.ax, iv p.ay, iv p.h, iv p.x, iv p.y] 49]) := ⟨p2, HX.out.s p2 (List.mem_of_getElem? hp2), S2⟩
            clear S2 ga hcell hc hp hp2 hj hj2 c0 c1 c2 c3 c4 f0 f1 f2 f3 f4
            go_wp2_with fail
            go_meet
            exact HS2
          · have HS2 : Keep (∃ p : Spt, p.ok ∧ Sep w1 _ [boxA wr.heap.size [iv p.ax, iv p.ay, iv p.h, iv p.x, iv p.y] 49]) := ⟨p, HX.out.s p (List.mem_of_getElem? hp), HSB.out⟩
            clear hcell hc hp hj c0 c1 c2 c3 c4 f0 f1 f2 f3 f4
            go_wp2_with fail
            go_meet
            exact HS2
        case rest =>
        clear HSB hcell hc hp hj c0 c1 c2 c3 c4 f0 f1 f2 f3 f4 hmod htm hjn hj1 htj
        obtain ⟨k9, hk9⟩ : ∃ k, wr.heap.size = k := ⟨_, rfl⟩
        rw [hk9] at hcut
        rw [hk9]
        clear hk9 p
        obtain ⟨p, hok, S⟩ := hcut.out
        have HB := Keep.mk S
        obtain ⟨o1, o2, o3⟩ := hok
        have HA1 := Keep.mk (fun W (h : Bd W (pt kb) L) => at_c W _ _ h p.ax p.ay o1 o2)
        have HA2 := Keep.mk (fun W (h : RB W (pt kk) L) => rat_c W _ _ h p.ax p.ay o1 o2)
        have HS1 := Keep.mk (fun W (h : Bd W (pt kb) L) => solid_c W _ _ h p.ax p.ay o1 o2)
        have HS2 := Keep.mk (fun W (h : RB W (pt kk) L) => rsolid_c W _ _ h p.ax p.ay o1 o2)
        have HL1 := Keep.mk (fun W (h : Bd W (pt kb) L) => blocked_c W _ _ h p.ax p.ay p.h o1 o2 o3)
        have HL2 := Keep.mk (fun W (h : RB W (pt kk) L) => rblocked_c W _ _ h p.ax p.ay p.h o1 o2 o3)
        have HC1 : Keep (∀ W, Bd W (pt kb) L → Calls Try.prog 13 #[pt kb, iv p.x, iv p.y] W fun e w' => e = .returned (.int .i32 (cel L p.x p.y)) ∧ W.grownBy w' none) := ⟨fun W h => cell_x h p.x p.y _ rfl⟩
        have HC2 : Keep (∀ W, RB W (pt kk) L → Calls Try.prog 23 #[pt kk, iv p.x, iv p.y] W fun e w' => e = .returned (.int .i32 (cel L p.x p.y)) ∧ W.grownBy w' none) := ⟨fun W h => (rcell_c W _ _ h p.x p.y).mono fun e w' q => ⟨q.1, by obtain ⟨m, e⟩ := q.2; rw [e]; exact gr_drewN _ _ _⟩⟩
        clear hcut S o1 o2 o3
        generalize atL L (p.ax, p.ay) = at0 at *
        generalize decide (at0 = 35) = sd0 at *
        generalize decide (blk L (p.ax, p.ay) p.h) = bl0 at *
        generalize cel L p.x p.y = ce0 at *
        have hwi : IntKind.i64.wrap ((i : Int) + 1) = ((i + 1 : Nat) : Int) := by rw [wi _ (by omega) (by omega)]; omega
        go_wp2_with fail
        refine wp_region_held_drew (S := fun w' => Sep w1 w' [boxA k9 [iv p.ax, iv p.ay, iv p.h, iv p.x, iv p.y] 49]) (by kernel_rfl) (HB.out.grown (gr_drew _ _)) (fun hHeld => ?_)
        replace HB := Keep.mk hHeld
        refine wpAnyH_take (i := 0) (oi := _) (v := ?_) rfl (by kernel_rfl) (by kernel_rfl) (by kernel_rfl) (fun _ _ _ h => h) (Or.inl ⟨by rfl, ?_⟩) (by assumption) ?_
        rotate_left
        · (intro w hSw; go_simp; first | done | (with_reducible rfl))
        simp only [Act.put, List.getElem_toArray, List.getElem_cons_zero, List.setIfInBounds_toArray, List.set_cons_zero, List.set_cons_succ]
        refine wpAnyH_take (i := 1) (oi := _) (v := ?_) rfl (by kernel_rfl) (by kernel_rfl) (by kernel_rfl) (fun _ _ _ h => h) (Or.inl ⟨by rfl, ?_⟩) (by assumption) ?_
        rotate_left
        · (intro w hSw; go_simp; first | done | (with_reducible rfl))
        simp only [Act.put, List.getElem_toArray, List.getElem_cons_succ, List.getElem_cons_zero, List.setIfInBounds_toArray, List.set_cons_zero, List.set_cons_succ]
        refine wpAnyH_take (i := 2) (oi := _) (v := ?_) rfl (by kernel_rfl) (by kernel_rfl) (by kernel_rfl) (fun _ _ _ h => h) (Or.inl ⟨by rfl, ?_⟩) (by assumption) ?_
        rotate_left
        · (intro w hSw; have q0 := (hSw.boxGet k0m).cellv 0 _ rfl; have q1 := (hSw.boxGet k0m).cellv 1 _ rfl; go_simp; first | done | (with_reducible rfl))
        simp only [Act.put, List.getElem_toArray, List.getElem_cons_succ, List.getElem_cons_zero, List.setIfInBounds_toArray, List.set_cons_zero, List.set_cons_succ]
        refine wpAnyH_take (i := 4) (oi := _) (v := ?_) rfl (by kernel_rfl) (by kernel_rfl) (by kernel_rfl) (fun _ _ _ h => h) (Or.inl ⟨by rfl, ?_⟩) (by assumption) ?_
        rotate_left
        · (intro w hSw; go_simp; first | done | (with_reducible rfl))
        simp only [Act.put, List.getElem_toArray, List.getElem_cons_succ, List.getElem_cons_zero, List.setIfInBounds_toArray, List.set_cons_zero, List.set_cons_succ]
        refine wpAnyH_take (i := 5) (oi := _) (v := ?_) rfl (by kernel_rfl) (by kernel_rfl) (by kernel_rfl) (fun _ _ _ h => h) (Or.inl ⟨by rfl, ?_⟩) (by assumption) ?_
        rotate_left
        · (intro w hSw; go_simp; first | done | (with_reducible rfl))
        simp only [Act.put, List.getElem_toArray, List.getElem_cons_succ, List.getElem_cons_zero, List.setIfInBounds_toArray, List.set_cons_zero, List.set_cons_succ]
        refine wpAnyH_take (i := 6) (oi := _) (v := ?_) rfl (by kernel_rfl) (by kernel_rfl) (by kernel_rfl) (fun _ _ _ h => h) (Or.inl ⟨by rfl, ?_⟩) (by assumption) ?_
        rotate_left
        · (intro w hSw; have q0 := (hSw.boxGet k0m).cellv 0 _ rfl; have q1 := (hSw.boxGet k0m).cellv 1 _ rfl; go_simp; first | done | (with_reducible rfl))
        simp only [Act.put, List.getElem_toArray, List.getElem_cons_succ, List.getElem_cons_zero, List.setIfInBounds_toArray, List.set_cons_zero, List.set_cons_succ]
        refine wpAnyH_ready (rs := [3]) (by kernel_rfl) (by simp) ?_
        refine AllReadyH.cons rfl (fun K hK => ?_) AllReadyH.nil
        go_simp
        refine (HA1.out _ (HB0.out.kept HB.out.g)).mono ?_
        rintro e wg ⟨rfl, hg⟩
        replace HB := Keep.mk (HB.out.grown hg)
        refine hK.out _ _ HB.out (fun hHeld => ?_)
        clear hK K hg
        refine wpAnyH_ready (rs := [7]) (by kernel_rfl) (by simp) ?_
        refine AllReadyH.cons rfl (fun K hK => ?_) AllReadyH.nil
        go_simp
        refine (HA2.out _ (HK0.out.kept HB.out.g)).mono ?_
        rintro e wg ⟨rfl, hg⟩
        replace HB := Keep.mk (HB.out.grown hg)
        refine hK.out _ _ HB.out (fun hHeld => ?_)
        clear hK K hg
        refine wpAnyH_take (i := 8) (oi := _) (v := ?_) rfl (by kernel_rfl) (by kernel_rfl) (by kernel_rfl) (fun _ _ _ h => h) (Or.inl ⟨by rfl, ?_⟩) (by assumption) ?_
        rotate_left
        · (intro w hSw; go_simp; first | done | (with_reducible rfl))
        simp only [Act.put, List.getElem_toArray, List.getElem_cons_succ, List.getElem_cons_zero, List.setIfInBounds_toArray, List.set_cons_zero, List.set_cons_succ]
        refine wpAnyH_take (i := 9) (oi := _) (v := ?_) rfl (by kernel_rfl) (by kernel_rfl) (by kernel_rfl) (fun _ _ _ h => h) (Or.inl ⟨by rfl, ?_⟩) (by assumption) ?_
        rotate_left
        · (intro w hSw; go_simp; first | done | (with_reducible rfl))
        simp only [Act.put, List.getElem_toArray, List.getElem_cons_succ, List.getElem_cons_zero, List.setIfInBounds_toArray, List.set_cons_zero, List.set_cons_succ]
        refine wpAnyH_take (i := 10) (oi := _) (v := ?_) rfl (by kernel_rfl) (by kernel_rfl) (by kernel_rfl) (fun _ _ _ h => h) (Or.inl ⟨by rfl, ?_⟩) (by assumption) ?_
        rotate_left
        · (intro w hSw; go_simp; first | done | (with_reducible rfl))
        simp only [Act.put, List.getElem_toArray, List.getElem_cons_succ, List.getElem_cons_zero, List.setIfInBounds_toArray, List.set_cons_zero, List.set_cons_succ]
        refine wpAnyH_take (i := 11) (oi := _) (v := ?_) rfl (by kernel_rfl) (by kernel_rfl) (by kernel_rfl) (fun _ _ _ h => h) (Or.inl ⟨by rfl, ?_⟩) (by assumption) ?_
        rotate_left
        · (intro w hSw; go_simp; first | done | (with_reducible rfl))
        simp only [Act.put, List.getElem_toArray, List.getElem_cons_succ, List.getElem_cons_zero, List.setIfInBounds_toArray, List.set_cons_zero, List.set_cons_succ]
        refine wpAnyH_take (i := 12) (oi := _) (v := ?_) rfl (by kernel_rfl) (by kernel_rfl) (by kernel_rfl) (fun _ _ _ h => h) (Or.inl ⟨by rfl, ?_⟩) (by assumption) ?_
        rotate_left
        · (intro w hSw; have q0 := (hSw.boxGet k0m).cellv 0 _ rfl; have q1 := (hSw.boxGet k0m).cellv 1 _ rfl; go_simp; first | done | (with_reducible rfl))
        simp only [Act.put, List.getElem_toArray, List.getElem_cons_succ, List.getElem_cons_zero, List.setIfInBounds_toArray, List.set_cons_zero, List.set_cons_succ]
        refine wpAnyH_take (i := 14) (oi := _) (v := ?_) rfl (by kernel_rfl) (by kernel_rfl) (by kernel_rfl) (fun _ _ _ h => h) (Or.inl ⟨by rfl, ?_⟩) (by assumption) ?_
        rotate_left
        · (intro w hSw; go_simp; first | done | (with_reducible rfl))
        simp only [Act.put, List.getElem_toArray, List.getElem_cons_succ, List.getElem_cons_zero, List.setIfInBounds_toArray, List.set_cons_zero, List.set_cons_succ]
        refine wpAnyH_take (i := 15) (oi := _) (v := ?_) rfl (by kernel_rfl) (by kernel_rfl) (by kernel_rfl) (fun _ _ _ h => h) (Or.inl ⟨by rfl, ?_⟩) (by assumption) ?_
        rotate_left
        · (intro w hSw; go_simp; first | done | (with_reducible rfl))
        simp only [Act.put, List.getElem_toArray, List.getElem_cons_succ, List.getElem_cons_zero, List.setIfInBounds_toArray, List.set_cons_zero, List.set_cons_succ]
        refine wpAnyH_take (i := 16) (oi := _) (v := ?_) rfl (by kernel_rfl) (by kernel_rfl) (by kernel_rfl) (fun _ _ _ h => h) (Or.inl ⟨by rfl, ?_⟩) (by assumption) ?_
        rotate_left
        · (intro w hSw; have q0 := (hSw.boxGet k0m).cellv 0 _ rfl; have q1 := (hSw.boxGet k0m).cellv 1 _ rfl; go_simp; first | done | (with_reducible rfl))
        simp only [Act.put, List.getElem_toArray, List.getElem_cons_succ, List.getElem_cons_zero, List.setIfInBounds_toArray, List.set_cons_zero, List.set_cons_succ]
        refine wpAnyH_ready (rs := [13]) (by kernel_rfl) (by simp) ?_
        refine AllReadyH.cons rfl (fun K hK => ?_) AllReadyH.nil
        go_simp
        refine (HS1.out _ (HB0.out.kept HB.out.g)).mono ?_
        rintro e wg ⟨rfl, hg⟩
        replace HB := Keep.mk (HB.out.grown hg)
        refine hK.out _ _ HB.out (fun hHeld => ?_)
        clear hK K hg
        refine wpAnyH_ready (rs := [17]) (by kernel_rfl) (by simp) ?_
        refine AllReadyH.cons rfl (fun K hK => ?_) AllReadyH.nil
        go_simp
        refine (HS2.out _ (HK0.out.kept HB.out.g)).mono ?_
        rintro e wg ⟨rfl, hg⟩
        replace HB := Keep.mk (HB.out.grown hg)
        refine hK.out _ _ HB.out (fun hHeld => ?_)
        clear hK K hg
        refine wpAnyH_take (i := 18) (oi := _) (v := ?_) rfl (by kernel_rfl) (by kernel_rfl) (by kernel_rfl) (fun _ _ _ h => h) (Or.inl ⟨by rfl, ?_⟩) (by assumption) ?_
        rotate_left
        · (intro w hSw; go_simp; first | done | (with_reducible rfl))
        simp only [Act.put, List.getElem_toArray, List.getElem_cons_succ, List.getElem_cons_zero, List.setIfInBounds_toArray, List.set_cons_zero, List.set_cons_succ]
        refine wpAnyH_take (i := 19) (oi := _) (v := ?_) rfl (by kernel_rfl) (by kernel_rfl) (by kernel_rfl) (fun _ _ _ h => h) (Or.inl ⟨by rfl, ?_⟩) (by assumption) ?_
        rotate_left
        · (intro w hSw; go_simp; first | done | (with_reducible rfl))
        simp only [Act.put, List.getElem_toArray, List.getElem_cons_succ, List.getElem_cons_zero, List.setIfInBounds_toArray, List.set_cons_zero, List.set_cons_succ]
        refine wpAnyH_take (i := 20) (oi := _) (v := ?_) rfl (by kernel_rfl) (by kernel_rfl) (by kernel_rfl) (fun _ _ _ h => h) (Or.inl ⟨by rfl, ?_⟩) (by assumption) ?_
        rotate_left
        · (intro w hSw; go_simp; first | done | (with_reducible rfl))
        simp only [Act.put, List.getElem_toArray, List.getElem_cons_succ, List.getElem_cons_zero, List.setIfInBounds_toArray, List.set_cons_zero, List.set_cons_succ]
        refine wpAnyH_take (i := 21) (oi := _) (v := ?_) rfl (by kernel_rfl) (by kernel_rfl) (by kernel_rfl) (fun _ _ _ h => h) (Or.inl ⟨by rfl, ?_⟩) (by assumption) ?_
        rotate_left
        · (intro w hSw; go_simp; first | done | (with_reducible rfl))
        simp only [Act.put, List.getElem_toArray, List.getElem_cons_succ, List.getElem_cons_zero, List.setIfInBounds_toArray, List.set_cons_zero, List.set_cons_succ]
        refine wpAnyH_take (i := 22) (oi := _) (v := ?_) rfl (by kernel_rfl) (by kernel_rfl) (by kernel_rfl) (fun _ _ _ h => h) (Or.inl ⟨by rfl, ?_⟩) (by assumption) ?_
        rotate_left
        · (intro w hSw; go_simp; first | done | (with_reducible rfl))
        simp only [Act.put, List.getElem_toArray, List.getElem_cons_succ, List.getElem_cons_zero, List.setIfInBounds_toArray, List.set_cons_zero, List.set_cons_succ]
        refine wpAnyH_take (i := 23) (oi := _) (v := ?_) rfl (by kernel_rfl) (by kernel_rfl) (by kernel_rfl) (fun _ _ _ h => h) (Or.inl ⟨by rfl, ?_⟩) (by assumption) ?_
        rotate_left
        · (intro w hSw; have q0 := (hSw.boxGet k0m).cellv 0 _ rfl; have q1 := (hSw.boxGet k0m).cellv 1 _ rfl; go_simp; first | done | (with_reducible rfl))
        simp only [Act.put, List.getElem_toArray, List.getElem_cons_succ, List.getElem_cons_zero, List.setIfInBounds_toArray, List.set_cons_zero, List.set_cons_succ]
        refine wpAnyH_take (i := 24) (oi := _) (v := ?_) rfl (by kernel_rfl) (by kernel_rfl) (by kernel_rfl) (fun _ _ _ h => h) (Or.inl ⟨by rfl, ?_⟩) (by assumption) ?_
        rotate_left
        · (intro w hSw; go_simp; first | done | (with_reducible rfl))
        simp only [Act.put, List.getElem_toArray, List.getElem_cons_succ, List.getElem_cons_zero, List.setIfInBounds_toArray, List.set_cons_zero, List.set_cons_succ]
        refine wpAnyH_take (i := 25) (oi := _) (v := ?_) rfl (by kernel_rfl) (by kernel_rfl) (by kernel_rfl) (fun _ _ _ h => h) (Or.inl ⟨by rfl, ?_⟩) (by assumption) ?_
        rotate_left
        · (intro w hSw; have q2 := (hSw.boxGet k0m).cellv 2 _ rfl; go_simp; first | done | (with_reducible rfl))
        simp only [Act.put, List.getElem_toArray, List.getElem_cons_succ, List.getElem_cons_zero, List.setIfInBounds_toArray, List.set_cons_zero, List.set_cons_succ]
        refine wpAnyH_take (i := 27) (oi := _) (v := ?_) rfl (by kernel_rfl) (by kernel_rfl) (by kernel_rfl) (fun _ _ _ h => h) (Or.inl ⟨by rfl, ?_⟩) (by assumption) ?_
        rotate_left
        · (intro w hSw; go_simp; first | done | (with_reducible rfl))
        simp only [Act.put, List.getElem_toArray, List.getElem_cons_succ, List.getElem_cons_zero, List.setIfInBounds_toArray, List.set_cons_zero, List.set_cons_succ]
        refine wpAnyH_take (i := 28) (oi := _) (v := ?_) rfl (by kernel_rfl) (by kernel_rfl) (by kernel_rfl) (fun _ _ _ h => h) (Or.inl ⟨by rfl, ?_⟩) (by assumption) ?_
        rotate_left
        · (intro w hSw; go_simp; first | done | (with_reducible rfl))
        simp only [Act.put, List.getElem_toArray, List.getElem_cons_succ, List.getElem_cons_zero, List.setIfInBounds_toArray, List.set_cons_zero, List.set_cons_succ]
        refine wpAnyH_take (i := 29) (oi := _) (v := ?_) rfl (by kernel_rfl) (by kernel_rfl) (by kernel_rfl) (fun _ _ _ h => h) (Or.inl ⟨by rfl, ?_⟩) (by assumption) ?_
        rotate_left
        · (intro w hSw; have q0 := (hSw.boxGet k0m).cellv 0 _ rfl; have q1 := (hSw.boxGet k0m).cellv 1 _ rfl; go_simp; first | done | (with_reducible rfl))
        simp only [Act.put, List.getElem_toArray, List.getElem_cons_succ, List.getElem_cons_zero, List.setIfInBounds_toArray, List.set_cons_zero, List.set_cons_succ]
        refine wpAnyH_take (i := 30) (oi := _) (v := ?_) rfl (by kernel_rfl) (by kernel_rfl) (by kernel_rfl) (fun _ _ _ h => h) (Or.inl ⟨by rfl, ?_⟩) (by assumption) ?_
        rotate_left
        · (intro w hSw; go_simp; first | done | (with_reducible rfl))
        simp only [Act.put, List.getElem_toArray, List.getElem_cons_succ, List.getElem_cons_zero, List.setIfInBounds_toArray, List.set_cons_zero, List.set_cons_succ]
        refine wpAnyH_take (i := 31) (oi := _) (v := ?_) rfl (by kernel_rfl) (by kernel_rfl) (by kernel_rfl) (fun _ _ _ h => h) (Or.inl ⟨by rfl, ?_⟩) (by assumption) ?_
        rotate_left
        · (intro w hSw; have q2 := (hSw.boxGet k0m).cellv 2 _ rfl; go_simp; first | done | (with_reducible rfl))
        simp only [Act.put, List.getElem_toArray, List.getElem_cons_succ, List.getElem_cons_zero, List.setIfInBounds_toArray, List.set_cons_zero, List.set_cons_succ]
        refine wpAnyH_ready (rs := [26]) (by kernel_rfl) (by simp) ?_
        refine AllReadyH.cons rfl (fun K hK => ?_) AllReadyH.nil
        go_simp
        refine (HL1.out _ (HB0.out.kept HB.out.g)).mono ?_
        rintro e wg ⟨rfl, hg⟩
        replace HB := Keep.mk (HB.out.grown hg)
        refine hK.out _ _ HB.out (fun hHeld => ?_)
        clear hK K hg
        refine wpAnyH_ready (rs := [32]) (by kernel_rfl) (by simp) ?_
        refine AllReadyH.cons rfl (fun K hK => ?_) AllReadyH.nil
        go_simp
        refine (HL2.out _ (HK0.out.kept HB.out.g)).mono ?_
        rintro e wg ⟨rfl, hg⟩
        replace HB := Keep.mk (HB.out.grown hg)
        refine hK.out _ _ HB.out (fun hHeld => ?_)
        clear hK K hg
        refine wpAnyH_take (i := 33) (oi := _) (v := ?_) rfl (by kernel_rfl) (by kernel_rfl) (by kernel_rfl) (fun _ _ _ h => h) (Or.inl ⟨by rfl, ?_⟩) (by assumption) ?_
        rotate_left
        · (intro w hSw; go_simp; first | done | (with_reducible rfl))
        simp only [Act.put, List.getElem_toArray, List.getElem_cons_succ, List.getElem_cons_zero, List.setIfInBounds_toArray, List.set_cons_zero, List.set_cons_succ]
        refine wpAnyH_take (i := 34) (oi := _) (v := ?_) rfl (by kernel_rfl) (by kernel_rfl) (by kernel_rfl) (fun _ _ _ h => h) (Or.inl ⟨by rfl, ?_⟩) (by assumption) ?_
        rotate_left
        · (intro w hSw; go_simp; first | done | (with_reducible rfl))
        simp only [Act.put, List.getElem_toArray, List.getElem_cons_succ, List.getElem_cons_zero, List.setIfInBounds_toArray, List.set_cons_zero, List.set_cons_succ]
        refine wpAnyH_take (i := 35) (oi := _) (v := ?_) rfl (by kernel_rfl) (by kernel_rfl) (by kernel_rfl) (fun _ _ _ h => h) (Or.inl ⟨by rfl, ?_⟩) (by assumption) ?_
        rotate_left
        · (intro w hSw; go_simp; first | done | (with_reducible rfl))
        simp only [Act.put, List.getElem_toArray, List.getElem_cons_succ, List.getElem_cons_zero, List.setIfInBounds_toArray, List.set_cons_zero, List.set_cons_succ]
        refine wpAnyH_take (i := 36) (oi := _) (v := ?_) rfl (by kernel_rfl) (by kernel_rfl) (by kernel_rfl) (fun _ _ _ h => h) (Or.inl ⟨by rfl, ?_⟩) (by assumption) ?_
        rotate_left
        · (intro w hSw; go_simp; first | done | (with_reducible rfl))
        simp only [Act.put, List.getElem_toArray, List.getElem_cons_succ, List.getElem_cons_zero, List.setIfInBounds_toArray, List.set_cons_zero, List.set_cons_succ]
        refine wpAnyH_take (i := 37) (oi := _) (v := ?_) rfl (by kernel_rfl) (by kernel_rfl) (by kernel_rfl) (fun _ _ _ h => h) (Or.inl ⟨by rfl, ?_⟩) (by assumption) ?_
        rotate_left
        · (intro w hSw; go_simp; first | done | (with_reducible rfl))
        simp only [Act.put, List.getElem_toArray, List.getElem_cons_succ, List.getElem_cons_zero, List.setIfInBounds_toArray, List.set_cons_zero, List.set_cons_succ]
        refine wpAnyH_take (i := 38) (oi := _) (v := ?_) rfl (by kernel_rfl) (by kernel_rfl) (by kernel_rfl) (fun _ _ _ h => h) (Or.inl ⟨by rfl, ?_⟩) (by assumption) ?_
        rotate_left
        · (intro w hSw; have q3 := (hSw.boxGet k0m).cellv 3 _ rfl; go_simp; first | done | (with_reducible rfl))
        simp only [Act.put, List.getElem_toArray, List.getElem_cons_succ, List.getElem_cons_zero, List.setIfInBounds_toArray, List.set_cons_zero, List.set_cons_succ]
        refine wpAnyH_take (i := 39) (oi := _) (v := ?_) rfl (by kernel_rfl) (by kernel_rfl) (by kernel_rfl) (fun _ _ _ h => h) (Or.inl ⟨by rfl, ?_⟩) (by assumption) ?_
        rotate_left
        · (intro w hSw; go_simp; first | done | (with_reducible rfl))
        simp only [Act.put, List.getElem_toArray, List.getElem_cons_succ, List.getElem_cons_zero, List.setIfInBounds_toArray, List.set_cons_zero, List.set_cons_succ]
        refine wpAnyH_take (i := 40) (oi := _) (v := ?_) rfl (by kernel_rfl) (by kernel_rfl) (by kernel_rfl) (fun _ _ _ h => h) (Or.inl ⟨by rfl, ?_⟩) (by assumption) ?_
        rotate_left
        · (intro w hSw; have q4 := (hSw.boxGet k0m).cellv 4 _ rfl; go_simp; first | done | (with_reducible rfl))
        simp only [Act.put, List.getElem_toArray, List.getElem_cons_succ, List.getElem_cons_zero, List.setIfInBounds_toArray, List.set_cons_zero, List.set_cons_succ]
        refine wpAnyH_take (i := 42) (oi := _) (v := ?_) rfl (by kernel_rfl) (by kernel_rfl) (by kernel_rfl) (fun _ _ _ h => h) (Or.inl ⟨by rfl, ?_⟩) (by assumption) ?_
        rotate_left
        · (intro w hSw; go_simp; first | done | (with_reducible rfl))
        simp only [Act.put, List.getElem_toArray, List.getElem_cons_succ, List.getElem_cons_zero, List.setIfInBounds_toArray, List.set_cons_zero, List.set_cons_succ]
        refine wpAnyH_take (i := 43) (oi := _) (v := ?_) rfl (by kernel_rfl) (by kernel_rfl) (by kernel_rfl) (fun _ _ _ h => h) (Or.inl ⟨by rfl, ?_⟩) (by assumption) ?_
        rotate_left
        · (intro w hSw; go_simp; first | done | (with_reducible rfl))
        simp only [Act.put, List.getElem_toArray, List.getElem_cons_succ, List.getElem_cons_zero, List.setIfInBounds_toArray, List.set_cons_zero, List.set_cons_succ]
        refine wpAnyH_take (i := 44) (oi := _) (v := ?_) rfl (by kernel_rfl) (by kernel_rfl) (by kernel_rfl) (fun _ _ _ h => h) (Or.inl ⟨by rfl, ?_⟩) (by assumption) ?_
        rotate_left
        · (intro w hSw; have q3 := (hSw.boxGet k0m).cellv 3 _ rfl; go_simp; first | done | (with_reducible rfl))
        simp only [Act.put, List.getElem_toArray, List.getElem_cons_succ, List.getElem_cons_zero, List.setIfInBounds_toArray, List.set_cons_zero, List.set_cons_succ]
        refine wpAnyH_take (i := 45) (oi := _) (v := ?_) rfl (by kernel_rfl) (by kernel_rfl) (by kernel_rfl) (fun _ _ _ h => h) (Or.inl ⟨by rfl, ?_⟩) (by assumption) ?_
        rotate_left
        · (intro w hSw; go_simp; first | done | (with_reducible rfl))
        simp only [Act.put, List.getElem_toArray, List.getElem_cons_succ, List.getElem_cons_zero, List.setIfInBounds_toArray, List.set_cons_zero, List.set_cons_succ]
        refine wpAnyH_take (i := 46) (oi := _) (v := ?_) rfl (by kernel_rfl) (by kernel_rfl) (by kernel_rfl) (fun _ _ _ h => h) (Or.inl ⟨by rfl, ?_⟩) (by assumption) ?_
        rotate_left
        · (intro w hSw; have q4 := (hSw.boxGet k0m).cellv 4 _ rfl; go_simp; first | done | (with_reducible rfl))
        simp only [Act.put, List.getElem_toArray, List.getElem_cons_succ, List.getElem_cons_zero, List.setIfInBounds_toArray, List.set_cons_zero, List.set_cons_succ]
        refine wpAnyH_ready (rs := [41]) (by kernel_rfl) (by simp) ?_
        refine AllReadyH.cons rfl (fun K hK => ?_) AllReadyH.nil
        go_simp
        refine (HC1.out _ (HB0.out.kept HB.out.g)).mono ?_
        rintro e wg ⟨rfl, hg⟩
        replace HB := Keep.mk (HB.out.grown hg)
        refine hK.out _ _ HB.out (fun hHeld => ?_)
        clear hK K hg
        refine wpAnyH_ready (rs := [47]) (by kernel_rfl) (by simp) ?_
        refine AllReadyH.cons rfl (fun K hK => ?_) AllReadyH.nil
        go_simp
        refine (HC2.out _ (HK0.out.kept HB.out.g)).mono ?_
        rintro e wg ⟨rfl, hg⟩
        replace HB := Keep.mk (HB.out.grown hg)
        refine hK.out _ _ HB.out (fun hHeld => ?_)
        clear hK K hg
        refine wpAnyH_take (i := 48) (oi := _) (v := ?_) rfl (by kernel_rfl) (by kernel_rfl) (by kernel_rfl) (fun _ _ _ h => h) (Or.inl ⟨by rfl, ?_⟩) (by assumption) ?_
        rotate_left
        · (intro w hSw; go_simp; first | done | (with_reducible rfl))
        simp only [Act.put, List.getElem_toArray, List.getElem_cons_succ, List.getElem_cons_zero, List.setIfInBounds_toArray, List.set_cons_zero, List.set_cons_succ]
        refine wpAnyH_take (i := 49) (oi := _) (v := ?_) rfl (by kernel_rfl) (by kernel_rfl) (by kernel_rfl) (fun _ _ _ h => h) (Or.inl ⟨by rfl, ?_⟩) (by assumption) ?_
        rotate_left
        · (intro w hSw; go_simp; first | done | (with_reducible rfl))
        simp only [Act.put, List.getElem_toArray, List.getElem_cons_succ, List.getElem_cons_zero, List.setIfInBounds_toArray, List.set_cons_zero, List.set_cons_succ]
        refine wpAnyH_done (by kernel_rfl) ?_ _
        go_wp2_with fail
        go_roundw
        case rel => exact ⟨i + 1, by omega, rfl, ⟨HB.out.g⟩⟩
        case measure => simp [intOf]; omega
      · go_wp2_with fail
        go_ret
        exact ⟨rfl, HG.out.trans hR.out⟩
    · go_wp2_with fail
      go_ret
      exact ⟨rfl, HG.out.trans hR.out⟩
end Go.Proofs.Ytglnmmifedlgmaa
