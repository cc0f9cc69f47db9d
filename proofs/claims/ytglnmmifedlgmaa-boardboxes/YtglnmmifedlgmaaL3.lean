/- BoardBoxes: the walk. -/
import Derived.Test.YtglnmmifedlgmaaA8
import Derived.Test.YtglnmmifedlgmaaP3
import Derived.Deep.DeepCutAuto
namespace Go.Proofs.Ytglnmmifedlgmaa
open Go Go.RowKit

/-- things that lie apart since w0, and all since w3 is new besides -/
structure SG (w0 w3 W : World) (l : List As) : Prop where
  s : Sep w0 W l
  g : w3.grownBy W none
theorem SG.grown {w0 w3 W W' : World} {l : List As} (h : SG w0 w3 W l) (q : W.grownBy W' none) : SG w0 w3 W' l := ⟨h.s.grown q, h.g.trans q⟩
theorem kept_in (x m : Int) (hm : 0 ≤ m) : -m ≤ x.tmod (m + 1) ∧ x.tmod (m + 1) ≤ m := by
  have h4 := Int.tmod_lt_of_pos x (show (0 : Int) < m + 1 by omega)
  have h5 := Int.lt_tmod_of_pos x (show (0 : Int) < m + 1 by omega)
  omega
set_option maxHeartbeats 64000000 in
set_option maxRecDepth 100000 in
theorem boxes_w (s : ByteArray) (ax ay h0 h1 : Int) (w : World) : Calls Try.prog 6 #[.string s, vv ax ay, .agg #[iv h0, iv h1]] w fun e w' => e = .returned (.bool true) ∧ w.grownBy w' none := by
  have HKX := Keep.mk (fun W => kept_c W ax 34603008 (by omega) (by omega))
  have HKY := Keep.mk (fun W => kept_c W ay 34603008 (by omega) (by omega))
  have HKL := Keep.mk (fun W => kept_c W h0 1572864 (by omega) (by omega))
  have HKG := Keep.mk (fun W => kept_c W h1 3145728 (by omega) (by omega))
  have HKT := Keep.mk (fun W => kept_c W h0 1 (by omega) (by omega))
  have bx := kept_in ax 34603008 (by omega)
  have by' := kept_in ay 34603008 (by omega)
  have bl := kept_in h0 1572864 (by omega)
  have bg := kept_in h1 3145728 (by omega)
  have bt := kept_in h0 1 (by omega)
  generalize ax.tmod (34603008 + 1) = px at *
  generalize ay.tmod (34603008 + 1) = py at *
  generalize h0.tmod (1572864 + 1) = le at *
  generalize h1.tmod (3145728 + 1) = gr at *
  generalize h0.tmod (1 + 1) = tt at *
  have S0 := ((Sep.nil w).newBox #[iv ax, iv ay] 32).newBox #[iv h0, iv h1] 42
  obtain ⟨ka, hka⟩ : ∃ k, w.heap.size = k := ⟨_, rfl⟩
  obtain ⟨W0, hW0⟩ : ∃ W, w.alloc (.cells #[iv ax, iv ay] 32) = W := ⟨_, rfl⟩
  rw [hW0, hka] at S0
  obtain ⟨kh, hkh⟩ : ∃ k, W0.heap.size = k := ⟨_, rfl⟩
  obtain ⟨W1, hW1⟩ : ∃ W, W0.alloc (.cells #[iv h0, iv h1] 42) = W := ⟨_, rfl⟩
  rw [hkh, hW1] at S0
  have HS := Keep.mk S0
  have hA := alive_c W1
  clear S0
  go_enter Try.func6, Try.ntmps6
  go_wp2_with fail
  refine hA.mono ?_
  rintro e w1 ⟨rfl, g1⟩
  have hP := parse_c w1 s
  have HS1 := Keep.mk (HS.out.grown g1)
  clear hA g1 HS hW0 hW1 hka hkh
  generalize lns s = L at *
  go_wp2_with fail
  refine hP.mono ?_
  rintro e w2 ⟨g2, h2⟩
  have HS2 := Keep.mk (HS1.out.grown g2)
  clear hP HS1 g2
  rcases h2 with ⟨_, rfl⟩ | ⟨_, _, rfl⟩ | ⟨he, _, v, rfl, hB⟩
  · go_wp2_with fail
    go_ret
    exact ⟨rfl, HS2.out.g⟩
  · go_wp2_with fail
    go_ret
    exact ⟨rfl, HS2.out.g⟩
  obtain ⟨kb, _, _, hv, _⟩ := hB.o
  subst hv
  have HBD := Keep.mk hB
  have HE := Keep.mk he
  have HB : Keep (SG w w2 w2 [boxA kh [iv h0, iv h1] 42, boxA ka [iv ax, iv ay] 32]) := ⟨⟨HS2.out, World.grownBy.refl _ _⟩⟩
  clear hB he HS2
  go_wp2_with fail
  refine wp_region_held_drew (S := fun w' => SG w w2 w' [boxA kh [iv h0, iv h1] 42, boxA ka [iv ax, iv ay] 32]) (by kernel_rfl) (HB.out.grown (gr_drew _ _)) (fun hHeld => ?_)
  replace HB := Keep.mk hHeld
  refine wpAnyH_take (i := 0) (oi := _) (v := ?_) rfl (by kernel_rfl) (by kernel_rfl) (by kernel_rfl) (fun _ _ _ h => h) (Or.inl ⟨by rfl, ?_⟩) (by assumption) ?_
  rotate_left
  · (intro w hSw; go_simp; first | done | (with_reducible rfl))
  simp only [Act.put, List.getElem_toArray, List.getElem_cons_zero, List.setIfInBounds_toArray, List.set_cons_zero, List.set_cons_succ]
  refine wpAnyH_take (i := 1) (oi := _) (v := ?_) rfl (by kernel_rfl) (by kernel_rfl) (by kernel_rfl) (fun _ _ _ h => h) (Or.inl ⟨by rfl, ?_⟩) (by assumption) ?_
  rotate_left
  · (intro w hSw; have q0 := (hSw.s.boxGet k1m).cellv 0 _ rfl; have q1 := (hSw.s.boxGet k1m).cellv 1 _ rfl; go_simp; first | done | (with_reducible rfl))
  simp only [Act.put, List.getElem_toArray, List.getElem_cons_succ, List.getElem_cons_zero, List.setIfInBounds_toArray, List.set_cons_zero, List.set_cons_succ]
  refine wpAnyH_take (i := 3) (oi := _) (v := ?_) rfl (by kernel_rfl) (by kernel_rfl) (by kernel_rfl) (fun _ _ _ h => h) (Or.inl ⟨by rfl, ?_⟩) (by assumption) ?_
  rotate_left
  · (intro w hSw; go_simp; first | done | (with_reducible rfl))
  simp only [Act.put, List.getElem_toArray, List.getElem_cons_succ, List.getElem_cons_zero, List.setIfInBounds_toArray, List.set_cons_zero, List.set_cons_succ]
  refine wpAnyH_take (i := 4) (oi := _) (v := ?_) rfl (by kernel_rfl) (by kernel_rfl) (by kernel_rfl) (fun _ _ _ h => h) (Or.inl ⟨by rfl, ?_⟩) (by assumption) ?_
  rotate_left
  · (intro w hSw; have q0 := (hSw.s.boxGet k1m).cellv 0 _ rfl; have q1 := (hSw.s.boxGet k1m).cellv 1 _ rfl; go_simp; first | done | (with_reducible rfl))
  simp only [Act.put, List.getElem_toArray, List.getElem_cons_succ, List.getElem_cons_zero, List.setIfInBounds_toArray, List.set_cons_zero, List.set_cons_succ]
  refine wpAnyH_call (i := 2) (oi := _) (v := iv px) rfl (by kernel_rfl) (by kernel_rfl) (by kernel_rfl) (fun _ _ _ h => h) ⟨by rfl, 18, #[iv ax, iv 34603008], fun w => ?_, fun w hSw => HKX.out w⟩ (by assumption) ?_
  · (go_simp; first | done | (with_reducible rfl))
  simp only [Act.put, List.getElem_toArray, List.getElem_cons_succ, List.getElem_cons_zero, List.setIfInBounds_toArray, List.set_cons_zero, List.set_cons_succ]
  refine wpAnyH_call (i := 5) (oi := _) (v := iv py) rfl (by kernel_rfl) (by kernel_rfl) (by kernel_rfl) (fun _ _ _ h => h) ⟨by rfl, 18, #[iv ay, iv 34603008], fun w => ?_, fun w hSw => HKY.out w⟩ (by assumption) ?_
  · (go_simp; first | done | (with_reducible rfl))
  simp only [Act.put, List.getElem_toArray, List.getElem_cons_succ, List.getElem_cons_zero, List.setIfInBounds_toArray, List.set_cons_zero, List.set_cons_succ]
  refine wpAnyH_take (i := 6) (oi := _) (v := ?_) rfl (by kernel_rfl) (by kernel_rfl) (by kernel_rfl) (fun _ _ _ h => h) (Or.inl ⟨by rfl, ?_⟩) (by assumption) ?_
  rotate_left
  · (intro w hSw; go_simp; first | done | (with_reducible rfl))
  simp only [Act.put, List.getElem_toArray, List.getElem_cons_succ, List.getElem_cons_zero, List.setIfInBounds_toArray, List.set_cons_zero, List.set_cons_succ]
  refine wpAnyH_ready (rs := [7]) (by kernel_rfl) (by simp) ?_
  refine AllReadyH.cons rfl (fun K hK => ?_) AllReadyH.nil
  go_simp
  have S1 : Sep w (w2.alloc (.cells #[iv 0, iv 0] 32)).drew (boxA w2.heap.size [iv 0, iv 0] 32 :: [boxA kh [iv h0, iv h1] 42, boxA ka [iv ax, iv ay] 32]) := HB.out.s.newBox #[iv 0, iv 0] 32
  have G1 : w2.grownBy (w2.alloc (.cells #[iv 0, iv 0] 32)).drew none := (World.grownBy_alloc w2 (.cells #[iv 0, iv 0] 32) none).trans (gr_drew _ _)
  have S2 : Sep w (w2.alloc (.cells #[iv px, iv py] 32)).drew (boxA w2.heap.size [iv px, iv py] 32 :: [boxA kh [iv h0, iv h1] 42, boxA ka [iv ax, iv ay] 32]) := HB.out.s.newBox #[iv px, iv py] 32
  have G2 : w2.grownBy (w2.alloc (.cells #[iv px, iv py] 32)).drew none := (World.grownBy_alloc w2 (.cells #[iv px, iv py] 32) none).trans (gr_drew _ _)
  have f0 := (S1.boxGet k0m).frozen 0
  have f1 := (S1.boxGet k0m).frozen 1
  refine hK.out _ _ ⟨S1.tail, G1⟩ (fun hHeld => ?_)
  clear hK K hHeld
  refine wpAnyH_ready (rs := [8]) (by kernel_rfl) (by simp) ?_
  refine AllReadyH.cons rfl (fun K hK => ?_) AllReadyH.nil
  go_simp
  refine hK.out _ _ ⟨S2.tail, G2⟩ (fun hHeld => ?_)
  clear hK K hHeld f0 f1 HKX HKY
  obtain ⟨kp, hkp⟩ : ∃ k, w2.heap.size = k := ⟨_, rfl⟩
  rw [hkp] at S2
  rw [hkp]
  clear hkp
  refine wpAnyH_done (by kernel_rfl) ?_ _
  replace HB : Keep (SG w w2 _ [boxA kp [iv px, iv py] 32, boxA kh [iv h0, iv h1] 42, boxA ka [iv ax, iv ay] 32]) := ⟨⟨S2, G2⟩⟩
  clear S1 G1 S2 G2
  obtain ⟨W3, hW3⟩ : ∃ W3, (w2.alloc (.cells #[iv px, iv py] 32)).drew = W3 := ⟨_, rfl⟩
  rw [hW3] at HB
  rw [hW3]
  clear hW3
  have y0 := (HB.out.s.boxGet k1m).cellv 0 _ rfl
  have y1 := (HB.out.s.boxGet k1m).cellv 1 _ rfl
  go_wp2_with fail
  refine (HKL.out _).mono ?_
  rintro e w4 ⟨rfl, rfl⟩
  go_wp2_with fail
  refine (HKG.out _).mono ?_
  rintro e w4 ⟨rfl, rfl⟩
  go_wp2_with fail
  clear HKL HKG y0 y1
  have ipx : In px := by constructor <;> omega
  have ipy : In py := by constructor <;> omega
  have ile : In le := by constructor <;> omega
  have igr : In gr := by constructor <;> omega
  have itt : In tt := by constructor <;> omega
  have HBK := Keep.mk (fun W (h : Bd W (pt kb) L) q (iq : In q) => blocked_c W _ _ h px py q ipx ipy iq)
  have HSO := Keep.mk (fun W (h : Bd W (pt kb) L) => solid_c W _ _ h px py ipx ipy)
  have e0 : decide (blk L (px, py) 0) = decide (atL L (px, py) = 35) := by simp only [blk_low (L := L) (p := (px, py)) (h := 0) (by omega)]
  have e1 : decide (blk L (px, py) (-1)) = decide (atL L (px, py) = 35) := by simp only [blk_low (L := L) (p := (px, py)) (h := -1) (by omega)]
  have HC0 := Keep.mk (fun W (h : Bd W (pt kb) L) => e0 ▸ HBK.out W h 0 (by decide))
  have HC1 := Keep.mk (fun W (h : Bd W (pt kb) L) => e1 ▸ HBK.out W h (-1) (by decide))
  have HCT := Keep.mk (fun W (h : Bd W (pt kb) L) => HBK.out W h tt itt)
  have HC2 := Keep.mk (fun W (h : Bd W (pt kb) L) => HBK.out W h 2 (by decide))
  have HKT2 : Keep (∀ W, Calls Try.prog 18 #[iv h0, iv 1] W fun e w' => e = .returned (iv tt) ∧ W.grownBy w' none) := ⟨fun W => (HKT.out W).mono fun e w' q => ⟨q.1, by rw [q.2]; exact World.grownBy.refl _ _⟩⟩
  clear HKT e0 e1
  generalize decide (atL L (px, py) = 35) = b0 at HC0 HC1 HSO
  go_cut [77] from 48 to 77 (fun s wx => s = .bool false ∧ Keep (SG w w2 wx [boxA kp [iv px, iv py] 32, boxA kh [iv h0, iv h1] 42, boxA ka [iv ax, iv ay] 32]))
  case first =>
    by_cases hT : blk L (px, py) tt
    · have hT2 : blk L (px, py) 2 := blk_mono HE.out (by omega) (by omega) hT
      rw [decide_eq_true hT] at HCT
      rw [decide_eq_true hT2] at HC2
      clear hT hT2
      refine wp_region_held_drew (S := fun w' => SG w w2 w' [boxA kp [iv px, iv py] 32, boxA kh [iv h0, iv h1] 42, boxA ka [iv ax, iv ay] 32]) (by kernel_rfl) (HB.out.grown (gr_drew _ _)) (fun hHeld => ?_)
      replace HB := Keep.mk hHeld
      refine wpAnyH_take (i := 0) (oi := _) (v := ?_) rfl (by kernel_rfl) (by kernel_rfl) (by kernel_rfl) (fun _ _ _ h => h) (Or.inl ⟨by rfl, ?_⟩) (by assumption) ?_
      rotate_left
      · (intro w hSw; go_simp; first | done | (with_reducible rfl))
      simp only [Act.put, List.getElem_toArray, List.getElem_cons_zero, List.setIfInBounds_toArray, List.set_cons_zero, List.set_cons_succ]
      refine wpAnyH_take (i := 1) (oi := _) (v := ?_) rfl (by kernel_rfl) (by kernel_rfl) (by kernel_rfl) (fun _ _ _ h => h) (Or.inl ⟨by rfl, ?_⟩) (by assumption) ?_
      rotate_left
      · (intro w hSw; have q0 := (hSw.s.boxGet k0m).cellv 0 _ rfl; have q1 := (hSw.s.boxGet k0m).cellv 1 _ rfl; go_simp; first | done | (with_reducible rfl))
      simp only [Act.put, List.getElem_toArray, List.getElem_cons_succ, List.getElem_cons_zero, List.setIfInBounds_toArray, List.set_cons_zero, List.set_cons_succ]
      refine wpAnyH_take (i := 3) (oi := _) (v := ?_) rfl (by kernel_rfl) (by kernel_rfl) (by kernel_rfl) (fun _ _ _ h => h) (Or.inl ⟨by rfl, ?_⟩) (by assumption) ?_
      rotate_left
      · (intro w hSw; go_simp; first | done | (with_reducible rfl))
      simp only [Act.put, List.getElem_toArray, List.getElem_cons_succ, List.getElem_cons_zero, List.setIfInBounds_toArray, List.set_cons_zero, List.set_cons_succ]
      refine wpAnyH_take (i := 4) (oi := _) (v := ?_) rfl (by kernel_rfl) (by kernel_rfl) (by kernel_rfl) (fun _ _ _ h => h) (Or.inl ⟨by rfl, ?_⟩) (by assumption) ?_
      rotate_left
      · (intro w hSw; have q0 := (hSw.s.boxGet k0m).cellv 0 _ rfl; have q1 := (hSw.s.boxGet k0m).cellv 1 _ rfl; go_simp; first | done | (with_reducible rfl))
      simp only [Act.put, List.getElem_toArray, List.getElem_cons_succ, List.getElem_cons_zero, List.setIfInBounds_toArray, List.set_cons_zero, List.set_cons_succ]
      refine wpAnyH_ready (rs := [2]) (by kernel_rfl) (by simp) ?_
      refine AllReadyH.cons rfl (fun K hK => ?_) AllReadyH.nil
      go_simp
      refine (HC0.out _ (HBD.out.kept HB.out.g)).mono ?_
      rintro e wg ⟨rfl, hg⟩
      replace HB := Keep.mk (HB.out.grown hg)
      refine hK.out _ _ HB.out (fun hHeld => ?_)
      clear hK K hg
      refine wpAnyH_ready (rs := [5]) (by kernel_rfl) (by simp) ?_
      refine AllReadyH.cons rfl (fun K hK => ?_) AllReadyH.nil
      go_simp
      refine (HSO.out _ (HBD.out.kept HB.out.g)).mono ?_
      rintro e wg ⟨rfl, hg⟩
      replace HB := Keep.mk (HB.out.grown hg)
      refine hK.out _ _ HB.out (fun hHeld => ?_)
      clear hK K hg
      refine wpAnyH_take (i := 6) (oi := _) (v := ?_) rfl (by kernel_rfl) (by kernel_rfl) (by kernel_rfl) (fun _ _ _ h => h) (Or.inl ⟨by rfl, ?_⟩) (by assumption) ?_
      rotate_left
      · (intro w hSw; go_simp; first | done | (with_reducible rfl))
      simp only [Act.put, List.getElem_toArray, List.getElem_cons_succ, List.getElem_cons_zero, List.setIfInBounds_toArray, List.set_cons_zero, List.set_cons_succ]
      refine wpAnyH_take (i := 7) (oi := _) (v := ?_) rfl (by kernel_rfl) (by kernel_rfl) (by kernel_rfl) (fun _ _ _ h => h) (Or.inl ⟨by rfl, ?_⟩) (by assumption) ?_
      rotate_left
      · (intro w hSw; go_simp; first | done | (with_reducible rfl))
      simp only [Act.put, List.getElem_toArray, List.getElem_cons_succ, List.getElem_cons_zero, List.setIfInBounds_toArray, List.set_cons_zero, List.set_cons_succ]
      refine wpAnyH_take (i := 8) (oi := _) (v := ?_) rfl (by kernel_rfl) (by kernel_rfl) (by kernel_rfl) (fun _ _ _ h => h) (Or.inl ⟨by rfl, ?_⟩) (by assumption) ?_
      rotate_left
      · (intro w hSw; go_simp; first | done | (with_reducible rfl))
      simp only [Act.put, List.getElem_toArray, List.getElem_cons_succ, List.getElem_cons_zero, List.setIfInBounds_toArray, List.set_cons_zero, List.set_cons_succ]
      refine wpAnyH_take (i := 9) (oi := _) (v := ?_) rfl (by kernel_rfl) (by kernel_rfl) (by kernel_rfl) (fun _ _ _ h => h) (Or.inl ⟨by rfl, ?_⟩) (by assumption) ?_
      rotate_left
      · (intro w hSw; have q0 := (hSw.s.boxGet k0m).cellv 0 _ rfl; have q1 := (hSw.s.boxGet k0m).cellv 1 _ rfl; go_simp; first | done | (with_reducible rfl))
      simp only [Act.put, List.getElem_toArray, List.getElem_cons_succ, List.getElem_cons_zero, List.setIfInBounds_toArray, List.set_cons_zero, List.set_cons_succ]
      refine wpAnyH_take (i := 11) (oi := _) (v := ?_) rfl (by kernel_rfl) (by kernel_rfl) (by kernel_rfl) (fun _ _ _ h => h) (Or.inl ⟨by rfl, ?_⟩) (by assumption) ?_
      rotate_left
      · (intro w hSw; go_simp; first | done | (with_reducible rfl))
      simp only [Act.put, List.getElem_toArray, List.getElem_cons_succ, List.getElem_cons_zero, List.setIfInBounds_toArray, List.set_cons_zero, List.set_cons_succ]
      refine wpAnyH_take (i := 12) (oi := _) (v := ?_) rfl (by kernel_rfl) (by kernel_rfl) (by kernel_rfl) (fun _ _ _ h => h) (Or.inl ⟨by rfl, ?_⟩) (by assumption) ?_
      rotate_left
      · (intro w hSw; have q0 := (hSw.s.boxGet k0m).cellv 0 _ rfl; have q1 := (hSw.s.boxGet k0m).cellv 1 _ rfl; go_simp; first | done | (with_reducible rfl))
      simp only [Act.put, List.getElem_toArray, List.getElem_cons_succ, List.getElem_cons_zero, List.setIfInBounds_toArray, List.set_cons_zero, List.set_cons_succ]
      refine wpAnyH_ready (rs := [10]) (by kernel_rfl) (by simp) ?_
      refine AllReadyH.cons rfl (fun K hK => ?_) AllReadyH.nil
      go_simp
      refine (HC1.out _ (HBD.out.kept HB.out.g)).mono ?_
      rintro e wg ⟨rfl, hg⟩
      replace HB := Keep.mk (HB.out.grown hg)
      refine hK.out _ _ HB.out (fun hHeld => ?_)
      clear hK K hg
      refine wpAnyH_ready (rs := [13]) (by kernel_rfl) (by simp) ?_
      refine AllReadyH.cons rfl (fun K hK => ?_) AllReadyH.nil
      go_simp
      refine (HSO.out _ (HBD.out.kept HB.out.g)).mono ?_
      rintro e wg ⟨rfl, hg⟩
      replace HB := Keep.mk (HB.out.grown hg)
      refine hK.out _ _ HB.out (fun hHeld => ?_)
      clear hK K hg
      refine wpAnyH_take (i := 14) (oi := _) (v := ?_) rfl (by kernel_rfl) (by kernel_rfl) (by kernel_rfl) (fun _ _ _ h => h) (Or.inl ⟨by rfl, ?_⟩) (by assumption) ?_
      rotate_left
      · (intro w hSw; go_simp; first | done | (with_reducible rfl))
      simp only [Act.put, List.getElem_toArray, List.getElem_cons_succ, List.getElem_cons_zero, List.setIfInBounds_toArray, List.set_cons_zero, List.set_cons_succ]
      refine wpAnyH_take (i := 15) (oi := _) (v := ?_) rfl (by kernel_rfl) (by kernel_rfl) (by kernel_rfl) (fun _ _ _ h => h) (Or.inl ⟨by rfl, ?_⟩) (by assumption) ?_
      rotate_left
      · (intro w hSw; go_simp; first | done | (with_reducible rfl))
      simp only [Act.put, List.getElem_toArray, List.getElem_cons_succ, List.getElem_cons_zero, List.setIfInBounds_toArray, List.set_cons_zero, List.set_cons_succ]
      refine wpAnyH_take (i := 16) (oi := _) (v := ?_) rfl (by kernel_rfl) (by kernel_rfl) (by kernel_rfl) (fun _ _ _ h => h) (Or.inl ⟨by rfl, ?_⟩) (by assumption) ?_
      rotate_left
      · (intro w hSw; go_simp; first | done | (with_reducible rfl))
      simp only [Act.put, List.getElem_toArray, List.getElem_cons_succ, List.getElem_cons_zero, List.setIfInBounds_toArray, List.set_cons_zero, List.set_cons_succ]
      refine wpAnyH_take (i := 17) (oi := _) (v := ?_) rfl (by kernel_rfl) (by kernel_rfl) (by kernel_rfl) (fun _ _ _ h => h) (Or.inl ⟨by rfl, ?_⟩) (by assumption) ?_
      rotate_left
      · (intro w hSw; go_simp; first | done | (with_reducible rfl))
      simp only [Act.put, List.getElem_toArray, List.getElem_cons_succ, List.getElem_cons_zero, List.setIfInBounds_toArray, List.set_cons_zero, List.set_cons_succ]
      refine wpAnyH_take (i := 18) (oi := _) (v := ?_) rfl (by kernel_rfl) (by kernel_rfl) (by kernel_rfl) (fun _ _ _ h => h) (Or.inl ⟨by rfl, ?_⟩) (by assumption) ?_
      rotate_left
      · (intro w hSw; have q0 := (hSw.s.boxGet k0m).cellv 0 _ rfl; have q1 := (hSw.s.boxGet k0m).cellv 1 _ rfl; go_simp; first | done | (with_reducible rfl))
      simp only [Act.put, List.getElem_toArray, List.getElem_cons_succ, List.getElem_cons_zero, List.setIfInBounds_toArray, List.set_cons_zero, List.set_cons_succ]
      refine wpAnyH_take (i := 19) (oi := _) (v := ?_) rfl (by kernel_rfl) (by kernel_rfl) (by kernel_rfl) (fun _ _ _ h => h) (Or.inl ⟨by rfl, ?_⟩) (by assumption) ?_
      rotate_left
      · (intro w hSw; go_simp; first | done | (with_reducible rfl))
      simp only [Act.put, List.getElem_toArray, List.getElem_cons_succ, List.getElem_cons_zero, List.setIfInBounds_toArray, List.set_cons_zero, List.set_cons_succ]
      refine wpAnyH_take (i := 20) (oi := _) (v := ?_) rfl (by kernel_rfl) (by kernel_rfl) (by kernel_rfl) (fun _ _ _ h => h) (Or.inl ⟨by rfl, ?_⟩) (by assumption) ?_
      rotate_left
      · (intro w hSw; have q0 := (hSw.s.boxGet k1m).cellv 0 _ rfl; go_simp; first | done | (with_reducible rfl))
      simp only [Act.put, List.getElem_toArray, List.getElem_cons_succ, List.getElem_cons_zero, List.setIfInBounds_toArray, List.set_cons_zero, List.set_cons_succ]
      refine wpAnyH_ready (rs := [21]) (by kernel_rfl) (by simp) ?_
      refine AllReadyH.cons rfl (fun K hK => ?_) AllReadyH.nil
      go_simp
      refine (HKT2.out _).mono ?_
      rintro e wg ⟨rfl, hg⟩
      replace HB := Keep.mk (HB.out.grown hg)
      refine hK.out _ _ HB.out (fun hHeld => ?_)
      clear hK K hg
      refine wpAnyH_ready (rs := [22]) (by kernel_rfl) (by simp) ?_
      refine AllReadyH.cons rfl (fun K hK => ?_) AllReadyH.nil
      go_simp
      refine (HCT.out _ (HBD.out.kept HB.out.g)).mono ?_
      rintro e wg ⟨rfl, hg⟩
      replace HB := Keep.mk (HB.out.grown hg)
      refine hK.out _ _ HB.out (fun hHeld => ?_)
      clear hK K hg
      refine wpAnyH_take (i := 23) (oi := _) (v := ?_) rfl (by kernel_rfl) (by kernel_rfl) (by kernel_rfl) (fun _ _ _ h => h) (Or.inl ⟨by rfl, ?_⟩) (by assumption) ?_
      rotate_left
      · (intro w hSw; go_simp; first | done | (with_reducible rfl))
      simp only [Act.put, List.getElem_toArray, List.getElem_cons_succ, List.getElem_cons_zero, List.setIfInBounds_toArray, List.set_cons_zero, List.set_cons_succ]
      refine wpAnyH_take (i := 24) (oi := _) (v := ?_) rfl (by kernel_rfl) (by kernel_rfl) (by kernel_rfl) (fun _ _ _ h => h) (Or.inl ⟨by rfl, ?_⟩) (by assumption) ?_
      rotate_left
      · (intro w hSw; go_simp; first | done | (with_reducible rfl))
      simp only [Act.put, List.getElem_toArray, List.getElem_cons_succ, List.getElem_cons_zero, List.setIfInBounds_toArray, List.set_cons_zero, List.set_cons_succ]
      refine wpAnyH_take (i := 25) (oi := _) (v := ?_) rfl (by kernel_rfl) (by kernel_rfl) (by kernel_rfl) (fun _ _ _ h => h) (Or.inl ⟨by rfl, ?_⟩) (by assumption) ?_
      rotate_left
      · (intro w hSw; have q0 := (hSw.s.boxGet k0m).cellv 0 _ rfl; have q1 := (hSw.s.boxGet k0m).cellv 1 _ rfl; go_simp; first | done | (with_reducible rfl))
      simp only [Act.put, List.getElem_toArray, List.getElem_cons_succ, List.getElem_cons_zero, List.setIfInBounds_toArray, List.set_cons_zero, List.set_cons_succ]
      refine wpAnyH_ready (rs := [26]) (by kernel_rfl) (by simp) ?_
      refine AllReadyH.cons rfl (fun K hK => ?_) AllReadyH.nil
      go_simp
      refine (HC2.out _ (HBD.out.kept HB.out.g)).mono ?_
      rintro e wg ⟨rfl, hg⟩
      replace HB := Keep.mk (HB.out.grown hg)
      refine hK.out _ _ HB.out (fun hHeld => ?_)
      clear hK K hg
      refine wpAnyH_take (i := 27) (oi := _) (v := ?_) rfl (by kernel_rfl) (by kernel_rfl) (by kernel_rfl) (fun _ _ _ h => h) (Or.inl ⟨by rfl, ?_⟩) (by assumption) ?_
      rotate_left
      · (intro w hSw; go_simp; first | done | (with_reducible rfl))
      simp only [Act.put, List.getElem_toArray, List.getElem_cons_succ, List.getElem_cons_zero, List.setIfInBounds_toArray, List.set_cons_zero, List.set_cons_succ]
      refine wpAnyH_take (i := 28) (oi := _) (v := ?_) rfl (by kernel_rfl) (by kernel_rfl) (by kernel_rfl) (fun _ _ _ h => h) (Or.inl ⟨by rfl, ?_⟩) (by assumption) ?_
      rotate_left
      · (intro w hSw; go_simp; first | done | (with_reducible rfl))
      simp only [Act.put, List.getElem_toArray, List.getElem_cons_succ, List.getElem_cons_zero, List.setIfInBounds_toArray, List.set_cons_zero, List.set_cons_succ]
      refine wpAnyH_take (i := 29) (oi := _) (v := ?_) rfl (by kernel_rfl) (by kernel_rfl) (by kernel_rfl) (fun _ _ _ h => h) (Or.inl ⟨by rfl, ?_⟩) (by assumption) ?_
      rotate_left
      · (intro w hSw; go_simp; first | done | (with_reducible rfl))
      simp only [Act.put, List.getElem_toArray, List.getElem_cons_succ, List.getElem_cons_zero, List.setIfInBounds_toArray, List.set_cons_zero, List.set_cons_succ]
      refine wpAnyH_done (by kernel_rfl) ?_ _
      go_wp2_with fail
      go_meet
      exact ⟨rfl, HB⟩
    · rw [decide_eq_false hT] at HCT
      clear hT
      refine wp_region_held_drew (S := fun w' => SG w w2 w' [boxA kp [iv px, iv py] 32, boxA kh [iv h0, iv h1] 42, boxA ka [iv ax, iv ay] 32]) (by kernel_rfl) (HB.out.grown (gr_drew _ _)) (fun hHeld => ?_)
      replace HB := Keep.mk hHeld
      refine wpAnyH_take (i := 0) (oi := _) (v := ?_) rfl (by kernel_rfl) (by kernel_rfl) (by kernel_rfl) (fun _ _ _ h => h) (Or.inl ⟨by rfl, ?_⟩) (by assumption) ?_
      rotate_left
      · (intro w hSw; go_simp; first | done | (with_reducible rfl))
      simp only [Act.put, List.getElem_toArray, List.getElem_cons_zero, List.setIfInBounds_toArray, List.set_cons_zero, List.set_cons_succ]
      refine wpAnyH_take (i := 1) (oi := _) (v := ?_) rfl (by kernel_rfl) (by kernel_rfl) (by kernel_rfl) (fun _ _ _ h => h) (Or.inl ⟨by rfl, ?_⟩) (by assumption) ?_
      rotate_left
      · (intro w hSw; have q0 := (hSw.s.boxGet k0m).cellv 0 _ rfl; have q1 := (hSw.s.boxGet k0m).cellv 1 _ rfl; go_simp; first | done | (with_reducible rfl))
      simp only [Act.put, List.getElem_toArray, List.getElem_cons_succ, List.getElem_cons_zero, List.setIfInBounds_toArray, List.set_cons_zero, List.set_cons_succ]
      refine wpAnyH_take (i := 3) (oi := _) (v := ?_) rfl (by kernel_rfl) (by kernel_rfl) (by kernel_rfl) (fun _ _ _ h => h) (Or.inl ⟨by rfl, ?_⟩) (by assumption) ?_
      rotate_left
      · (intro w hSw; go_simp; first | done | (with_reducible rfl))
      simp only [Act.put, List.getElem_toArray, List.getElem_cons_succ, List.getElem_cons_zero, List.setIfInBounds_toArray, List.set_cons_zero, List.set_cons_succ]
      refine wpAnyH_take (i := 4) (oi := _) (v := ?_) rfl (by kernel_rfl) (by kernel_rfl) (by kernel_rfl) (fun _ _ _ h => h) (Or.inl ⟨by rfl, ?_⟩) (by assumption) ?_
      rotate_left
      · (intro w hSw; have q0 := (hSw.s.boxGet k0m).cellv 0 _ rfl; have q1 := (hSw.s.boxGet k0m).cellv 1 _ rfl; go_simp; first | done | (with_reducible rfl))
      simp only [Act.put, List.getElem_toArray, List.getElem_cons_succ, List.getElem_cons_zero, List.setIfInBounds_toArray, List.set_cons_zero, List.set_cons_succ]
      refine wpAnyH_ready (rs := [2]) (by kernel_rfl) (by simp) ?_
      refine AllReadyH.cons rfl (fun K hK => ?_) AllReadyH.nil
      go_simp
      refine (HC0.out _ (HBD.out.kept HB.out.g)).mono ?_
      rintro e wg ⟨rfl, hg⟩
      replace HB := Keep.mk (HB.out.grown hg)
      refine hK.out _ _ HB.out (fun hHeld => ?_)
      clear hK K hg
      refine wpAnyH_ready (rs := [5]) (by kernel_rfl) (by simp) ?_
      refine AllReadyH.cons rfl (fun K hK => ?_) AllReadyH.nil
      go_simp
      refine (HSO.out _ (HBD.out.kept HB.out.g)).mono ?_
      rintro e wg ⟨rfl, hg⟩
      replace HB := Keep.mk (HB.out.grown hg)
      refine hK.out _ _ HB.out (fun hHeld => ?_)
      clear hK K hg
      refine wpAnyH_take (i := 6) (oi := _) (v := ?_) rfl (by kernel_rfl) (by kernel_rfl) (by kernel_rfl) (fun _ _ _ h => h) (Or.inl ⟨by rfl, ?_⟩) (by assumption) ?_
      rotate_left
      · (intro w hSw; go_simp; first | done | (with_reducible rfl))
      simp only [Act.put, List.getElem_toArray, List.getElem_cons_succ, List.getElem_cons_zero, List.setIfInBounds_toArray, List.set_cons_zero, List.set_cons_succ]
      refine wpAnyH_take (i := 7) (oi := _) (v := ?_) rfl (by kernel_rfl) (by kernel_rfl) (by kernel_rfl) (fun _ _ _ h => h) (Or.inl ⟨by rfl, ?_⟩) (by assumption) ?_
      rotate_left
      · (intro w hSw; go_simp; first | done | (with_reducible rfl))
      simp only [Act.put, List.getElem_toArray, List.getElem_cons_succ, List.getElem_cons_zero, List.setIfInBounds_toArray, List.set_cons_zero, List.set_cons_succ]
      refine wpAnyH_take (i := 8) (oi := _) (v := ?_) rfl (by kernel_rfl) (by kernel_rfl) (by kernel_rfl) (fun _ _ _ h => h) (Or.inl ⟨by rfl, ?_⟩) (by assumption) ?_
      rotate_left
      · (intro w hSw; go_simp; first | done | (with_reducible rfl))
      simp only [Act.put, List.getElem_toArray, List.getElem_cons_succ, List.getElem_cons_zero, List.setIfInBounds_toArray, List.set_cons_zero, List.set_cons_succ]
      refine wpAnyH_take (i := 9) (oi := _) (v := ?_) rfl (by kernel_rfl) (by kernel_rfl) (by kernel_rfl) (fun _ _ _ h => h) (Or.inl ⟨by rfl, ?_⟩) (by assumption) ?_
      rotate_left
      · (intro w hSw; have q0 := (hSw.s.boxGet k0m).cellv 0 _ rfl; have q1 := (hSw.s.boxGet k0m).cellv 1 _ rfl; go_simp; first | done | (with_reducible rfl))
      simp only [Act.put, List.getElem_toArray, List.getElem_cons_succ, List.getElem_cons_zero, List.setIfInBounds_toArray, List.set_cons_zero, List.set_cons_succ]
      refine wpAnyH_take (i := 11) (oi := _) (v := ?_) rfl (by kernel_rfl) (by kernel_rfl) (by kernel_rfl) (fun _ _ _ h => h) (Or.inl ⟨by rfl, ?_⟩) (by assumption) ?_
      rotate_left
      · (intro w hSw; go_simp; first | done | (with_reducible rfl))
      simp only [Act.put, List.getElem_toArray, List.getElem_cons_succ, List.getElem_cons_zero, List.setIfInBounds_toArray, List.set_cons_zero, List.set_cons_succ]
      refine wpAnyH_take (i := 12) (oi := _) (v := ?_) rfl (by kernel_rfl) (by kernel_rfl) (by kernel_rfl) (fun _ _ _ h => h) (Or.inl ⟨by rfl, ?_⟩) (by assumption) ?_
      rotate_left
      · (intro w hSw; have q0 := (hSw.s.boxGet k0m).cellv 0 _ rfl; have q1 := (hSw.s.boxGet k0m).cellv 1 _ rfl; go_simp; first | done | (with_reducible rfl))
      simp only [Act.put, List.getElem_toArray, List.getElem_cons_succ, List.getElem_cons_zero, List.setIfInBounds_toArray, List.set_cons_zero, List.set_cons_succ]
      refine wpAnyH_ready (rs := [10]) (by kernel_rfl) (by simp) ?_
      refine AllReadyH.cons rfl (fun K hK => ?_) AllReadyH.nil
      go_simp
      refine (HC1.out _ (HBD.out.kept HB.out.g)).mono ?_
      rintro e wg ⟨rfl, hg⟩
      replace HB := Keep.mk (HB.out.grown hg)
      refine hK.out _ _ HB.out (fun hHeld => ?_)
      clear hK K hg
      refine wpAnyH_ready (rs := [13]) (by kernel_rfl) (by simp) ?_
      refine AllReadyH.cons rfl (fun K hK => ?_) AllReadyH.nil
      go_simp
      refine (HSO.out _ (HBD.out.kept HB.out.g)).mono ?_
      rintro e wg ⟨rfl, hg⟩
      replace HB := Keep.mk (HB.out.grown hg)
      refine hK.out _ _ HB.out (fun hHeld => ?_)
      clear hK K hg
      refine wpAnyH_take (i := 14) (oi := _) (v := ?_) rfl (by kernel_rfl) (by kernel_rfl) (by kernel_rfl) (fun _ _ _ h => h) (Or.inl ⟨by rfl, ?_⟩) (by assumption) ?_
      rotate_left
      · (intro w hSw; go_simp; first | done | (with_reducible rfl))
      simp only [Act.put, List.getElem_toArray, List.getElem_cons_succ, List.getElem_cons_zero, List.setIfInBounds_toArray, List.set_cons_zero, List.set_cons_succ]
      refine wpAnyH_take (i := 15) (oi := _) (v := ?_) rfl (by kernel_rfl) (by kernel_rfl) (by kernel_rfl) (fun _ _ _ h => h) (Or.inl ⟨by rfl, ?_⟩) (by assumption) ?_
      rotate_left
      · (intro w hSw; go_simp; first | done | (with_reducible rfl))
      simp only [Act.put, List.getElem_toArray, List.getElem_cons_succ, List.getElem_cons_zero, List.setIfInBounds_toArray, List.set_cons_zero, List.set_cons_succ]
      refine wpAnyH_take (i := 16) (oi := _) (v := ?_) rfl (by kernel_rfl) (by kernel_rfl) (by kernel_rfl) (fun _ _ _ h => h) (Or.inl ⟨by rfl, ?_⟩) (by assumption) ?_
      rotate_left
      · (intro w hSw; go_simp; first | done | (with_reducible rfl))
      simp only [Act.put, List.getElem_toArray, List.getElem_cons_succ, List.getElem_cons_zero, List.setIfInBounds_toArray, List.set_cons_zero, List.set_cons_succ]
      refine wpAnyH_take (i := 17) (oi := _) (v := ?_) rfl (by kernel_rfl) (by kernel_rfl) (by kernel_rfl) (fun _ _ _ h => h) (Or.inl ⟨by rfl, ?_⟩) (by assumption) ?_
      rotate_left
      · (intro w hSw; go_simp; first | done | (with_reducible rfl))
      simp only [Act.put, List.getElem_toArray, List.getElem_cons_succ, List.getElem_cons_zero, List.setIfInBounds_toArray, List.set_cons_zero, List.set_cons_succ]
      refine wpAnyH_take (i := 18) (oi := _) (v := ?_) rfl (by kernel_rfl) (by kernel_rfl) (by kernel_rfl) (fun _ _ _ h => h) (Or.inl ⟨by rfl, ?_⟩) (by assumption) ?_
      rotate_left
      · (intro w hSw; have q0 := (hSw.s.boxGet k0m).cellv 0 _ rfl; have q1 := (hSw.s.boxGet k0m).cellv 1 _ rfl; go_simp; first | done | (with_reducible rfl))
      simp only [Act.put, List.getElem_toArray, List.getElem_cons_succ, List.getElem_cons_zero, List.setIfInBounds_toArray, List.set_cons_zero, List.set_cons_succ]
      refine wpAnyH_take (i := 19) (oi := _) (v := ?_) rfl (by kernel_rfl) (by kernel_rfl) (by kernel_rfl) (fun _ _ _ h => h) (Or.inl ⟨by rfl, ?_⟩) (by assumption) ?_
      rotate_left
      · (intro w hSw; go_simp; first | done | (with_reducible rfl))
      simp only [Act.put, List.getElem_toArray, List.getElem_cons_succ, List.getElem_cons_zero, List.setIfInBounds_toArray, List.set_cons_zero, List.set_cons_succ]
      refine wpAnyH_take (i := 20) (oi := _) (v := ?_) rfl (by kernel_rfl) (by kernel_rfl) (by kernel_rfl) (fun _ _ _ h => h) (Or.inl ⟨by rfl, ?_⟩) (by assumption) ?_
      rotate_left
      · (intro w hSw; have q0 := (hSw.s.boxGet k1m).cellv 0 _ rfl; go_simp; first | done | (with_reducible rfl))
      simp only [Act.put, List.getElem_toArray, List.getElem_cons_succ, List.getElem_cons_zero, List.setIfInBounds_toArray, List.set_cons_zero, List.set_cons_succ]
      refine wpAnyH_ready (rs := [21]) (by kernel_rfl) (by simp) ?_
      refine AllReadyH.cons rfl (fun K hK => ?_) AllReadyH.nil
      go_simp
      refine (HKT2.out _).mono ?_
      rintro e wg ⟨rfl, hg⟩
      replace HB := Keep.mk (HB.out.grown hg)
      refine hK.out _ _ HB.out (fun hHeld => ?_)
      clear hK K hg
      refine wpAnyH_ready (rs := [22]) (by kernel_rfl) (by simp) ?_
      refine AllReadyH.cons rfl (fun K hK => ?_) AllReadyH.nil
      go_simp
      refine (HCT.out _ (HBD.out.kept HB.out.g)).mono ?_
      rintro e wg ⟨rfl, hg⟩
      replace HB := Keep.mk (HB.out.grown hg)
      refine hK.out _ _ HB.out (fun hHeld => ?_)
      clear hK K hg
      refine wpAnyH_take (i := 23) (oi := _) (v := ?_) rfl (by kernel_rfl) (by kernel_rfl) (by kernel_rfl) (fun _ _ _ h => h) (Or.inl ⟨by rfl, ?_⟩) (by assumption) ?_
      rotate_left
      · (intro w hSw; go_simp; first | done | (with_reducible rfl))
      simp only [Act.put, List.getElem_toArray, List.getElem_cons_succ, List.getElem_cons_zero, List.setIfInBounds_toArray, List.set_cons_zero, List.set_cons_succ]
      refine wpAnyH_take (i := 24) (oi := _) (v := undef) rfl (by kernel_rfl) (by kernel_rfl) (by kernel_rfl) (fun _ _ _ h => h) (Or.inr ⟨by rfl, rfl⟩) (by assumption) ?_
      simp only [Act.put, List.getElem_toArray, List.getElem_cons_succ, List.getElem_cons_zero, List.setIfInBounds_toArray, List.set_cons_zero, List.set_cons_succ]
      refine wpAnyH_take (i := 25) (oi := _) (v := undef) rfl (by kernel_rfl) (by kernel_rfl) (by kernel_rfl) (fun _ _ _ h => h) (Or.inr ⟨by rfl, rfl⟩) (by assumption) ?_
      simp only [Act.put, List.getElem_toArray, List.getElem_cons_succ, List.getElem_cons_zero, List.setIfInBounds_toArray, List.set_cons_zero, List.set_cons_succ]
      refine wpAnyH_take (i := 26) (oi := _) (v := undef) rfl (by kernel_rfl) (by kernel_rfl) (by kernel_rfl) (fun _ _ _ h => h) (Or.inr ⟨by rfl, rfl⟩) (by assumption) ?_
      simp only [Act.put, List.getElem_toArray, List.getElem_cons_succ, List.getElem_cons_zero, List.setIfInBounds_toArray, List.set_cons_zero, List.set_cons_succ]
      refine wpAnyH_take (i := 27) (oi := _) (v := undef) rfl (by kernel_rfl) (by kernel_rfl) (by kernel_rfl) (fun _ _ _ h => h) (Or.inr ⟨by rfl, rfl⟩) (by assumption) ?_
      simp only [Act.put, List.getElem_toArray, List.getElem_cons_succ, List.getElem_cons_zero, List.setIfInBounds_toArray, List.set_cons_zero, List.set_cons_succ]
      refine wpAnyH_take (i := 28) (oi := _) (v := ?_) rfl (by kernel_rfl) (by kernel_rfl) (by kernel_rfl) (fun _ _ _ h => h) (Or.inl ⟨by rfl, ?_⟩) (by assumption) ?_
      rotate_left
      · (intro w hSw; go_simp; first | done | (with_reducible rfl))
      simp only [Act.put, List.getElem_toArray, List.getElem_cons_succ, List.getElem_cons_zero, List.setIfInBounds_toArray, List.set_cons_zero, List.set_cons_succ]
      refine wpAnyH_take (i := 29) (oi := _) (v := ?_) rfl (by kernel_rfl) (by kernel_rfl) (by kernel_rfl) (fun _ _ _ h => h) (Or.inl ⟨by rfl, ?_⟩) (by assumption) ?_
      rotate_left
      · (intro w hSw; go_simp; first | done | (with_reducible rfl))
      simp only [Act.put, List.getElem_toArray, List.getElem_cons_succ, List.getElem_cons_zero, List.setIfInBounds_toArray, List.set_cons_zero, List.set_cons_succ]
      refine wpAnyH_done (by kernel_rfl) ?_ _
      go_wp2_with fail
      go_meet
      exact ⟨rfl, HB⟩
  case rest =>
  obtain ⟨rfl, HB3⟩ := hcut
  replace HB := HB3
  clear HB3 HC0 HC1 HCT HC2 HKT2 HSO
  by_cases hle : le < 1
  · go_wp2_with fail
    go_ret
    exact ⟨rfl, HB.out.s.g⟩
  by_cases hgl : gr < le
  · go_wp2_with fail
    go_ret
    exact ⟨rfl, HB.out.s.g⟩
  have z0 := (HB.out.s.boxGet k0m).cellv 0 _ rfl
  have a1 : IntKind.i64.wrap (px - le) = px - le := wi _ (by omega) (by omega)
  have a2 : IntKind.i64.wrap (px + le) = px + le := wi _ (by omega) (by omega)
  have a3 : IntKind.i64.wrap (px + le - 1) = px + le - 1 := wi _ (by omega) (by omega)
  have a4 : IntKind.i64.wrap (py - le) = py - le := wi _ (by omega) (by omega)
  have a5 : IntKind.i64.wrap (py + le) = py + le := wi _ (by omega) (by omega)
  have a6 : IntKind.i64.wrap (py + le - 1) = py + le - 1 := wi _ (by omega) (by omega)
  have HBIG := Keep.mk (fun W (h : Bd W (pt kb) L) => (decide_eq_true (blk_out (L := L) (p := (px, py)) (h := 4611686018427387904) (by omega) (.inl (by unfold hld; simp only; omega)))) ▸ HBK.out W h 4611686018427387904 (by decide))
  have HFX := Keep.mk (fun W (h : Bd W (pt kb) L) => (decide_eq_true (blk_out (L := L) (p := (4611686018427387904, py)) (h := le) (by omega) (.inl (by unfold hld; have := HE.out.2.1.2; simp only; omega)))) ▸ blocked_c W _ _ h 4611686018427387904 py le (by decide) ipy ile)
  have HFY := Keep.mk (fun W (h : Bd W (pt kb) L) => (decide_eq_true (blk_out (L := L) (p := (px, -9223372036854775808)) (h := 9223372036854775807) (by omega) (.inr (by unfold hld; simp only; omega)))) ▸ blocked_c W _ _ h px (-9223372036854775808) 9223372036854775807 ipx (by decide) (by decide))
  clear ipx ipy itt
  go_wp2_with fail
  clear z0
  go_loopw [12, 13] (fun u12 u wr => ∃ (x : Int) (sd : Bool), u = iv x ∧ u12 = .bool sd ∧ px - le ≤ x ∧ x ≤ px + le ∧ Keep (SG w w2 wr [boxA kp [iv px, iv py] 32, boxA kh [iv h0, iv h1] 42, boxA ka [iv ax, iv ay] 32]) ∧ Keep (sd = true → blk L (px, py) le) ∧ Keep (sd = false → ∀ x' y', px - le ≤ x' → x' < x → py - le ≤ y' → y' ≤ py + le - 1 → atL L (x', y') ≠ 35)) (fun _ u _ => (px + le - intOf u).toNat)
  case atStart => exact ⟨px - le, false, rfl, rfl, by omega, by omega, HB, ⟨fun h => by cases h⟩, ⟨fun _ x' y' q1 q2 => by omega⟩⟩
  case round =>
    clear HB
    obtain ⟨x, sd, rfl, rfl, hx0, hx1, HB, HT, HF⟩ := hrel
    have z0 := (HB.out.s.boxGet k0m).cellv 0 _ rfl
    have z1 := (HB.out.s.boxGet k0m).cellv 1 _ rfl
    cases sd with
    | true =>
      have hbk := HT.out (by trivial)
      clear HT HF
      by_cases hlt : x < px + le
      · go_wp2_with fail
        clear z0 z1
        have hgr : blk L (px, py) gr := blk_mono HE.out (by omega) (by omega) hbk
        have HLE := Keep.mk (fun W (h : Bd W (pt kb) L) => (decide_eq_true hbk) ▸ HBK.out W h le ile)
        have HGR := Keep.mk (fun W (h : Bd W (pt kb) L) => (decide_eq_true hgr) ▸ HBK.out W h gr igr)
        clear hbk hgr
        have z0 := (HB.out.s.boxGet k0m).cellv 0 _ rfl
        have z1 := (HB.out.s.boxGet k0m).cellv 1 _ rfl
        go_wp2_with fail
        refine (HLE.out _ (HBD.out.kept HB.out.g)).mono ?_
        rintro e wq1 ⟨rfl, gq⟩
        replace HB := Keep.mk (HB.out.grown gq)
        clear gq z0 z1
        have z0 := (HB.out.s.boxGet k0m).cellv 0 _ rfl
        have z1 := (HB.out.s.boxGet k0m).cellv 1 _ rfl
        go_wp2_with fail
        refine (HGR.out _ (HBD.out.kept HB.out.g)).mono ?_
        rintro e wq2 ⟨rfl, gq⟩
        replace HB := Keep.mk (HB.out.grown gq)
        clear gq z0 z1
        have z0 := (HB.out.s.boxGet k0m).cellv 0 _ rfl
        have z1 := (HB.out.s.boxGet k0m).cellv 1 _ rfl
        go_wp2_with fail
        refine (HGR.out _ (HBD.out.kept HB.out.g)).mono ?_
        rintro e wq3 ⟨rfl, gq⟩
        replace HB := Keep.mk (HB.out.grown gq)
        clear gq z0 z1
        have z0 := (HB.out.s.boxGet k0m).cellv 0 _ rfl
        have z1 := (HB.out.s.boxGet k0m).cellv 1 _ rfl
        go_wp2_with fail
        refine (HBIG.out _ (HBD.out.kept HB.out.g)).mono ?_
        rintro e wq4 ⟨rfl, gq⟩
        replace HB := Keep.mk (HB.out.grown gq)
        clear gq z0 z1
        have z0 := (HB.out.s.boxGet k0m).cellv 0 _ rfl
        have z1 := (HB.out.s.boxGet k0m).cellv 1 _ rfl
        go_wp2_with fail
        refine (HFX.out _ (HBD.out.kept HB.out.g)).mono ?_
        rintro e wq5 ⟨rfl, gq⟩
        replace HB := Keep.mk (HB.out.grown gq)
        clear gq z0 z1
        have z0 := (HB.out.s.boxGet k0m).cellv 0 _ rfl
        have z1 := (HB.out.s.boxGet k0m).cellv 1 _ rfl
        go_wp2_with fail
        refine (HFY.out _ (HBD.out.kept HB.out.g)).mono ?_
        rintro e wz ⟨rfl, gz⟩
        have HGZ := Keep.mk ((HB.out.grown gz).s.g)
        clear gz z0 z1
        go_wp2_with fail
        go_ret
        exact ⟨rfl, HGZ.out⟩
      · go_wp2_with fail
        clear z0 z1
        have hgr : blk L (px, py) gr := blk_mono HE.out (by omega) (by omega) hbk
        have HLE := Keep.mk (fun W (h : Bd W (pt kb) L) => (decide_eq_true hbk) ▸ HBK.out W h le ile)
        have HGR := Keep.mk (fun W (h : Bd W (pt kb) L) => (decide_eq_true hgr) ▸ HBK.out W h gr igr)
        clear hbk hgr
        have z0 := (HB.out.s.boxGet k0m).cellv 0 _ rfl
        have z1 := (HB.out.s.boxGet k0m).cellv 1 _ rfl
        go_wp2_with fail
        refine (HLE.out _ (HBD.out.kept HB.out.g)).mono ?_
        rintro e wq1 ⟨rfl, gq⟩
        replace HB := Keep.mk (HB.out.grown gq)
        clear gq z0 z1
        have z0 := (HB.out.s.boxGet k0m).cellv 0 _ rfl
        have z1 := (HB.out.s.boxGet k0m).cellv 1 _ rfl
        go_wp2_with fail
        refine (HGR.out _ (HBD.out.kept HB.out.g)).mono ?_
        rintro e wq2 ⟨rfl, gq⟩
        replace HB := Keep.mk (HB.out.grown gq)
        clear gq z0 z1
        have z0 := (HB.out.s.boxGet k0m).cellv 0 _ rfl
        have z1 := (HB.out.s.boxGet k0m).cellv 1 _ rfl
        go_wp2_with fail
        refine (HGR.out _ (HBD.out.kept HB.out.g)).mono ?_
        rintro e wq3 ⟨rfl, gq⟩
        replace HB := Keep.mk (HB.out.grown gq)
        clear gq z0 z1
        have z0 := (HB.out.s.boxGet k0m).cellv 0 _ rfl
        have z1 := (HB.out.s.boxGet k0m).cellv 1 _ rfl
        go_wp2_with fail
        refine (HBIG.out _ (HBD.out.kept HB.out.g)).mono ?_
        rintro e wq4 ⟨rfl, gq⟩
        replace HB := Keep.mk (HB.out.grown gq)
        clear gq z0 z1
        have z0 := (HB.out.s.boxGet k0m).cellv 0 _ rfl
        have z1 := (HB.out.s.boxGet k0m).cellv 1 _ rfl
        go_wp2_with fail
        refine (HFX.out _ (HBD.out.kept HB.out.g)).mono ?_
        rintro e wq5 ⟨rfl, gq⟩
        replace HB := Keep.mk (HB.out.grown gq)
        clear gq z0 z1
        have z0 := (HB.out.s.boxGet k0m).cellv 0 _ rfl
        have z1 := (HB.out.s.boxGet k0m).cellv 1 _ rfl
        go_wp2_with fail
        refine (HFY.out _ (HBD.out.kept HB.out.g)).mono ?_
        rintro e wz ⟨rfl, gz⟩
        have HGZ := Keep.mk ((HB.out.grown gz).s.g)
        clear gz z0 z1
        go_wp2_with fail
        go_ret
        exact ⟨rfl, HGZ.out⟩
    | false =>
      by_cases hlt : x < px + le
      · go_wp2_with fail
        clear z0 z1 HT
        go_loopw [12, 14] (fun u12 u wr => ∃ (y : Int) (sd : Bool), u = iv y ∧ u12 = .bool sd ∧ py - le ≤ y ∧ y ≤ py + le ∧ Keep (SG w w2 wr [boxA kp [iv px, iv py] 32, boxA kh [iv h0, iv h1] 42, boxA ka [iv ax, iv ay] 32]) ∧ Keep (sd = true → blk L (px, py) le) ∧ Keep (sd = false → ∀ y', py - le ≤ y' → y' < y → atL L (x, y') ≠ 35)) (fun _ u _ => (py + le - intOf u).toNat)
        case atStart => exact ⟨py - le, false, rfl, rfl, by omega, by omega, HB, ⟨fun h => by cases h⟩, ⟨fun _ y' q1 q2 => by omega⟩⟩
        case round =>
          clear HB
          obtain ⟨y, sd, rfl, rfl, hy0, hy1, HB, HT, HI⟩ := hrel
          have z0 := (HB.out.s.boxGet k0m).cellv 0 _ rfl
          have z1 := (HB.out.s.boxGet k0m).cellv 1 _ rfl
          cases sd with
          | true =>
            have HN := Keep.mk (fun W => next_c W x (px + le - 1) (by omega) (by omega))
            have hn : x < nx x (px + le - 1) ∧ nx x (px + le - 1) ≤ px + le := by
              by_cases q : px + le - 1 ≤ x
              · rw [nx_end q]; omega
              · have := nx_mid (x := x) (last := px + le - 1) (by omega); omega
            generalize nx x (px + le - 1) = xn at *
            have HBK2 := HT
            clear HI HF
            by_cases hyt : y < py + le
            · go_wp2_with fail
              refine (HN.out _).mono ?_
              rintro e w5 ⟨rfl, rfl⟩
              go_wp2_with fail
              go_roundw
              case rel => exact ⟨xn, true, rfl, rfl, by omega, by omega, HB, ⟨fun _ => HBK2.out (by trivial)⟩, ⟨fun h => by cases h⟩⟩
              case measure => simp [intOf]; omega
            · go_wp2_with fail
              refine (HN.out _).mono ?_
              rintro e w5 ⟨rfl, rfl⟩
              go_wp2_with fail
              go_roundw
              case rel => exact ⟨xn, true, rfl, rfl, by omega, by omega, HB, ⟨fun _ => HBK2.out (by trivial)⟩, ⟨fun h => by cases h⟩⟩
              case measure => simp [intOf]; omega
          | false =>
            by_cases hyt : y < py + le
            · have hS := solid_c _ _ _ (HBD.out.kept HB.out.g) x y (by constructor <;> omega) (by constructor <;> omega)
              have HN := Keep.mk (fun W => next_c W y (py + le - 1) (by omega) (by omega))
              have hn : y < nx y (py + le - 1) ∧ nx y (py + le - 1) ≤ py + le ∧ ∀ z, y ≤ z → z < nx y (py + le - 1) → nm z = nm y := by
                by_cases q : py + le - 1 ≤ y
                · rw [nx_end q]
                  exact ⟨by omega, by omega, fun z h1 h2 => by rw [show z = y by omega]⟩
                · have := nx_mid (x := y) (last := py + le - 1) (by omega)
                  exact ⟨this.1, by omega, this.2.2⟩
              generalize nx y (py + le - 1) = yn at *
              obtain ⟨hn1, hn2, hn3⟩ := hn
              have HN3 := Keep.mk hn3
              clear hn3 HT
              by_cases h35 : atL L (x, y) = 35
              · have HBK2 : Keep (blk L (px, py) le) := ⟨place_blk (p := (px, py)) (by omega) hx0 (by simp only; omega) hy0 (by simp only; omega) h35⟩
                rw [decide_eq_true h35] at hS
                clear h35 HI
                go_wp2_with fail
                refine hS.mono ?_
                rintro e w5 ⟨rfl, g5⟩
                replace HB := Keep.mk (HB.out.grown g5)
                clear hS g5 z0 z1
                have z0 := (HB.out.s.boxGet k0m).cellv 0 _ rfl
                have z1 := (HB.out.s.boxGet k0m).cellv 1 _ rfl
                go_wp2_with fail
                refine (HN.out _).mono ?_
                rintro e w6 ⟨rfl, rfl⟩
                go_wp2_with fail
                go_roundw
                case rel => exact ⟨yn, true, rfl, rfl, by omega, by omega, HB, ⟨fun _ => HBK2.out⟩, ⟨fun h => by cases h⟩⟩
                case measure => simp [intOf]; omega
              · have HI2 : Keep (∀ y', py - le ≤ y' → y' < yn → atL L (x, y') ≠ 35) := ⟨fun y' q1 q2 => by
                  by_cases q : y' < y
                  · exact HI.out (by trivial) y' q1 q
                  · rw [at_same2 (HN3.out y' (by omega) q2)]; exact h35⟩
                rw [decide_eq_false h35] at hS
                clear h35 HI
                go_wp2_with fail
                refine hS.mono ?_
                rintro e w5 ⟨rfl, g5⟩
                replace HB := Keep.mk (HB.out.grown g5)
                clear hS g5 z0 z1
                have z0 := (HB.out.s.boxGet k0m).cellv 0 _ rfl
                have z1 := (HB.out.s.boxGet k0m).cellv 1 _ rfl
                go_wp2_with fail
                refine (HN.out _).mono ?_
                rintro e w6 ⟨rfl, rfl⟩
                go_wp2_with fail
                go_roundw
                case rel => exact ⟨yn, false, rfl, rfl, by omega, by omega, HB, ⟨fun h => by cases h⟩, ⟨fun _ => HI2.out⟩⟩
                case measure => simp [intOf]; omega
            · have HN := Keep.mk (fun W => next_c W x (px + le - 1) (by omega) (by omega))
              have hn : x < nx x (px + le - 1) ∧ nx x (px + le - 1) ≤ px + le ∧ ∀ z, x ≤ z → z < nx x (px + le - 1) → nm z = nm x := by
                by_cases q : px + le - 1 ≤ x
                · rw [nx_end q]
                  exact ⟨by omega, by omega, fun z h1 h2 => by rw [show z = x by omega]⟩
                · have := nx_mid (x := x) (last := px + le - 1) (by omega)
                  exact ⟨this.1, by omega, this.2.2⟩
              generalize nx x (px + le - 1) = xn at *
              obtain ⟨hn1, hn2, hn3⟩ := hn
              have HF2 : Keep (∀ x' y', px - le ≤ x' → x' < xn → py - le ≤ y' → y' ≤ py + le - 1 → atL L (x', y') ≠ 35) := ⟨fun x' y' q1 q2 q3 q4 => by
                by_cases q : x' < x
                · exact HF.out (by trivial) x' y' q1 q q3 q4
                · rw [at_same (hn3 x' (by omega) q2)]; exact HI.out (by trivial) y' q3 (by omega)⟩
              clear hn3 HT HI HF
              go_wp2_with fail
              refine (HN.out _).mono ?_
              rintro e w5 ⟨rfl, rfl⟩
              go_wp2_with fail
              go_roundw
              case rel => exact ⟨xn, false, rfl, rfl, by omega, by omega, HB, ⟨fun h => by cases h⟩, ⟨fun _ => HF2.out⟩⟩
              case measure => simp [intOf]; omega
      · have hbk : ¬ blk L (px, py) le := fun q => by
          obtain ⟨x', y', q1, q2, q3, q4, q5⟩ := blk_place HE.out (by omega) q
          exact HF.out (by trivial) x' y' q1 (by simp only at q2; omega) q3 q4 q5
        clear HT HF
        go_wp2_with fail
        clear z0 z1
        have HLE := Keep.mk (fun W (h : Bd W (pt kb) L) => (decide_eq_false hbk) ▸ HBK.out W h le ile)
        by_cases hgr : blk L (px, py) gr
        · have HGR := Keep.mk (fun W (h : Bd W (pt kb) L) => (decide_eq_true hgr) ▸ HBK.out W h gr igr)
          clear hbk hgr
          have z0 := (HB.out.s.boxGet k0m).cellv 0 _ rfl
          have z1 := (HB.out.s.boxGet k0m).cellv 1 _ rfl
          go_wp2_with fail
          refine (HLE.out _ (HBD.out.kept HB.out.g)).mono ?_
          rintro e wq1 ⟨rfl, gq⟩
          replace HB := Keep.mk (HB.out.grown gq)
          clear gq z0 z1
          have z0 := (HB.out.s.boxGet k0m).cellv 0 _ rfl
          have z1 := (HB.out.s.boxGet k0m).cellv 1 _ rfl
          go_wp2_with fail
          refine (HGR.out _ (HBD.out.kept HB.out.g)).mono ?_
          rintro e wq2 ⟨rfl, gq⟩
          replace HB := Keep.mk (HB.out.grown gq)
          clear gq z0 z1
          have z0 := (HB.out.s.boxGet k0m).cellv 0 _ rfl
          have z1 := (HB.out.s.boxGet k0m).cellv 1 _ rfl
          go_wp2_with fail
          refine (HBIG.out _ (HBD.out.kept HB.out.g)).mono ?_
          rintro e wq3 ⟨rfl, gq⟩
          replace HB := Keep.mk (HB.out.grown gq)
          clear gq z0 z1
          have z0 := (HB.out.s.boxGet k0m).cellv 0 _ rfl
          have z1 := (HB.out.s.boxGet k0m).cellv 1 _ rfl
          go_wp2_with fail
          refine (HFX.out _ (HBD.out.kept HB.out.g)).mono ?_
          rintro e wq4 ⟨rfl, gq⟩
          replace HB := Keep.mk (HB.out.grown gq)
          clear gq z0 z1
          have z0 := (HB.out.s.boxGet k0m).cellv 0 _ rfl
          have z1 := (HB.out.s.boxGet k0m).cellv 1 _ rfl
          go_wp2_with fail
          refine (HFY.out _ (HBD.out.kept HB.out.g)).mono ?_
          rintro e wz ⟨rfl, gz⟩
          have HGZ := Keep.mk ((HB.out.grown gz).s.g)
          clear gz z0 z1
          go_wp2_with fail
          go_ret
          exact ⟨rfl, HGZ.out⟩
        · have hon : ¬ blk L (px, py) 1 := fun q => hgr (blk_mono HE.out (by omega) (by omega) q)
          have HGR := Keep.mk (fun W (h : Bd W (pt kb) L) => (decide_eq_false hgr) ▸ HBK.out W h gr igr)
          have HON := Keep.mk (fun W (h : Bd W (pt kb) L) => (decide_eq_false hon) ▸ HBK.out W h 1 (by decide))
          clear hbk hgr hon
          have z0 := (HB.out.s.boxGet k0m).cellv 0 _ rfl
          have z1 := (HB.out.s.boxGet k0m).cellv 1 _ rfl
          go_wp2_with fail
          refine (HLE.out _ (HBD.out.kept HB.out.g)).mono ?_
          rintro e wq1 ⟨rfl, gq⟩
          replace HB := Keep.mk (HB.out.grown gq)
          clear gq z0 z1
          have z0 := (HB.out.s.boxGet k0m).cellv 0 _ rfl
          have z1 := (HB.out.s.boxGet k0m).cellv 1 _ rfl
          go_wp2_with fail
          refine (HGR.out _ (HBD.out.kept HB.out.g)).mono ?_
          rintro e wq2 ⟨rfl, gq⟩
          replace HB := Keep.mk (HB.out.grown gq)
          clear gq z0 z1
          have z0 := (HB.out.s.boxGet k0m).cellv 0 _ rfl
          have z1 := (HB.out.s.boxGet k0m).cellv 1 _ rfl
          go_wp2_with fail
          refine (HON.out _ (HBD.out.kept HB.out.g)).mono ?_
          rintro e wq3 ⟨rfl, gq⟩
          replace HB := Keep.mk (HB.out.grown gq)
          clear gq z0 z1
          have z0 := (HB.out.s.boxGet k0m).cellv 0 _ rfl
          have z1 := (HB.out.s.boxGet k0m).cellv 1 _ rfl
          go_wp2_with fail
          refine (HBIG.out _ (HBD.out.kept HB.out.g)).mono ?_
          rintro e wq4 ⟨rfl, gq⟩
          replace HB := Keep.mk (HB.out.grown gq)
          clear gq z0 z1
          have z0 := (HB.out.s.boxGet k0m).cellv 0 _ rfl
          have z1 := (HB.out.s.boxGet k0m).cellv 1 _ rfl
          go_wp2_with fail
          refine (HFX.out _ (HBD.out.kept HB.out.g)).mono ?_
          rintro e wq5 ⟨rfl, gq⟩
          replace HB := Keep.mk (HB.out.grown gq)
          clear gq z0 z1
          have z0 := (HB.out.s.boxGet k0m).cellv 0 _ rfl
          have z1 := (HB.out.s.boxGet k0m).cellv 1 _ rfl
          go_wp2_with fail
          refine (HFY.out _ (HBD.out.kept HB.out.g)).mono ?_
          rintro e wz ⟨rfl, gz⟩
          have HGZ := Keep.mk ((HB.out.grown gz).s.g)
          clear gz z0 z1
          go_wp2_with fail
          go_ret
          exact ⟨rfl, HGZ.out⟩
end Go.Proofs.Ytglnmmifedlgmaa
