import Derived.Test.YtplcicbpkbamnabGreatDoorX41
import Derived.Test.YtplcicbpkbamnabGreatDoorX42
/- LobbyPlays: plays, whole -/
namespace Go.Proofs.YtplcicbpkbamnabGreatDoor.Lo
open Go Go.RowKit Go.Maps

set_option maxRecDepth 100000 in
theorem under40o : ∃ d, Tryz.prog.underlying 40 = some d ∧ d.isRow = true := ⟨_, Tryz.underlying40, rfl⟩
set_option maxRecDepth 100000 in
theorem info40o : (Tryz.prog.info? 40).map (·.size) = some 10 := by kernel_rfl
set_option maxRecDepth 100000 in
set_option maxHeartbeats 16000000 in
theorem play_6 (w0 W : World) (l : List As) (lb kb : Nat) (X : Lb) (Y : Rl) (o : Opr) (hk : o.kd = 6) (h : Sep w0 W (lobA lb X :: rlobA kb Y :: l)) (bt : Bt X Y) (os : OpS o) (wc : Wc w0) :
    Calls Tryz.prog 7 #[pt lb, pt kb, .agg (opv o).toArray] W (PlQ w0 lb kb X Y (expX X o.tick) l) := by
  have S1 := h.newBox (opv o).toArray 40
  obtain ⟨W1, hW1⟩ : ∃ W1, W.alloc (.cells (opv o).toArray 40) = W1 := ⟨_, rfl⟩
  obtain ⟨ob, hob⟩ : ∃ ob, W.heap.size = ob := ⟨_, rfl⟩
  rw [hW1, hob] at S1
  change Sep w0 W1 (boxA ob (opv o) 40 :: lobA lb X :: rlobA kb Y :: l) at S1
  have hlen : Y.S.length ≤ 1000000 := by have := bt.len; omega
  have hob' := S1.boxGet k0m
  have hkc : ∀ W' l', Sep w0 W' l' → Na.Kc W' := fun W' l' hh => wc.n.kept hh.g
  have c0 : W1.cell? ⟨ob, 0, none⟩ = some (iv 6) := by rw [← hk]; exact hob'.cellv 0 _ rfl
  obtain ⟨du, hdu, hdr⟩ := under40o
  have hL := lists_6 w0 W1 (boxA ob (opv o) 40 :: l) lb kb X Y o hk (rot3 S1) bt os
  have RNG := Keep.mk hob'.range
  have HLN : Keep ((opv o).length = 10) := ⟨rfl⟩
  clear h S1 hob' bt os wc hkc hlen hk
  generalize opv o = ol at hW1 hL RNG HLN ⊢
  go_enter Tryz.func7, Tryz.ntmps7
  go_wp2_with (first
    | (show wpList _ _ _ ({ dst := _, op := Op.load 40 _, type := _, pos := _, after := _, guard := _ } :: _) _ _
       refine wpList_load_mid rfl 40 _ rfl _ _ rfl _ _ RNG.out hdu hdr (by rw [HLN.out]; exact info40o) ?_))
  refine hL.mono ?_
  rintro e w2 ⟨rfl, Y', S2, hq⟩
  have HF : Keep (∃ Y', Sep w0 w2 (lobA lb (expX X o.tick) :: rlobA kb Y' :: l) ∧ Rel (expX X o.tick) Y' ∧ Y'.S.length ≤ Y.S.length + 1 ∧ ∀ m, (∀ x ∈ Y.S, x.L.length ≤ m) → ∀ x ∈ Y'.S, x.L.length ≤ m + 1) := ⟨Y', S2.third.tail, hq⟩
  clear hL S2 hq RNG c0 hW1
  go_wp2_with fail
  go_ret
  exact ⟨rfl, HF.out⟩
set_option maxRecDepth 100000 in
set_option maxHeartbeats 16000000 in
theorem play_12 (w0 W : World) (l : List As) (lb kb : Nat) (X : Lb) (Y : Rl) (o : Opr) (hk : o.kd = 12) (h : Sep w0 W (lobA lb X :: rlobA kb Y :: l)) (bt : Bt X Y) (os : OpS o) (wc : Wc w0) :
    Calls Tryz.prog 7 #[pt lb, pt kb, .agg (opv o).toArray] W (PlQ w0 lb kb X Y (X) l) := by
  have S1 := h.newBox (opv o).toArray 40
  obtain ⟨W1, hW1⟩ : ∃ W1, W.alloc (.cells (opv o).toArray 40) = W1 := ⟨_, rfl⟩
  obtain ⟨ob, hob⟩ : ∃ ob, W.heap.size = ob := ⟨_, rfl⟩
  rw [hW1, hob] at S1
  change Sep w0 W1 (boxA ob (opv o) 40 :: lobA lb X :: rlobA kb Y :: l) at S1
  have hlen : Y.S.length ≤ 1000000 := by have := bt.len; omega
  have hob' := S1.boxGet k0m
  have hkc : ∀ W' l', Sep w0 W' l' → Na.Kc W' := fun W' l' hh => wc.n.kept hh.g
  have c0 : W1.cell? ⟨ob, 0, none⟩ = some (iv 12) := by rw [← hk]; exact hob'.cellv 0 _ rfl
  obtain ⟨du, hdu, hdr⟩ := under40o
  have hL := lists_12 w0 W1 (boxA ob (opv o) 40 :: l) lb kb X Y o hk (rot3 S1) bt os
  have RNG := Keep.mk hob'.range
  have HLN : Keep ((opv o).length = 10) := ⟨rfl⟩
  clear h S1 hob' bt os wc hkc hlen hk
  generalize opv o = ol at hW1 hL RNG HLN ⊢
  go_enter Tryz.func7, Tryz.ntmps7
  go_wp2_with (first
    | (show wpList _ _ _ ({ dst := _, op := Op.load 40 _, type := _, pos := _, after := _, guard := _ } :: _) _ _
       refine wpList_load_mid rfl 40 _ rfl _ _ rfl _ _ RNG.out hdu hdr (by rw [HLN.out]; exact info40o) ?_))
  refine hL.mono ?_
  rintro e w2 ⟨rfl, Y', S2, hq⟩
  have HF : Keep (∃ Y', Sep w0 w2 (lobA lb (X) :: rlobA kb Y' :: l) ∧ Rel (X) Y' ∧ Y'.S.length ≤ Y.S.length + 1 ∧ ∀ m, (∀ x ∈ Y.S, x.L.length ≤ m) → ∀ x ∈ Y'.S, x.L.length ≤ m + 1) := ⟨Y', S2.third.tail, hq⟩
  clear hL S2 hq RNG c0 hW1
  go_wp2_with fail
  go_ret
  exact ⟨rfl, HF.out⟩
/-- plays, whatever the call -/
theorem plays_all (w0 W : World) (l : List As) (lb kb : Nat) (X : Lb) (Y : Rl) (o : Opr) (h : Sep w0 W (lobA lb X :: rlobA kb Y :: l)) (bt : Bt X Y) (os : OpS o) (wc : Wc w0) :
    Calls Tryz.prog 7 #[pt lb, pt kb, .agg (opv o).toArray] W (PlQ w0 lb kb X Y (actX X o) l) := by
  have key : ∀ X', Calls Tryz.prog 7 #[pt lb, pt kb, .agg (opv o).toArray] W (PlQ w0 lb kb X Y X' l) → actX X o = X' → Calls Tryz.prog 7 #[pt lb, pt kb, .agg (opv o).toArray] W (PlQ w0 lb kb X Y (actX X o) l) := fun X' hc e => by rw [e]; exact hc
  by_cases h0 : 1 ≤ o.kd ∧ o.kd ≤ 12
  · have hc : o.kd = 1 ∨ o.kd = 2 ∨ o.kd = 3 ∨ o.kd = 4 ∨ o.kd = 5 ∨ o.kd = 6 ∨ o.kd = 7 ∨ o.kd = 8 ∨ o.kd = 9 ∨ o.kd = 10 ∨ o.kd = 11 ∨ o.kd = 12 := by omega
    rcases hc with hk | hk | hk | hk | hk | hk | hk | hk | hk | hk | hk | hk
    · exact key _ (play_1 w0 W l lb kb X Y o hk h bt os wc) (by unfold actX; simp [hk])
    · exact key _ (play_2 w0 W l lb kb X Y o hk h bt os wc) (by unfold actX; simp [hk])
    · exact key _ (play_3 w0 W l lb kb X Y o hk h bt os wc) (by unfold actX; simp [hk])
    · exact key _ (play_4 w0 W l lb kb X Y o hk h bt os wc) (by unfold actX; simp [hk])
    · exact key _ (play_5 w0 W l lb kb X Y o hk h bt os wc) (by unfold actX; simp [hk])
    · exact key _ (play_6 w0 W l lb kb X Y o hk h bt os wc) (by unfold actX; simp [hk])
    · exact key _ (play_7 w0 W l lb kb X Y o hk h bt os wc) (by unfold actX; simp [hk])
    · exact key _ (play_8 w0 W l lb kb X Y o hk h bt os wc) (by unfold actX; simp [hk])
    · exact key _ (play_9 w0 W l lb kb X Y o hk h bt os wc) (by unfold actX; simp [hk])
    · exact key _ (play_10 w0 W l lb kb X Y o hk h bt os wc) (by unfold actX; simp [hk])
    · exact key _ (play_11 w0 W l lb kb X Y o hk h bt os wc) (by unfold actX; simp [hk])
    · exact key _ (play_12 w0 W l lb kb X Y o hk h bt os wc) (by unfold actX; simp [hk])
  · exact key _ (play_n w0 W l lb kb X Y o h0 h bt os wc) (by
      unfold actX
      rw [if_neg (by omega), if_neg (by omega), if_neg (by omega), if_neg (by omega), if_neg (by omega), if_neg (by omega)])
theorem act_idle (X : Lb) (o : Opr) : (actX X o).idle = X.idle := by
  unfold actX
  split
  · unfold joiX; split <;> rfl
  split
  · unfold acpX; cases fds X o.ses <;> rfl
  split
  · unfold levX; cases fds X o.ses <;> rfl
  split
  · rfl
  split
  · rfl
  split
  · unfold sntX; cases fds X o.ses <;> rfl
  · rfl
/-- and the two are fine behind it -/
theorem Bt.act {X : Lb} {Y Y' : Rl} {o : Opr} (bt : Bt X Y) (os : OpS o) (hr : Rel (actX X o) Y') (hn : Y'.S.length ≤ Y.S.length + 1) (hl : Y.S.length < 1000) (hm : ∀ x ∈ Y'.S, x.L.length < 900) : Bt (actX X o) Y' :=
  ⟨hr, bt.ok.act os.ok (by have := bt.rel.next; omega), bt.up.act bt.ok, by omega, hm, by
    have e : (actX X o).A = X.A := act_A
    rw [e]; exact bt.nm, by
    have e : (actX X o).idle = X.idle := act_idle X o
    rw [e]; exact bt.idle⟩
end Go.Proofs.YtplcicbpkbamnabGreatDoor.Lo

