/- car: a car is moved -/
import Derived.Test.YtobdcngjpgndiabDoorC2
import Derived.Test.YtobdcngjpgndiabDoorBA3
import Derived.Test.YtobdcngjpgndiabDoorR2
namespace Go.Proofs.YtobdcngjpgndiabDoor.Bo
open Go Go.RowKit

theorem addZ_in (a b : Int) : In (addZ a b) := by
  unfold addZ
  rw [bd_eq]
  split
  · exact ⟨by omega, by omega⟩
  · split
    · exact ⟨by omega, by omega⟩
    · exact ⟨by omega, by omega⟩
theorem in_of16 {s : Int} (h : -65536 ≤ s ∧ s ≤ 65536) : In s := ⟨by omega, by omega⟩
set_option maxRecDepth 100000 in
set_option maxHeartbeats 8000000 in
theorem move_c (w0 W : World) (l : List As) (db : Nat) (v : Value) (L : Bo) (c : Cr) (i : It) (p : Int) (x y : Int) (o : Nat) (s : Int) (h : Sep w0 W (boxA db (dcs v c i p) 54 :: l)) (hB : Bd w0 v L) (hx : In x) (hy : In y) (ho : (dcs v c i p)[o]? = some (iv s)) (hs : -65536 ≤ s ∧ s ≤ 65536) :
    Calls Tryd.prog 53 #[pt db, vv x y, .pointer (some ⟨db, o, none⟩)] W fun e W' => e = .returned (.tuple #[]) ∧ Sep w0 W' (boxA db (if blk L (x, y) 98304 then (dcs v c i p).set o (iv (-(s / 2))) else dcs v { c with x := x, y := y } i p) 54 :: l) := by
  have S1 := h.newBox #[iv x, iv y] 23
  obtain ⟨W1, hW1⟩ : ∃ W1, W.alloc (.cells #[iv x, iv y] 23) = W1 := ⟨_, rfl⟩
  obtain ⟨tb, htb⟩ : ∃ tb, W.heap.size = tb := ⟨_, rfl⟩
  rw [hW1, htb] at S1
  have HB := Keep.mk S1
  have HBL := Keep.mk (fun W' (g : w0.grownBy W' none) => blocked_c W' v L (hB.kept g) x y 98304 hx hy (by decide))
  have HO := Keep.mk ho
  have k1 : IntKind.i64.wrap (-(s / 2)) = -(s / 2) := wi _ (by omega) (by omega)
  clear S1 h hx hy hB ho
  by_cases hb : blk L (x, y) 98304
  · rw [if_pos hb]
    rw [decide_eq_true hb] at HBL
    clear hb
    go_enter Tryd.func53, Tryd.ntmps53
    go_wp2_with fail
    refine region_X (S := fun w' => Sep w0 w' (boxA tb [iv x, iv y] 23 :: boxA db (dcs v c i p) 54 :: l)) [] (by kernel_rfl) (HB.out.grown (gr_drew _ _)) (fun hHeld => ?_)
    replace HB := Keep.mk hHeld
    refine wpAnyX_take (i := 0) (oi := _) (v := ?_) rfl (by kernel_rfl) (by kernel_rfl) (by kernel_rfl) (by kernel_rfl) (by kernel_rfl) (fun _ _ _ h => h) (Or.inl ⟨by rfl, ?_⟩) (by assumption) ?_
    rotate_left
    · (intro w hSw; go_simp; first | done | (with_reducible rfl))
    simp only [Act.put, List.getElem_toArray, List.getElem_cons_zero, List.setIfInBounds_toArray, List.set_cons_zero, List.set_cons_succ]
    refine wpAnyX_take (i := 1) (oi := _) (v := ?_) rfl (by kernel_rfl) (by kernel_rfl) (by kernel_rfl) (by kernel_rfl) (by kernel_rfl) (fun _ _ _ h => h) (Or.inl ⟨by rfl, ?_⟩) (by assumption) ?_
    rotate_left
    · (intro w hSw; go_simp; first | done | (with_reducible rfl))
    simp only [Act.put, List.getElem_toArray, List.getElem_cons_succ, List.getElem_cons_zero, List.setIfInBounds_toArray, List.set_cons_zero, List.set_cons_succ]
    refine wpAnyX_take (i := 2) (oi := _) (v := ?_) rfl (by kernel_rfl) (by kernel_rfl) (by kernel_rfl) (by kernel_rfl) (by kernel_rfl) (fun _ _ _ h => h) (Or.inl ⟨by rfl, ?_⟩) (by assumption) ?_
    rotate_left
    · (intro w hSw; go_simp; first | done | (with_reducible rfl))
    simp only [Act.put, List.getElem_toArray, List.getElem_cons_succ, List.getElem_cons_zero, List.setIfInBounds_toArray, List.set_cons_zero, List.set_cons_succ]
    refine wpAnyX_take (i := 3) (oi := _) (v := ?_) rfl (by kernel_rfl) (by kernel_rfl) (by kernel_rfl) (by kernel_rfl) (by kernel_rfl) (fun _ _ _ h => h) (Or.inl ⟨by rfl, ?_⟩) (by assumption) ?_
    rotate_left
    · (intro w hSw; have q0 := (hSw.boxGet k1m).cellv 0 _ rfl; go_simp; first | done | (with_reducible rfl))
    simp only [Act.put, List.getElem_toArray, List.getElem_cons_succ, List.getElem_cons_zero, List.setIfInBounds_toArray, List.set_cons_zero, List.set_cons_succ]
    refine wpAnyX_take (i := 4) (oi := _) (v := ?_) rfl (by kernel_rfl) (by kernel_rfl) (by kernel_rfl) (by kernel_rfl) (by kernel_rfl) (fun _ _ _ h => h) (Or.inl ⟨by rfl, ?_⟩) (by assumption) ?_
    rotate_left
    · (intro w hSw; have q0 := (hSw.boxGet k0m).cellv 0 _ rfl; have q1 := (hSw.boxGet k0m).cellv 1 _ rfl; go_simp; first | done | (with_reducible rfl))
    simp only [Act.put, List.getElem_toArray, List.getElem_cons_succ, List.getElem_cons_zero, List.setIfInBounds_toArray, List.set_cons_zero, List.set_cons_succ]
    refine wpAnyX_one (i := 5) (by kernel_rfl) rfl (fun K hK => ?_)
    go_simp
    refine (HBL.out _ HB.out.g).mono ?_
    rintro e wg ⟨rfl, hg⟩
    replace HB := Keep.mk (HB.out.grown hg)
    refine hK.out _ _ HB.out (fun hHeld => ?_)
    clear hK K hg
    refine wpAnyX_done (by kernel_rfl) ?_ _
    have S2 := HB.out.swap
    have ys : wg.cell? ⟨db, o, none⟩ = some (iv s) := (S2.boxGet k0m).cellv o _ HO.out
    have fs : wg.frozen? ⟨db, o, none⟩ = false := (S2.boxGet k0m).frozen o
    have HS := Keep.mk (S2.boxPut o (iv (-(s / 2)))).swap.tail
    clear HB S2 hHeld hW1 htb
    go_wp2_with fail
    exact ret_0 rfl rfl ⟨rfl, HS.out⟩
  · rw [if_neg hb]
    rw [decide_eq_false hb] at HBL
    clear hb
    go_enter Tryd.func53, Tryd.ntmps53
    go_wp2_with fail
    refine region_X (S := fun w' => Sep w0 w' (boxA tb [iv x, iv y] 23 :: boxA db (dcs v c i p) 54 :: l)) [] (by kernel_rfl) (HB.out.grown (gr_drew _ _)) (fun hHeld => ?_)
    replace HB := Keep.mk hHeld
    refine wpAnyX_take (i := 0) (oi := _) (v := ?_) rfl (by kernel_rfl) (by kernel_rfl) (by kernel_rfl) (by kernel_rfl) (by kernel_rfl) (fun _ _ _ h => h) (Or.inl ⟨by rfl, ?_⟩) (by assumption) ?_
    rotate_left
    · (intro w hSw; go_simp; first | done | (with_reducible rfl))
    simp only [Act.put, List.getElem_toArray, List.getElem_cons_zero, List.setIfInBounds_toArray, List.set_cons_zero, List.set_cons_succ]
    refine wpAnyX_take (i := 1) (oi := _) (v := ?_) rfl (by kernel_rfl) (by kernel_rfl) (by kernel_rfl) (by kernel_rfl) (by kernel_rfl) (fun _ _ _ h => h) (Or.inl ⟨by rfl, ?_⟩) (by assumption) ?_
    rotate_left
    · (intro w hSw; go_simp; first | done | (with_reducible rfl))
    simp only [Act.put, List.getElem_toArray, List.getElem_cons_succ, List.getElem_cons_zero, List.setIfInBounds_toArray, List.set_cons_zero, List.set_cons_succ]
    refine wpAnyX_take (i := 2) (oi := _) (v := ?_) rfl (by kernel_rfl) (by kernel_rfl) (by kernel_rfl) (by kernel_rfl) (by kernel_rfl) (fun _ _ _ h => h) (Or.inl ⟨by rfl, ?_⟩) (by assumption) ?_
    rotate_left
    · (intro w hSw; go_simp; first | done | (with_reducible rfl))
    simp only [Act.put, List.getElem_toArray, List.getElem_cons_succ, List.getElem_cons_zero, List.setIfInBounds_toArray, List.set_cons_zero, List.set_cons_succ]
    refine wpAnyX_take (i := 3) (oi := _) (v := ?_) rfl (by kernel_rfl) (by kernel_rfl) (by kernel_rfl) (by kernel_rfl) (by kernel_rfl) (fun _ _ _ h => h) (Or.inl ⟨by rfl, ?_⟩) (by assumption) ?_
    rotate_left
    · (intro w hSw; have q0 := (hSw.boxGet k1m).cellv 0 _ rfl; go_simp; first | done | (with_reducible rfl))
    simp only [Act.put, List.getElem_toArray, List.getElem_cons_succ, List.getElem_cons_zero, List.setIfInBounds_toArray, List.set_cons_zero, List.set_cons_succ]
    refine wpAnyX_take (i := 4) (oi := _) (v := ?_) rfl (by kernel_rfl) (by kernel_rfl) (by kernel_rfl) (by kernel_rfl) (by kernel_rfl) (fun _ _ _ h => h) (Or.inl ⟨by rfl, ?_⟩) (by assumption) ?_
    rotate_left
    · (intro w hSw; have q0 := (hSw.boxGet k0m).cellv 0 _ rfl; have q1 := (hSw.boxGet k0m).cellv 1 _ rfl; go_simp; first | done | (with_reducible rfl))
    simp only [Act.put, List.getElem_toArray, List.getElem_cons_succ, List.getElem_cons_zero, List.setIfInBounds_toArray, List.set_cons_zero, List.set_cons_succ]
    refine wpAnyX_one (i := 5) (by kernel_rfl) rfl (fun K hK => ?_)
    go_simp
    refine (HBL.out _ HB.out.g).mono ?_
    rintro e wg ⟨rfl, hg⟩
    replace HB := Keep.mk (HB.out.grown hg)
    refine hK.out _ _ HB.out (fun hHeld => ?_)
    clear hK K hg
    refine wpAnyX_done (by kernel_rfl) ?_ _
    have S2 := HB.out.swap
    have q0 : wg.cell? ⟨tb, 0, none⟩ = some (iv x) := (S2.boxGet k1m).cellv 0 _ rfl
    have q1 : wg.cell? ⟨tb, 1, none⟩ = some (iv y) := (S2.boxGet k1m).cellv 1 _ rfl
    have y3 : wg.cell? ⟨db, 3, none⟩ = some (iv c.x) := (S2.boxGet k0m).cellv 3 _ rfl
    have f3 : wg.frozen? ⟨db, 3, none⟩ = false := (S2.boxGet k0m).frozen 3
    have y4 : wg.cell? ⟨db, 4, none⟩ = some (iv c.y) := (S2.boxGet k0m).cellv 4 _ rfl
    have f4 : wg.frozen? ⟨db, 4, none⟩ = false := (S2.boxGet k0m).frozen 4
    have S3 := S2.boxPut 3 (iv x)
    obtain ⟨w2, hw2⟩ : ∃ w2, wg.setCell ⟨db, 3, none⟩ (iv x) = w2 := ⟨_, rfl⟩
    rw [hw2] at S3
    have z4 : w2.cell? ⟨db, 4, none⟩ = some (iv c.y) := (S3.boxGet k0m).cellv 4 _ rfl
    have g4 : w2.frozen? ⟨db, 4, none⟩ = false := (S3.boxGet k0m).frozen 4
    have HS := Keep.mk (S3.boxPut 4 (iv y)).swap.tail
    clear HB S2 S3 hHeld hW1 htb
    go_wp2_with fail
    exact end_0 rfl rfl ⟨rfl, HS.out⟩
set_option maxRecDepth 100000 in
set_option maxHeartbeats 8000000 in
theorem moveX_c (w0 W : World) (l : List As) (db : Nat) (v : Value) (L : Bo) (c : Cr) (i : It) (p : Int) (h : Sep w0 W (boxA db (dcs v c i p) 54 :: l)) (hB : Bd w0 v L) (hx : In c.x) (hy : In c.y) (hs : -65536 ≤ c.sx ∧ c.sx ≤ 65536) :
    Calls Tryd.prog 28 #[pt db] W fun e W' => e = .returned (.tuple #[]) ∧ Sep w0 W' (boxA db (dcs v (stX L c) i p) 54 :: l) := by
  have z3 : W.cell? ⟨db, 3, none⟩ = some (iv c.x) := (h.boxGet k0m).cellv 3 _ rfl
  have z4 : W.cell? ⟨db, 4, none⟩ = some (iv c.y) := (h.boxGet k0m).cellv 4 _ rfl
  have S1 := h.newBox #[iv c.x, iv c.y] 23
  obtain ⟨W1, hW1⟩ : ∃ W1, W.alloc (.cells #[iv c.x, iv c.y] 23) = W1 := ⟨_, rfl⟩
  obtain ⟨tb, htb⟩ : ∃ tb, W.heap.size = tb := ⟨_, rfl⟩
  rw [hW1, htb] at S1
  have HB := Keep.mk S1
  have HBD := Keep.mk hB
  have hin := addZ_in c.x c.sx
  have HIN : Keep (In (addZ c.x c.sx) ∧ In c.y ∧ -65536 ≤ c.sx ∧ c.sx ≤ 65536) := ⟨hin, hy, hs⟩
  have HAD := Keep.mk (fun w => add_c c.x c.sx hx (in_of16 hs) w)
  clear S1 h hx hy hB hs hin
  go_enter Tryd.func28, Tryd.ntmps28
  go_wp2_with fail
  refine region_X (S := fun w' => Sep w0 w' (boxA tb [iv c.x, iv c.y] 23 :: boxA db (dcs v c i p) 54 :: l)) [10] (by kernel_rfl) (HB.out.grown (gr_drew _ _)) (fun hHeld => ?_)
  replace HB := Keep.mk hHeld
  refine wpAnyX_take (i := 0) (oi := _) (v := ?_) rfl (by kernel_rfl) (by kernel_rfl) (by kernel_rfl) (by kernel_rfl) (by kernel_rfl) (fun _ _ _ h => h) (Or.inl ⟨by rfl, ?_⟩) (by assumption) ?_
  rotate_left
  · (intro w hSw; go_simp; first | done | (with_reducible rfl))
  simp only [Act.put, List.getElem_toArray, List.getElem_cons_zero, List.setIfInBounds_toArray, List.set_cons_zero, List.set_cons_succ]
  refine wpAnyX_take (i := 1) (oi := _) (v := ?_) rfl (by kernel_rfl) (by kernel_rfl) (by kernel_rfl) (by kernel_rfl) (by kernel_rfl) (fun _ _ _ h => h) (Or.inl ⟨by rfl, ?_⟩) (by assumption) ?_
  rotate_left
  · (intro w hSw; have q0 := (hSw.boxGet k0m).cellv 0 _ rfl; go_simp; first | done | (with_reducible rfl))
  simp only [Act.put, List.getElem_toArray, List.getElem_cons_succ, List.getElem_cons_zero, List.setIfInBounds_toArray, List.set_cons_zero, List.set_cons_succ]
  refine wpAnyX_take (i := 2) (oi := _) (v := ?_) rfl (by kernel_rfl) (by kernel_rfl) (by kernel_rfl) (by kernel_rfl) (by kernel_rfl) (fun _ _ _ h => h) (Or.inl ⟨by rfl, ?_⟩) (by assumption) ?_
  rotate_left
  · (intro w hSw; go_simp; first | done | (with_reducible rfl))
  simp only [Act.put, List.getElem_toArray, List.getElem_cons_succ, List.getElem_cons_zero, List.setIfInBounds_toArray, List.set_cons_zero, List.set_cons_succ]
  refine wpAnyX_take (i := 3) (oi := _) (v := ?_) rfl (by kernel_rfl) (by kernel_rfl) (by kernel_rfl) (by kernel_rfl) (by kernel_rfl) (fun _ _ _ h => h) (Or.inl ⟨by rfl, ?_⟩) (by assumption) ?_
  rotate_left
  · (intro w hSw; go_simp; first | done | (with_reducible rfl))
  simp only [Act.put, List.getElem_toArray, List.getElem_cons_succ, List.getElem_cons_zero, List.setIfInBounds_toArray, List.set_cons_zero, List.set_cons_succ]
  refine wpAnyX_take (i := 4) (oi := _) (v := ?_) rfl (by kernel_rfl) (by kernel_rfl) (by kernel_rfl) (by kernel_rfl) (by kernel_rfl) (fun _ _ _ h => h) (Or.inl ⟨by rfl, ?_⟩) (by assumption) ?_
  rotate_left
  · (intro w hSw; go_simp; first | done | (with_reducible rfl))
  simp only [Act.put, List.getElem_toArray, List.getElem_cons_succ, List.getElem_cons_zero, List.setIfInBounds_toArray, List.set_cons_zero, List.set_cons_succ]
  refine wpAnyX_take (i := 5) (oi := _) (v := ?_) rfl (by kernel_rfl) (by kernel_rfl) (by kernel_rfl) (by kernel_rfl) (by kernel_rfl) (fun _ _ _ h => h) (Or.inl ⟨by rfl, ?_⟩) (by assumption) ?_
  rotate_left
  · (intro w hSw; go_simp; first | done | (with_reducible rfl))
  simp only [Act.put, List.getElem_toArray, List.getElem_cons_succ, List.getElem_cons_zero, List.setIfInBounds_toArray, List.set_cons_zero, List.set_cons_succ]
  refine wpAnyX_take (i := 6) (oi := _) (v := ?_) rfl (by kernel_rfl) (by kernel_rfl) (by kernel_rfl) (by kernel_rfl) (by kernel_rfl) (fun _ _ _ h => h) (Or.inl ⟨by rfl, ?_⟩) (by assumption) ?_
  rotate_left
  · (intro w hSw; go_simp; first | done | (with_reducible rfl))
  simp only [Act.put, List.getElem_toArray, List.getElem_cons_succ, List.getElem_cons_zero, List.setIfInBounds_toArray, List.set_cons_zero, List.set_cons_succ]
  refine wpAnyX_take (i := 7) (oi := _) (v := ?_) rfl (by kernel_rfl) (by kernel_rfl) (by kernel_rfl) (by kernel_rfl) (by kernel_rfl) (fun _ _ _ h => h) (Or.inl ⟨by rfl, ?_⟩) (by assumption) ?_
  rotate_left
  · (intro w hSw; have q5 := (hSw.boxGet k1m).cellv 5 _ rfl; go_simp; first | done | (with_reducible rfl))
  simp only [Act.put, List.getElem_toArray, List.getElem_cons_succ, List.getElem_cons_zero, List.setIfInBounds_toArray, List.set_cons_zero, List.set_cons_succ]
  refine wpAnyX_one (i := 8) (by kernel_rfl) rfl (fun K hK => ?_)
  go_simp
  refine (HAD.out _).mono ?_
  rintro e wg ⟨rfl, hg⟩
  subst hg
  refine hK.out _ _ HB.out (fun hHeld => ?_)
  clear hK K
  refine wpAnyX_take (i := 9) (oi := _) (v := ?_) rfl (by kernel_rfl) (by kernel_rfl) (by kernel_rfl) (by kernel_rfl) (by kernel_rfl) (fun _ _ _ h => h) (Or.inl ⟨by rfl, ?_⟩) (by assumption) ?_
  rotate_left
  · (intro w hSw; go_simp; first | done | (with_reducible rfl))
  simp only [Act.put, List.getElem_toArray, List.getElem_cons_succ, List.getElem_cons_zero, List.setIfInBounds_toArray, List.set_cons_zero, List.set_cons_succ]
  refine wpAnyX_late (i := 10) (by kernel_rfl) rfl (by kernel_rfl) (fun K hK => ?_)
  have f0 := (HB.out.boxGet k0m).frozen 0
  have y0 := (HB.out.boxGet k0m).cellv 0 _ rfl
  have HB2 : Keep (Sep w0 (W1.setCell ⟨tb, 0, none⟩ (Value.int IntKind.i64 (addZ c.x c.sx))).drew (boxA tb [iv (addZ c.x c.sx), iv c.y] 23 :: boxA db (dcs v c i p) 54 :: l)) := ⟨HB.out.boxPut 0 (iv (addZ c.x c.sx))⟩
  go_simp
  refine hK.out _ _ ?_
  clear hK K f0 y0 HB hHeld
  generalize (W1.setCell ⟨tb, 0, none⟩ (Value.int IntKind.i64 (addZ c.x c.sx))).drew = w2 at HB2 ⊢
  refine wpAnyX_done (by kernel_rfl) ?_ _
  go_wp2_with fail
  clear HAD hW1 htb z3 z4
  have HB3 := Keep.mk (HB2.out.grown (gr_drew w2 none))
  refine region_X (S := fun w' => w'.cell? ⟨tb, 0, none⟩ = some (iv (addZ c.x c.sx)) ∧ w'.cell? ⟨tb, 1, none⟩ = some (iv c.y)) [] (by kernel_rfl) (⟨(HB3.out.boxGet k0m).cellv 0 _ rfl, (HB3.out.boxGet k0m).cellv 1 _ rfl⟩) (fun hHeld => ?_)
  refine wpAnyX_take (i := 0) (oi := _) (v := ?_) rfl (by kernel_rfl) (by kernel_rfl) (by kernel_rfl) (by kernel_rfl) (by kernel_rfl) (fun _ _ _ h => h) (Or.inl ⟨by rfl, ?_⟩) (by assumption) ?_
  rotate_left
  · (intro w hSw; go_simp; first | done | (with_reducible rfl))
  simp only [Act.put, List.getElem_toArray, List.getElem_cons_zero, List.setIfInBounds_toArray, List.set_cons_zero, List.set_cons_succ]
  refine wpAnyX_take (i := 1) (oi := _) (v := ?_) rfl (by kernel_rfl) (by kernel_rfl) (by kernel_rfl) (by kernel_rfl) (by kernel_rfl) (fun _ _ _ h => h) (Or.inl ⟨by rfl, ?_⟩) (by assumption) ?_
  rotate_left
  · (intro w hSw; obtain ⟨q0, q1⟩ := hSw; go_simp; first | done | (with_reducible rfl))
  simp only [Act.put, List.getElem_toArray, List.getElem_cons_succ, List.getElem_cons_zero, List.setIfInBounds_toArray, List.set_cons_zero, List.set_cons_succ]
  refine wpAnyX_take (i := 2) (oi := _) (v := ?_) rfl (by kernel_rfl) (by kernel_rfl) (by kernel_rfl) (by kernel_rfl) (by kernel_rfl) (fun _ _ _ h => h) (Or.inl ⟨by rfl, ?_⟩) (by assumption) ?_
  rotate_left
  · (intro w hSw; go_simp; first | done | (with_reducible rfl))
  simp only [Act.put, List.getElem_toArray, List.getElem_cons_succ, List.getElem_cons_zero, List.setIfInBounds_toArray, List.set_cons_zero, List.set_cons_succ]
  refine wpAnyX_take (i := 3) (oi := _) (v := ?_) rfl (by kernel_rfl) (by kernel_rfl) (by kernel_rfl) (by kernel_rfl) (by kernel_rfl) (fun _ _ _ h => h) (Or.inl ⟨by rfl, ?_⟩) (by assumption) ?_
  rotate_left
  · (intro w hSw; go_simp; first | done | (with_reducible rfl))
  simp only [Act.put, List.getElem_toArray, List.getElem_cons_succ, List.getElem_cons_zero, List.setIfInBounds_toArray, List.set_cons_zero, List.set_cons_succ]
  refine wpAnyX_take (i := 4) (oi := _) (v := ?_) rfl (by kernel_rfl) (by kernel_rfl) (by kernel_rfl) (by kernel_rfl) (by kernel_rfl) (fun _ _ _ h => h) (Or.inl ⟨by rfl, ?_⟩) (by assumption) ?_
  rotate_left
  · (intro w hSw; go_simp; first | done | (with_reducible rfl))
  simp only [Act.put, List.getElem_toArray, List.getElem_cons_succ, List.getElem_cons_zero, List.setIfInBounds_toArray, List.set_cons_zero, List.set_cons_succ]
  refine wpAnyX_take (i := 5) (oi := _) (v := ?_) rfl (by kernel_rfl) (by kernel_rfl) (by kernel_rfl) (by kernel_rfl) (by kernel_rfl) (fun _ _ _ h => h) (Or.inl ⟨by rfl, ?_⟩) (by assumption) ?_
  rotate_left
  · (intro w hSw; go_simp; first | done | (with_reducible rfl))
  simp only [Act.put, List.getElem_toArray, List.getElem_cons_succ, List.getElem_cons_zero, List.setIfInBounds_toArray, List.set_cons_zero, List.set_cons_succ]
  refine wpAnyX_take (i := 6) (oi := _) (v := ?_) rfl (by kernel_rfl) (by kernel_rfl) (by kernel_rfl) (by kernel_rfl) (by kernel_rfl) (fun _ _ _ h => h) (Or.inl ⟨by rfl, ?_⟩) (by assumption) ?_
  rotate_left
  · (intro w hSw; go_simp; first | done | (with_reducible rfl))
  simp only [Act.put, List.getElem_toArray, List.getElem_cons_succ, List.getElem_cons_zero, List.setIfInBounds_toArray, List.set_cons_zero, List.set_cons_succ]
  refine wpAnyX_one (i := 7) (by kernel_rfl) rfl (fun K hK => ?_)
  go_simp
  refine (move_c w0 _ (boxA tb [iv (addZ c.x c.sx), iv c.y] 23 :: l) db v L c i p (addZ c.x c.sx) c.y 5 c.sx HB3.out.swap HBD.out HIN.out.1 HIN.out.2.1 rfl HIN.out.2.2).mono ?_
  rintro e w3 ⟨rfl, hS⟩
  refine hK.out _ _ ⟨(hS.boxGet k1m).cellv 0 _ rfl, (hS.boxGet k1m).cellv 1 _ rfl⟩ (fun _ => ?_)
  clear hK K hHeld HB2 HB3
  have HS := Keep.mk hS.swap.tail
  clear hS
  refine wpAnyX_done (by kernel_rfl) ?_ _
  go_wp2_with fail
  refine end_0 rfl rfl ⟨rfl, ?_⟩
  have e : dcs v (stX L c) i p = if blk L ((addZ c.x c.sx), c.y) 98304 then (dcs v c i p).set 5 (iv (-(c.sx / 2))) else dcs v { c with x := (addZ c.x c.sx), y := c.y } i p := by
    unfold stX
    split <;> rfl
  rw [e]
  exact HS.out
set_option maxRecDepth 100000 in
set_option maxHeartbeats 8000000 in
theorem moveY_c (w0 W : World) (l : List As) (db : Nat) (v : Value) (L : Bo) (c : Cr) (i : It) (p : Int) (h : Sep w0 W (boxA db (dcs v c i p) 54 :: l)) (hB : Bd w0 v L) (hx : In c.x) (hy : In c.y) (hs : -65536 ≤ c.sy ∧ c.sy ≤ 65536) :
    Calls Tryd.prog 29 #[pt db] W fun e W' => e = .returned (.tuple #[]) ∧ Sep w0 W' (boxA db (dcs v (stY L c) i p) 54 :: l) := by
  have z3 : W.cell? ⟨db, 3, none⟩ = some (iv c.x) := (h.boxGet k0m).cellv 3 _ rfl
  have z4 : W.cell? ⟨db, 4, none⟩ = some (iv c.y) := (h.boxGet k0m).cellv 4 _ rfl
  have S1 := h.newBox #[iv c.x, iv c.y] 23
  obtain ⟨W1, hW1⟩ : ∃ W1, W.alloc (.cells #[iv c.x, iv c.y] 23) = W1 := ⟨_, rfl⟩
  obtain ⟨tb, htb⟩ : ∃ tb, W.heap.size = tb := ⟨_, rfl⟩
  rw [hW1, htb] at S1
  have HB := Keep.mk S1
  have HBD := Keep.mk hB
  have hin := addZ_in c.y c.sy
  have HIN : Keep (In c.x ∧ In (addZ c.y c.sy) ∧ -65536 ≤ c.sy ∧ c.sy ≤ 65536) := ⟨hx, hin, hs⟩
  have HAD := Keep.mk (fun w => add_c c.y c.sy hy (in_of16 hs) w)
  clear S1 h hx hy hB hs hin
  go_enter Tryd.func29, Tryd.ntmps29
  go_wp2_with fail
  refine region_X (S := fun w' => Sep w0 w' (boxA tb [iv c.x, iv c.y] 23 :: boxA db (dcs v c i p) 54 :: l)) [10] (by kernel_rfl) (HB.out.grown (gr_drew _ _)) (fun hHeld => ?_)
  replace HB := Keep.mk hHeld
  refine wpAnyX_take (i := 0) (oi := _) (v := ?_) rfl (by kernel_rfl) (by kernel_rfl) (by kernel_rfl) (by kernel_rfl) (by kernel_rfl) (fun _ _ _ h => h) (Or.inl ⟨by rfl, ?_⟩) (by assumption) ?_
  rotate_left
  · (intro w hSw; go_simp; first | done | (with_reducible rfl))
  simp only [Act.put, List.getElem_toArray, List.getElem_cons_zero, List.setIfInBounds_toArray, List.set_cons_zero, List.set_cons_succ]
  refine wpAnyX_take (i := 1) (oi := _) (v := ?_) rfl (by kernel_rfl) (by kernel_rfl) (by kernel_rfl) (by kernel_rfl) (by kernel_rfl) (fun _ _ _ h => h) (Or.inl ⟨by rfl, ?_⟩) (by assumption) ?_
  rotate_left
  · (intro w hSw; have q1 := (hSw.boxGet k0m).cellv 1 _ rfl; go_simp; first | done | (with_reducible rfl))
  simp only [Act.put, List.getElem_toArray, List.getElem_cons_succ, List.getElem_cons_zero, List.setIfInBounds_toArray, List.set_cons_zero, List.set_cons_succ]
  refine wpAnyX_take (i := 2) (oi := _) (v := ?_) rfl (by kernel_rfl) (by kernel_rfl) (by kernel_rfl) (by kernel_rfl) (by kernel_rfl) (fun _ _ _ h => h) (Or.inl ⟨by rfl, ?_⟩) (by assumption) ?_
  rotate_left
  · (intro w hSw; go_simp; first | done | (with_reducible rfl))
  simp only [Act.put, List.getElem_toArray, List.getElem_cons_succ, List.getElem_cons_zero, List.setIfInBounds_toArray, List.set_cons_zero, List.set_cons_succ]
  refine wpAnyX_take (i := 3) (oi := _) (v := ?_) rfl (by kernel_rfl) (by kernel_rfl) (by kernel_rfl) (by kernel_rfl) (by kernel_rfl) (fun _ _ _ h => h) (Or.inl ⟨by rfl, ?_⟩) (by assumption) ?_
  rotate_left
  · (intro w hSw; go_simp; first | done | (with_reducible rfl))
  simp only [Act.put, List.getElem_toArray, List.getElem_cons_succ, List.getElem_cons_zero, List.setIfInBounds_toArray, List.set_cons_zero, List.set_cons_succ]
  refine wpAnyX_take (i := 4) (oi := _) (v := ?_) rfl (by kernel_rfl) (by kernel_rfl) (by kernel_rfl) (by kernel_rfl) (by kernel_rfl) (fun _ _ _ h => h) (Or.inl ⟨by rfl, ?_⟩) (by assumption) ?_
  rotate_left
  · (intro w hSw; go_simp; first | done | (with_reducible rfl))
  simp only [Act.put, List.getElem_toArray, List.getElem_cons_succ, List.getElem_cons_zero, List.setIfInBounds_toArray, List.set_cons_zero, List.set_cons_succ]
  refine wpAnyX_take (i := 5) (oi := _) (v := ?_) rfl (by kernel_rfl) (by kernel_rfl) (by kernel_rfl) (by kernel_rfl) (by kernel_rfl) (fun _ _ _ h => h) (Or.inl ⟨by rfl, ?_⟩) (by assumption) ?_
  rotate_left
  · (intro w hSw; go_simp; first | done | (with_reducible rfl))
  simp only [Act.put, List.getElem_toArray, List.getElem_cons_succ, List.getElem_cons_zero, List.setIfInBounds_toArray, List.set_cons_zero, List.set_cons_succ]
  refine wpAnyX_take (i := 6) (oi := _) (v := ?_) rfl (by kernel_rfl) (by kernel_rfl) (by kernel_rfl) (by kernel_rfl) (by kernel_rfl) (fun _ _ _ h => h) (Or.inl ⟨by rfl, ?_⟩) (by assumption) ?_
  rotate_left
  · (intro w hSw; go_simp; first | done | (with_reducible rfl))
  simp only [Act.put, List.getElem_toArray, List.getElem_cons_succ, List.getElem_cons_zero, List.setIfInBounds_toArray, List.set_cons_zero, List.set_cons_succ]
  refine wpAnyX_take (i := 7) (oi := _) (v := ?_) rfl (by kernel_rfl) (by kernel_rfl) (by kernel_rfl) (by kernel_rfl) (by kernel_rfl) (fun _ _ _ h => h) (Or.inl ⟨by rfl, ?_⟩) (by assumption) ?_
  rotate_left
  · (intro w hSw; have q6 := (hSw.boxGet k1m).cellv 6 _ rfl; go_simp; first | done | (with_reducible rfl))
  simp only [Act.put, List.getElem_toArray, List.getElem_cons_succ, List.getElem_cons_zero, List.setIfInBounds_toArray, List.set_cons_zero, List.set_cons_succ]
  refine wpAnyX_one (i := 8) (by kernel_rfl) rfl (fun K hK => ?_)
  go_simp
  refine (HAD.out _).mono ?_
  rintro e wg ⟨rfl, hg⟩
  subst hg
  refine hK.out _ _ HB.out (fun hHeld => ?_)
  clear hK K
  refine wpAnyX_take (i := 9) (oi := _) (v := ?_) rfl (by kernel_rfl) (by kernel_rfl) (by kernel_rfl) (by kernel_rfl) (by kernel_rfl) (fun _ _ _ h => h) (Or.inl ⟨by rfl, ?_⟩) (by assumption) ?_
  rotate_left
  · (intro w hSw; go_simp; first | done | (with_reducible rfl))
  simp only [Act.put, List.getElem_toArray, List.getElem_cons_succ, List.getElem_cons_zero, List.setIfInBounds_toArray, List.set_cons_zero, List.set_cons_succ]
  refine wpAnyX_late (i := 10) (by kernel_rfl) rfl (by kernel_rfl) (fun K hK => ?_)
  have f0 := (HB.out.boxGet k0m).frozen 1
  have y0 := (HB.out.boxGet k0m).cellv 1 _ rfl
  have HB2 : Keep (Sep w0 (W1.setCell ⟨tb, 1, none⟩ (Value.int IntKind.i64 (addZ c.y c.sy))).drew (boxA tb [iv c.x, iv (addZ c.y c.sy)] 23 :: boxA db (dcs v c i p) 54 :: l)) := ⟨HB.out.boxPut 1 (iv (addZ c.y c.sy))⟩
  go_simp
  refine hK.out _ _ ?_
  clear hK K f0 y0 HB hHeld
  generalize (W1.setCell ⟨tb, 1, none⟩ (Value.int IntKind.i64 (addZ c.y c.sy))).drew = w2 at HB2 ⊢
  refine wpAnyX_done (by kernel_rfl) ?_ _
  go_wp2_with fail
  clear HAD hW1 htb z3 z4
  have HB3 := Keep.mk (HB2.out.grown (gr_drew w2 none))
  refine region_X (S := fun w' => w'.cell? ⟨tb, 0, none⟩ = some (iv c.x) ∧ w'.cell? ⟨tb, 1, none⟩ = some (iv (addZ c.y c.sy))) [] (by kernel_rfl) (⟨(HB3.out.boxGet k0m).cellv 0 _ rfl, (HB3.out.boxGet k0m).cellv 1 _ rfl⟩) (fun hHeld => ?_)
  refine wpAnyX_take (i := 0) (oi := _) (v := ?_) rfl (by kernel_rfl) (by kernel_rfl) (by kernel_rfl) (by kernel_rfl) (by kernel_rfl) (fun _ _ _ h => h) (Or.inl ⟨by rfl, ?_⟩) (by assumption) ?_
  rotate_left
  · (intro w hSw; go_simp; first | done | (with_reducible rfl))
  simp only [Act.put, List.getElem_toArray, List.getElem_cons_zero, List.setIfInBounds_toArray, List.set_cons_zero, List.set_cons_succ]
  refine wpAnyX_take (i := 1) (oi := _) (v := ?_) rfl (by kernel_rfl) (by kernel_rfl) (by kernel_rfl) (by kernel_rfl) (by kernel_rfl) (fun _ _ _ h => h) (Or.inl ⟨by rfl, ?_⟩) (by assumption) ?_
  rotate_left
  · (intro w hSw; obtain ⟨q0, q1⟩ := hSw; go_simp; first | done | (with_reducible rfl))
  simp only [Act.put, List.getElem_toArray, List.getElem_cons_succ, List.getElem_cons_zero, List.setIfInBounds_toArray, List.set_cons_zero, List.set_cons_succ]
  refine wpAnyX_take (i := 2) (oi := _) (v := ?_) rfl (by kernel_rfl) (by kernel_rfl) (by kernel_rfl) (by kernel_rfl) (by kernel_rfl) (fun _ _ _ h => h) (Or.inl ⟨by rfl, ?_⟩) (by assumption) ?_
  rotate_left
  · (intro w hSw; go_simp; first | done | (with_reducible rfl))
  simp only [Act.put, List.getElem_toArray, List.getElem_cons_succ, List.getElem_cons_zero, List.setIfInBounds_toArray, List.set_cons_zero, List.set_cons_succ]
  refine wpAnyX_take (i := 3) (oi := _) (v := ?_) rfl (by kernel_rfl) (by kernel_rfl) (by kernel_rfl) (by kernel_rfl) (by kernel_rfl) (fun _ _ _ h => h) (Or.inl ⟨by rfl, ?_⟩) (by assumption) ?_
  rotate_left
  · (intro w hSw; go_simp; first | done | (with_reducible rfl))
  simp only [Act.put, List.getElem_toArray, List.getElem_cons_succ, List.getElem_cons_zero, List.setIfInBounds_toArray, List.set_cons_zero, List.set_cons_succ]
  refine wpAnyX_take (i := 4) (oi := _) (v := ?_) rfl (by kernel_rfl) (by kernel_rfl) (by kernel_rfl) (by kernel_rfl) (by kernel_rfl) (fun _ _ _ h => h) (Or.inl ⟨by rfl, ?_⟩) (by assumption) ?_
  rotate_left
  · (intro w hSw; go_simp; first | done | (with_reducible rfl))
  simp only [Act.put, List.getElem_toArray, List.getElem_cons_succ, List.getElem_cons_zero, List.setIfInBounds_toArray, List.set_cons_zero, List.set_cons_succ]
  refine wpAnyX_take (i := 5) (oi := _) (v := ?_) rfl (by kernel_rfl) (by kernel_rfl) (by kernel_rfl) (by kernel_rfl) (by kernel_rfl) (fun _ _ _ h => h) (Or.inl ⟨by rfl, ?_⟩) (by assumption) ?_
  rotate_left
  · (intro w hSw; go_simp; first | done | (with_reducible rfl))
  simp only [Act.put, List.getElem_toArray, List.getElem_cons_succ, List.getElem_cons_zero, List.setIfInBounds_toArray, List.set_cons_zero, List.set_cons_succ]
  refine wpAnyX_take (i := 6) (oi := _) (v := ?_) rfl (by kernel_rfl) (by kernel_rfl) (by kernel_rfl) (by kernel_rfl) (by kernel_rfl) (fun _ _ _ h => h) (Or.inl ⟨by rfl, ?_⟩) (by assumption) ?_
  rotate_left
  · (intro w hSw; go_simp; first | done | (with_reducible rfl))
  simp only [Act.put, List.getElem_toArray, List.getElem_cons_succ, List.getElem_cons_zero, List.setIfInBounds_toArray, List.set_cons_zero, List.set_cons_succ]
  refine wpAnyX_one (i := 7) (by kernel_rfl) rfl (fun K hK => ?_)
  go_simp
  refine (move_c w0 _ (boxA tb [iv c.x, iv (addZ c.y c.sy)] 23 :: l) db v L c i p c.x (addZ c.y c.sy) 6 c.sy HB3.out.swap HBD.out HIN.out.1 HIN.out.2.1 rfl HIN.out.2.2).mono ?_
  rintro e w3 ⟨rfl, hS⟩
  refine hK.out _ _ ⟨(hS.boxGet k1m).cellv 0 _ rfl, (hS.boxGet k1m).cellv 1 _ rfl⟩ (fun _ => ?_)
  clear hK K hHeld HB2 HB3
  have HS := Keep.mk hS.swap.tail
  clear hS
  refine wpAnyX_done (by kernel_rfl) ?_ _
  go_wp2_with fail
  refine end_0 rfl rfl ⟨rfl, ?_⟩
  have e : dcs v (stY L c) i p = if blk L (c.x, (addZ c.y c.sy)) 98304 then (dcs v c i p).set 6 (iv (-(c.sy / 2))) else dcs v { c with x := c.x, y := (addZ c.y c.sy) } i p := by
    unfold stY
    split <;> rfl
  rw [e]
  exact HS.out

end Go.Proofs.YtobdcngjpgndiabDoor.Bo
