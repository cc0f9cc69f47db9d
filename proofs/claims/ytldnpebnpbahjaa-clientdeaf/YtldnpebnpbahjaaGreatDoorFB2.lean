import Derived.Test.YtldnpebnpbahjaaGreatDoorFB1
/- frame: fixed, zeros, flags laid; newOutput, done -/
namespace Go.Proofs.YtldnpebnpbahjaaGreatDoor.Pk
open Go Go.RowKit

set_option maxHeartbeats 8000000 in
set_option maxRecDepth 100000 in
theorem fixed2_c (f k n db ob wb b1 b2 : Nat) (v : Value) (D : List Value) (st : WS) (r : Bool) (x : ByteArray) (hx : x.size ≤ 1099511627776) (w : World) (hf : Place f k) (h1 : Has w b1 [.int .i64 (n : Int)] 3) (h2 : Has w b2 [fv f] 186) (hb1 : ¬ OF ob wb v b1) (hb2 : ¬ OF ob wb v b2) (h : Lay w db ob wb v D st r) (hk : D[k]? = some (.string x)) :
    Calls Tryz.prog 181 #[pv db, pv ob, pv b2, pv b1] w fun e w' => e = .returned (.tuple #[]) ∧ ∃ v', OD w w' ob wb v (wBytes st (sl x)) (r || !decide (x.size = n)) v' := by
  obtain ⟨hcf, hf⟩ := hf
  have HA : Keep (Lay w.drew db ob wb v D st r ∧ x.size ≤ 1099511627776) := ⟨h.drew, hx⟩
  have HH : Keep (Has w.drew b1 [.int .i64 (n : Int)] 3 ∧ Has w.drew b2 [fv f] 186 ∧ Has w.drew db D 34) := ⟨h1.kept (gr_drew _ none) (by simp), h2.kept (gr_drew _ none) (by simp), h.drew.d⟩
  have HDK : Keep (D[k]? = some (.string x)) := ⟨hk⟩
  clear h h1 h2 hx hk
  go_enter Tryz.func181, Tryz.ntmps181
  go_wp2_with fail
  refine wp_region_held_drew (S := fun w' => Has w' b1 [.int .i64 (n : Int)] 3 ∧ Has w' b2 [fv f] 186 ∧ Has w' db D 34) (by kernel_rfl) HH.out (fun hHeld => ?_)
  refine wpAnyH_take (i := 0) (oi := _) (v := ?_) rfl (by kernel_rfl) (by kernel_rfl) (by kernel_rfl) (fun _ _ _ h => h) (Or.inl ⟨by rfl, ?_⟩) (by assumption) ?_
  rotate_left
  · (intro w hSw; go_simp; first | done | (with_reducible rfl))
  simp only [Act.put, List.getElem_toArray, List.getElem_cons_zero, List.setIfInBounds_toArray, List.set_cons_zero, List.set_cons_succ]
  refine wpAnyH_take (i := 1) (oi := _) (v := ?_) rfl (by kernel_rfl) (by kernel_rfl) (by kernel_rfl) (fun _ _ _ h => h) (Or.inl ⟨by rfl, ?_⟩) (by assumption) ?_
  rotate_left
  · (intro w hSw; have x1 := hSw.2.1.cellv 0 _ rfl; clear hSw; go_simp; first | done | (with_reducible rfl))
  simp only [Act.put, List.getElem_toArray, List.getElem_cons_succ, List.getElem_cons_zero, List.setIfInBounds_toArray, List.set_cons_zero, List.set_cons_succ]
  refine wpAnyH_take (i := 2) (oi := _) (v := ?_) rfl (by kernel_rfl) (by kernel_rfl) (by kernel_rfl) (fun _ _ _ h => h) (Or.inl ⟨by rfl, ?_⟩) (by assumption) ?_
  rotate_left
  · (intro w hSw; go_simp; first | done | (with_reducible rfl))
  simp only [Act.put, List.getElem_toArray, List.getElem_cons_succ, List.getElem_cons_zero, List.setIfInBounds_toArray, List.set_cons_zero, List.set_cons_succ]
  refine wpAnyH_take (i := 7) (oi := _) (v := ?_) rfl (by kernel_rfl) (by kernel_rfl) (by kernel_rfl) (fun _ _ _ h => h) (Or.inl ⟨by rfl, ?_⟩) (by assumption) ?_
  rotate_left
  · (intro w hSw; have x1 := hSw.1.cellv 0 _ rfl; clear hSw; go_simp; first | done | (with_reducible rfl))
  simp only [Act.put, List.getElem_toArray, List.getElem_cons_succ, List.getElem_cons_zero, List.setIfInBounds_toArray, List.set_cons_zero, List.set_cons_succ]
  refine wpAnyH_ready (rs := [3]) (by kernel_rfl) (by simp) ?_
  refine AllReadyH.cons rfl (fun K hK => ?_) AllReadyH.nil
  go_simp
  refine (hf db _).mono ?_
  rintro e w1 ⟨rfl, hw1⟩
  subst hw1
  refine hK.out _ _ HH.out (fun hHeld => ?_)
  clear hK K
  refine wpAnyH_take (i := 4) (oi := _) (v := ?_) rfl (by kernel_rfl) (by kernel_rfl) (by kernel_rfl) (fun _ _ _ h => h) (Or.inl ⟨by rfl, ?_⟩) (by assumption) ?_
  rotate_left
  · (intro w hSw; go_simp; first | done | (with_reducible rfl))
  simp only [Act.put, List.getElem_toArray, List.getElem_cons_succ, List.getElem_cons_zero, List.setIfInBounds_toArray, List.set_cons_zero, List.set_cons_succ]
  refine wpAnyH_take (i := 5) (oi := _) (v := ?_) rfl (by kernel_rfl) (by kernel_rfl) (by kernel_rfl) (fun _ _ _ h => h) (Or.inl ⟨by rfl, ?_⟩) (by assumption) ?_
  rotate_left
  · (intro w hSw; have x1 := hSw.2.2.cellv k _ HDK.out; clear hSw; go_simp; first | done | (with_reducible rfl))
  simp only [Act.put, List.getElem_toArray, List.getElem_cons_succ, List.getElem_cons_zero, List.setIfInBounds_toArray, List.set_cons_zero, List.set_cons_succ]
  refine wpAnyH_take (i := 6) (oi := _) (v := ?_) rfl (by kernel_rfl) (by kernel_rfl) (by kernel_rfl) (fun _ _ _ h => h) (Or.inl ⟨by rfl, ?_⟩) (by assumption) ?_
  rotate_left
  · (intro w hSw; go_simp; first | done | (with_reducible rfl))
  simp only [Act.put, List.getElem_toArray, List.getElem_cons_succ, List.getElem_cons_zero, List.setIfInBounds_toArray, List.set_cons_zero, List.set_cons_succ]
  refine wpAnyH_take (i := 8) (oi := _) (v := ?_) rfl (by kernel_rfl) (by kernel_rfl) (by kernel_rfl) (fun _ _ _ h => h) (Or.inl ⟨by rfl, ?_⟩) (by assumption) ?_
  rotate_left
  · (intro w hSw; go_simp; first | done | (with_reducible rfl))
  simp only [Act.put, List.getElem_toArray, List.getElem_cons_succ, List.getElem_cons_zero, List.setIfInBounds_toArray, List.set_cons_zero, List.set_cons_succ]
  refine wpAnyH_ready (rs := [9]) (by kernel_rfl) (by simp) ?_
  refine AllReadyH.cons rfl (fun K hK => ?_) AllReadyH.nil
  go_simp
  refine (oallow_c ob wb v st r _ _ HA.out.1.o).mono ?_
  rintro e w2 ⟨rfl, d2⟩
  have e0 : decide ((x.size : Int) = (n : Int)) = decide (x.size = n) := decide_eq_decide.2 (by omega)
  have HD : Keep (OD w w2 ob wb v st (r || !decide (x.size = n)) v) := ⟨by first | exact d2.ahead (gr_drew _ _) | (rw [← e0]; exact d2.ahead (gr_drew _ _))⟩
  have f2 : Fr (OF ob wb v) w.drew w2 := d2.f
  have HA2 : Keep (Lay w2.drew db ob wb v D st (r || !decide (x.size = n)) ∧ x.size ≤ 1099511627776) := ⟨Lay.drew ⟨HH.out.2.2.fr f2 HA.out.1.n, HD.out.a, HA.out.1.n, HA.out.1.l⟩, HA.out.2⟩
  have HH2 : Keep (Has w2.drew b1 [.int .i64 (n : Int)] 3 ∧ Has w2.drew b2 [fv f] 186 ∧ Has w2.drew db D 34 ∧ Has w2.drew ob [pv wb, .bool (r || !decide (x.size = n))] 174) := ⟨(HH.out.1.fr f2 hb1).kept (gr_drew _ none) (by simp), (HH.out.2.1.fr f2 hb2).kept (gr_drew _ none) (by simp), HA2.out.1.d, HA2.out.1.o.h⟩
  refine hK.out _ _ ⟨HH.out.1.fr f2 hb1, HH.out.2.1.fr f2 hb2, HH.out.2.2.fr f2 HA.out.1.n⟩ (fun hHeld => ?_)
  clear hHeld
  refine wpAnyH_done (by kernel_rfl) ?_ _
  clear hK K
  clear d2 f2 e0
  go_wp2_with fail
  refine wp_region_held_drew (S := fun w' => Has w' b1 [.int .i64 (n : Int)] 3 ∧ Has w' b2 [fv f] 186 ∧ Has w' db D 34 ∧ Has w' ob [pv wb, .bool (r || !decide (x.size = n))] 174) (by kernel_rfl) HH2.out (fun hHeld => ?_)
  refine wpAnyH_take (i := 0) (oi := _) (v := ?_) rfl (by kernel_rfl) (by kernel_rfl) (by kernel_rfl) (fun _ _ _ h => h) (Or.inl ⟨by rfl, ?_⟩) (by assumption) ?_
  rotate_left
  · (intro w hSw; go_simp; first | done | (with_reducible rfl))
  simp only [Act.put, List.getElem_toArray, List.getElem_cons_zero, List.setIfInBounds_toArray, List.set_cons_zero, List.set_cons_succ]
  refine wpAnyH_take (i := 1) (oi := _) (v := ?_) rfl (by kernel_rfl) (by kernel_rfl) (by kernel_rfl) (fun _ _ _ h => h) (Or.inl ⟨by rfl, ?_⟩) (by assumption) ?_
  rotate_left
  · (intro w hSw; go_simp; first | done | (with_reducible rfl))
  simp only [Act.put, List.getElem_toArray, List.getElem_cons_succ, List.getElem_cons_zero, List.setIfInBounds_toArray, List.set_cons_zero, List.set_cons_succ]
  refine wpAnyH_take (i := 2) (oi := _) (v := ?_) rfl (by kernel_rfl) (by kernel_rfl) (by kernel_rfl) (fun _ _ _ h => h) (Or.inl ⟨by rfl, ?_⟩) (by assumption) ?_
  rotate_left
  · (intro w hSw; go_simp; first | done | (with_reducible rfl))
  simp only [Act.put, List.getElem_toArray, List.getElem_cons_succ, List.getElem_cons_zero, List.setIfInBounds_toArray, List.set_cons_zero, List.set_cons_succ]
  refine wpAnyH_take (i := 3) (oi := _) (v := ?_) rfl (by kernel_rfl) (by kernel_rfl) (by kernel_rfl) (fun _ _ _ h => h) (Or.inl ⟨by rfl, ?_⟩) (by assumption) ?_
  rotate_left
  · (intro w hSw; have x1 := hSw.2.2.2.cellv 0 _ rfl; clear hSw; go_simp; first | done | (with_reducible rfl))
  simp only [Act.put, List.getElem_toArray, List.getElem_cons_succ, List.getElem_cons_zero, List.setIfInBounds_toArray, List.set_cons_zero, List.set_cons_succ]
  refine wpAnyH_take (i := 4) (oi := _) (v := ?_) rfl (by kernel_rfl) (by kernel_rfl) (by kernel_rfl) (fun _ _ _ h => h) (Or.inl ⟨by rfl, ?_⟩) (by assumption) ?_
  rotate_left
  · (intro w hSw; have x1 := hSw.2.1.cellv 0 _ rfl; clear hSw; go_simp; first | done | (with_reducible rfl))
  simp only [Act.put, List.getElem_toArray, List.getElem_cons_succ, List.getElem_cons_zero, List.setIfInBounds_toArray, List.set_cons_zero, List.set_cons_succ]
  refine wpAnyH_take (i := 5) (oi := _) (v := ?_) rfl (by kernel_rfl) (by kernel_rfl) (by kernel_rfl) (fun _ _ _ h => h) (Or.inl ⟨by rfl, ?_⟩) (by assumption) ?_
  rotate_left
  · (intro w hSw; go_simp; first | done | (with_reducible rfl))
  simp only [Act.put, List.getElem_toArray, List.getElem_cons_succ, List.getElem_cons_zero, List.setIfInBounds_toArray, List.set_cons_zero, List.set_cons_succ]
  refine wpAnyH_ready (rs := [6]) (by kernel_rfl) (by simp) ?_
  refine AllReadyH.cons rfl (fun K hK => ?_) AllReadyH.nil
  go_simp
  refine (hf db _).mono ?_
  rintro e w1 ⟨rfl, hw1⟩
  subst hw1
  refine hK.out _ _ HH2.out (fun hHeld => ?_)
  clear hK K
  refine wpAnyH_take (i := 7) (oi := _) (v := ?_) rfl (by kernel_rfl) (by kernel_rfl) (by kernel_rfl) (fun _ _ _ h => h) (Or.inl ⟨by rfl, ?_⟩) (by assumption) ?_
  rotate_left
  · (intro w hSw; go_simp; first | done | (with_reducible rfl))
  simp only [Act.put, List.getElem_toArray, List.getElem_cons_succ, List.getElem_cons_zero, List.setIfInBounds_toArray, List.set_cons_zero, List.set_cons_succ]
  refine wpAnyH_take (i := 8) (oi := _) (v := ?_) rfl (by kernel_rfl) (by kernel_rfl) (by kernel_rfl) (fun _ _ _ h => h) (Or.inl ⟨by rfl, ?_⟩) (by assumption) ?_
  rotate_left
  · (intro w hSw; have x1 := hSw.2.2.1.cellv k _ HDK.out; clear hSw; go_simp; first | done | (with_reducible rfl))
  simp only [Act.put, List.getElem_toArray, List.getElem_cons_succ, List.getElem_cons_zero, List.setIfInBounds_toArray, List.set_cons_zero, List.set_cons_succ]
  refine wpAnyH_ready (rs := [9]) (by kernel_rfl) (by simp) ?_
  refine AllReadyH.cons rfl (fun K hK => ?_) AllReadyH.nil
  go_simp
  refine (wBytes_c wb v st x _ HA2.out.1.o.a (by have := HA2.out.1.l; have := HA2.out.2; omega)).mono ?_
  rintro e w3 ⟨rfl, v', d3⟩
  have HD3 : Keep (OD w w3 ob wb v (wBytes st (sl x)) (r || !decide (x.size = n)) v') := ⟨HD.out.trans ((HA2.out.1.o.did d3).ahead (gr_drew _ _))⟩
  have f3 : Fr (OF ob wb v) w2.drew w3 := (HA2.out.1.o.did d3).f
  refine hK.out _ _ ⟨HH2.out.1.fr f3 hb1, HH2.out.2.1.fr f3 hb2, HH2.out.2.2.1.fr f3 HA2.out.1.n, HD3.out.a.h⟩ (fun hHeld => ?_)
  refine wpAnyH_done (by kernel_rfl) ?_ _
  clear hK K
  go_wp2_with fail
  go_end0
  exact ⟨rfl, v', HD3.out⟩
set_option maxHeartbeats 8000000 in
set_option maxRecDepth 100000 in
theorem zeros2_c (db ob wb zb : Nat) (v : Value) (D : List Value) (st : WS) (r : Bool) (Z : ByteArray) (hZ : Z.size ≤ 1099511627776) (w : World) (h1 : Has w zb [.string Z] 9) (hb : ¬ OF ob wb v zb) (h : Lay w db ob wb v D st r) :
    Calls Tryz.prog 135 #[pv db, pv ob, pv zb] w fun e w' => e = .returned (.tuple #[]) ∧ ∃ v', OD w w' ob wb v (wBytes st (sl Z)) r v' := by
  have HA : Keep (Lay w.drew db ob wb v D st r ∧ Z.size ≤ 1099511627776) := ⟨h.drew, hZ⟩
  have HH : Keep (Has w.drew zb [.string Z] 9 ∧ Has w.drew ob [pv wb, .bool r] 174) := ⟨h1.kept (gr_drew _ none) (by simp), h.drew.o.h⟩
  clear h h1 hZ
  go_enter Tryz.func135, Tryz.ntmps135
  go_wp2_with fail
  refine wp_region_held_drew (S := fun w' => Has w' zb [.string Z] 9 ∧ Has w' ob [pv wb, .bool r] 174) (by kernel_rfl) HH.out (fun hHeld => ?_)
  refine wpAnyH_take (i := 0) (oi := _) (v := ?_) rfl (by kernel_rfl) (by kernel_rfl) (by kernel_rfl) (fun _ _ _ h => h) (Or.inl ⟨by rfl, ?_⟩) (by assumption) ?_
  rotate_left
  · (intro w hSw; go_simp; first | done | (with_reducible rfl))
  simp only [Act.put, List.getElem_toArray, List.getElem_cons_zero, List.setIfInBounds_toArray, List.set_cons_zero, List.set_cons_succ]
  refine wpAnyH_take (i := 1) (oi := _) (v := ?_) rfl (by kernel_rfl) (by kernel_rfl) (by kernel_rfl) (fun _ _ _ h => h) (Or.inl ⟨by rfl, ?_⟩) (by assumption) ?_
  rotate_left
  · (intro w hSw; go_simp; first | done | (with_reducible rfl))
  simp only [Act.put, List.getElem_toArray, List.getElem_cons_succ, List.getElem_cons_zero, List.setIfInBounds_toArray, List.set_cons_zero, List.set_cons_succ]
  refine wpAnyH_take (i := 2) (oi := _) (v := ?_) rfl (by kernel_rfl) (by kernel_rfl) (by kernel_rfl) (fun _ _ _ h => h) (Or.inl ⟨by rfl, ?_⟩) (by assumption) ?_
  rotate_left
  · (intro w hSw; go_simp; first | done | (with_reducible rfl))
  simp only [Act.put, List.getElem_toArray, List.getElem_cons_succ, List.getElem_cons_zero, List.setIfInBounds_toArray, List.set_cons_zero, List.set_cons_succ]
  refine wpAnyH_take (i := 3) (oi := _) (v := ?_) rfl (by kernel_rfl) (by kernel_rfl) (by kernel_rfl) (fun _ _ _ h => h) (Or.inl ⟨by rfl, ?_⟩) (by assumption) ?_
  rotate_left
  · (intro w hSw; have x1 := hSw.2.cellv 0 _ rfl; clear hSw; go_simp; first | done | (with_reducible rfl))
  simp only [Act.put, List.getElem_toArray, List.getElem_cons_succ, List.getElem_cons_zero, List.setIfInBounds_toArray, List.set_cons_zero, List.set_cons_succ]
  refine wpAnyH_take (i := 4) (oi := _) (v := ?_) rfl (by kernel_rfl) (by kernel_rfl) (by kernel_rfl) (fun _ _ _ h => h) (Or.inl ⟨by rfl, ?_⟩) (by assumption) ?_
  rotate_left
  · (intro w hSw; have x1 := hSw.1.cellv 0 _ rfl; clear hSw; go_simp; first | done | (with_reducible rfl))
  simp only [Act.put, List.getElem_toArray, List.getElem_cons_succ, List.getElem_cons_zero, List.setIfInBounds_toArray, List.set_cons_zero, List.set_cons_succ]
  refine wpAnyH_ready (rs := [5]) (by kernel_rfl) (by simp) ?_
  refine AllReadyH.cons rfl (fun K hK => ?_) AllReadyH.nil
  go_simp
  refine (wBytes_c wb v st Z _ HA.out.1.o.a (by have := HA.out.1.l; have := HA.out.2; omega)).mono ?_
  rintro e w3 ⟨rfl, v', d3⟩
  have HD3 : Keep (OD w w3 ob wb v (wBytes st (sl Z)) r v') := ⟨(HA.out.1.o.did d3).ahead (gr_drew _ _)⟩
  have f3 : Fr (OF ob wb v) w.drew w3 := (HA.out.1.o.did d3).f
  refine hK.out _ _ ⟨HH.out.1.fr f3 hb, HD3.out.a.h⟩ (fun hHeld => ?_)
  refine wpAnyH_done (by kernel_rfl) ?_ _
  clear hK K
  go_wp2_with fail
  go_end0
  exact ⟨rfl, v', HD3.out⟩
set_option maxHeartbeats 8000000 in
set_option maxRecDepth 100000 in
theorem flags2_c (db ob wb : Nat) (v : Value) (D : List Value) (st : WS) (r fire boost : Bool) (w : World) (h : Lay w db ob wb v D st r) (h1 : D[11]? = some (.bool fire)) (h2 : D[12]? = some (.bool boost)) :
    Calls Tryz.prog 155 #[pv db, pv ob] w fun e w' => e = .returned (.tuple #[]) ∧ ∃ v', OD w w' ob wb v (wNum st ((if fire then 1 else 0) + (if boost then 2 else 0)) 1) r v' := by
  have HA : Keep (Lay w db ob wb v D st r) := ⟨h⟩
  have c1 : w.cell? ⟨db, 11, none⟩ = some (.bool fire) := h.d.cellv 11 _ h1
  have c2 : w.cell? ⟨db, 12, none⟩ = some (.bool boost) := h.d.cellv 12 _ h2
  have c3 : w.cell? ⟨ob, 0, none⟩ = some (pv wb) := h.o.h.cellv 0 _ rfl
  clear h h1 h2
  cases fire <;> cases boost
  · go_enter Tryz.func155, Tryz.ntmps155
    go_wp2_with fail
    refine (wNumber_c wb v st 0 1 w HA.out.o.a (by decide) (by have := HA.out.l; omega)).mono ?_
    rintro e w3 ⟨rfl, v', d3⟩
    have HD3 := Keep.mk (HA.out.o.did d3)
    clear d3
    go_wp2_with fail
    go_end0
    exact ⟨rfl, v', HD3.out⟩
  · go_enter Tryz.func155, Tryz.ntmps155
    go_wp2_with fail
    refine (wNumber_c wb v st 2 1 w HA.out.o.a (by decide) (by have := HA.out.l; omega)).mono ?_
    rintro e w3 ⟨rfl, v', d3⟩
    have HD3 := Keep.mk (HA.out.o.did d3)
    clear d3
    go_wp2_with fail
    go_end0
    exact ⟨rfl, v', HD3.out⟩
  · go_enter Tryz.func155, Tryz.ntmps155
    go_wp2_with fail
    refine (wNumber_c wb v st 1 1 w HA.out.o.a (by decide) (by have := HA.out.l; omega)).mono ?_
    rintro e w3 ⟨rfl, v', d3⟩
    have HD3 := Keep.mk (HA.out.o.did d3)
    clear d3
    go_wp2_with fail
    go_end0
    exact ⟨rfl, v', HD3.out⟩
  · go_enter Tryz.func155, Tryz.ntmps155
    go_wp2_with fail
    refine (wNumber_c wb v st 3 1 w HA.out.o.a (by decide) (by have := HA.out.l; omega)).mono ?_
    rintro e w3 ⟨rfl, v', d3⟩
    have HD3 := Keep.mk (HA.out.o.did d3)
    clear d3
    go_wp2_with fail
    go_end0
    exact ⟨rfl, v', HD3.out⟩
set_option maxHeartbeats 8000000 in
set_option maxRecDepth 100000 in
theorem newO_c (s : ByteArray) (hs : s.size ≤ 1048576) (w : World) :
    Calls Tryz.prog 64 #[.string s] w fun e w' => ∃ ob wb v, e = .returned (pv ob) ∧ Ot w' ob wb v (some (sl s)) false ∧ w.grownBy w' none ∧ w.heap.size ≤ ob ∧ w.heap.size ≤ wb ∧ ∀ k, v.ownBlock = some k → w.heap.size ≤ k := by
  go_enter Tryz.func64, Tryz.ntmps64
  go_wp2_with fail
  refine (newW_c w).mono ?_
  rintro e w1 ⟨wb, rfl, a1, g1, e1⟩
  have hlt := a1.h.lt
  obtain ⟨w2, hw2⟩ : ∃ q, w1.alloc (.cells #[pv wb, .bool false] 174) = q := ⟨_, rfl⟩
  obtain ⟨ob, hob⟩ : ∃ q, w1.heap.size = q := ⟨_, rfl⟩
  have g2 : w1.grownBy w2 none := by rw [← hw2]; exact World.grownBy_alloc _ _ _
  have h2 : Has w2 ob [pv wb, .bool false] 174 := by rw [← hw2, ← hob]; exact Has.newA w1 _ 174
  have c0 : w2.cell? ⟨ob, 0, none⟩ = some (pv wb) := h2.cellv 0 _ rfl
  have HB : Keep (Ot w2 ob wb (.slice none 0 0) (some []) false ∧ w.grownBy w2 none ∧ w.heap.size ≤ wb ∧ w.heap.size ≤ ob) := ⟨⟨h2, a1.kept g2, by omega, by simp [Value.ownBlock]⟩, g1.trans g2, by omega, by have := g1.size; omega⟩
  clear a1 g1 e1 hlt g2 h2
  go_wp2_with fail
  refine (wBytes_c wb _ (some []) s w2 HB.out.1.a (by simp; omega)).mono ?_
  rintro e w3 ⟨rfl, v', d3⟩
  have d4 := HB.out.1.did d3
  have HC : Keep (Ot w3 ob wb v' (some (sl s)) false ∧ w.grownBy w3 none ∧ ∀ k, v'.ownBlock = some k → w.heap.size ≤ k) := ⟨by simpa [wBytes] using d4.a, fr_mine HB.out.2.1 d4.f (fun k e => by
      rcases e with e | e | e
      · have := HB.out.2.2.2; omega
      · have := HB.out.2.2.1; omega
      · simp [Value.ownBlock] at e), fun k e => by
    rcases d4.n k e with q | q
    · simp [Value.ownBlock] at q
    · exact Nat.le_trans HB.out.2.1.size q⟩
  clear d3 d4
  go_wp2
  go_ret
  exact ⟨ob, wb, v', rfl, HC.out.1, HC.out.2.1, HB.out.2.2.2, HB.out.2.2.1, HC.out.2.2⟩
set_option maxHeartbeats 8000000 in
set_option maxRecDepth 100000 in
theorem odone_a (ob wb : Nat) (v : Value) (r : Bool)  (w : World) (h : Ot w ob wb v none r) :
    Calls Tryz.prog 65 #[pv ob] w fun e w' => e = .returned (.tuple #[.string (ba []), .int .i64 73]) ∧ w.grownBy w' none := by
  have c0 : w.cell? ⟨ob, 0, none⟩ = some (pv wb) := h.h.cellv 0 _ rfl
  have HA : Keep (Ot w ob wb v none r) := ⟨h⟩
  clear h
  obtain ⟨S, hq⟩ : ∃ S, ba (none.getD []) = S := ⟨_, rfl⟩
  have HC : Keep (∀ W : World, w = W → Calls Tryz.prog 92 #[pv wb] W fun e w' => e = .returned (.tuple #[.string S, .int .i64 51]) ∧ W.grownBy w' none) := ⟨fun W e => by subst e; rw [← hq]; exact wDone_c wb v none w HA.out.a⟩
  clear hq 
  go_enter Tryz.func65, Tryz.ntmps65
  go_wp2_with fail
  refine (HC.out w rfl).mono ?_
  rintro e w1 ⟨rfl, g1⟩
  have c1 : w1.cell? ⟨ob, 1, none⟩ = some (.bool r) := (HA.out.kept g1).h.cellv 1 _ rfl
  have HG := Keep.mk g1
  clear g1 HC
  go_wp2
  go_ret2
  exact ⟨rfl, HG.out⟩
set_option maxHeartbeats 8000000 in
set_option maxRecDepth 100000 in
theorem odone_b (ob wb : Nat) (v : Value) (L : List UInt8)  (w : World) (h : Ot w ob wb v (some L) true) :
    Calls Tryz.prog 65 #[pv ob] w fun e w' => e = .returned (.tuple #[.string (ba []), .int .i64 73]) ∧ w.grownBy w' none := by
  have c0 : w.cell? ⟨ob, 0, none⟩ = some (pv wb) := h.h.cellv 0 _ rfl
  have HA : Keep (Ot w ob wb v (some L) true) := ⟨h⟩
  clear h
  obtain ⟨S, hq⟩ : ∃ S, ba ((some L).getD []) = S := ⟨_, rfl⟩
  have HC : Keep (∀ W : World, w = W → Calls Tryz.prog 92 #[pv wb] W fun e w' => e = .returned (.tuple #[.string S, .int .i64 0]) ∧ W.grownBy w' none) := ⟨fun W e => by subst e; rw [← hq]; exact wDone_c wb v (some L) w HA.out.a⟩
  clear hq 
  go_enter Tryz.func65, Tryz.ntmps65
  go_wp2_with fail
  refine (HC.out w rfl).mono ?_
  rintro e w1 ⟨rfl, g1⟩
  have c1 : w1.cell? ⟨ob, 1, none⟩ = some (.bool true) := (HA.out.kept g1).h.cellv 1 _ rfl
  have HG := Keep.mk g1
  clear g1 HC
  go_wp2
  go_ret2
  exact ⟨rfl, HG.out⟩
set_option maxHeartbeats 8000000 in
set_option maxRecDepth 100000 in
theorem odone_c' (ob wb : Nat) (v : Value) (L : List UInt8) (h12 : 1200 < L.length) (w : World) (h : Ot w ob wb v (some L) false) :
    Calls Tryz.prog 65 #[pv ob] w fun e w' => e = .returned (.tuple #[.string (ba []), .int .i64 72]) ∧ w.grownBy w' none := by
  have c0 : w.cell? ⟨ob, 0, none⟩ = some (pv wb) := h.h.cellv 0 _ rfl
  have HA : Keep (Ot w ob wb v (some L) false) := ⟨h⟩
  clear h
  obtain ⟨S, hq⟩ : ∃ S, ba ((some L).getD []) = S := ⟨_, rfl⟩
  have hsz : S.size = L.length := by rw [← hq]; simp [ByteArray.size]
  have hd : decide ((1200 : Int) < (S.size : Int)) = true := decide_eq_true (by omega)
  have HC : Keep (∀ W : World, w = W → Calls Tryz.prog 92 #[pv wb] W fun e w' => e = .returned (.tuple #[.string S, .int .i64 0]) ∧ W.grownBy w' none) := ⟨fun W e => by subst e; rw [← hq]; exact wDone_c wb v (some L) w HA.out.a⟩
  clear hq h12 hsz
  go_enter Tryz.func65, Tryz.ntmps65
  go_wp2_with fail
  refine (HC.out w rfl).mono ?_
  rintro e w1 ⟨rfl, g1⟩
  have c1 : w1.cell? ⟨ob, 1, none⟩ = some (.bool false) := (HA.out.kept g1).h.cellv 1 _ rfl
  have HG := Keep.mk g1
  clear g1 HC
  go_wp2
  go_ret2
  exact ⟨rfl, HG.out⟩
set_option maxHeartbeats 8000000 in
set_option maxRecDepth 100000 in
theorem odone_d (ob wb : Nat) (v : Value) (L : List UInt8) (h12 : ¬ 1200 < L.length) (w : World) (h : Ot w ob wb v (some L) false) :
    Calls Tryz.prog 65 #[pv ob] w fun e w' => e = .returned (.tuple #[.string (ba L), .int .i64 0]) ∧ w.grownBy w' none := by
  have c0 : w.cell? ⟨ob, 0, none⟩ = some (pv wb) := h.h.cellv 0 _ rfl
  have HA : Keep (Ot w ob wb v (some L) false) := ⟨h⟩
  clear h
  obtain ⟨S, hq⟩ : ∃ S, ba ((some L).getD []) = S := ⟨_, rfl⟩
  have hsz : S.size = L.length := by rw [← hq]; simp [ByteArray.size]
  have hd : decide ((1200 : Int) < (S.size : Int)) = false := decide_eq_false (by omega)
  have HQ : Keep (ba L = S) := ⟨hq⟩
  rw [HQ.out]
  have HC : Keep (∀ W : World, w = W → Calls Tryz.prog 92 #[pv wb] W fun e w' => e = .returned (.tuple #[.string S, .int .i64 0]) ∧ W.grownBy w' none) := ⟨fun W e => by subst e; rw [← hq]; exact wDone_c wb v (some L) w HA.out.a⟩
  clear hq h12 hsz
  go_enter Tryz.func65, Tryz.ntmps65
  go_wp2_with fail
  refine (HC.out w rfl).mono ?_
  rintro e w1 ⟨rfl, g1⟩
  have c1 : w1.cell? ⟨ob, 1, none⟩ = some (.bool false) := (HA.out.kept g1).h.cellv 1 _ rfl
  have HG := Keep.mk g1
  clear g1 HC
  go_wp2
  go_ret2
  exact ⟨rfl, HG.out⟩
set_option maxRecDepth 100000 in
theorem odone_c (ob wb : Nat) (v : Value) (st : WS) (r : Bool) (w : World) (h : Ot w ob wb v st r) :
    Calls Tryz.prog 65 #[pv ob] w fun e w' => e = .returned (.tuple #[.string (ba (finish (st, r)).1), .int .i64 (finish (st, r)).2]) ∧ w.grownBy w' none := by
  cases st with
  | none => exact odone_a ob wb v r w h
  | some L =>
    cases r
    · by_cases h12 : 1200 < L.length
      · have e : finish (some L, false) = ([], 72) := by simp [finish, h12]
        rw [e]; exact odone_c' ob wb v L h12 w h
      · have e : finish (some L, false) = (L, 0) := by simp [finish, h12]
        rw [e]; exact odone_d ob wb v L h12 w h
    · exact odone_b ob wb v L w h
end Go.Proofs.YtldnpebnpbahjaaGreatDoor.Pk
