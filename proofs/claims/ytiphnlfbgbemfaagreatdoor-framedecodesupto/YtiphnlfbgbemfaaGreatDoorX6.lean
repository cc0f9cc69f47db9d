import Derived.Test.YtiphnlfbgbemfaaGreatDoorX5
/- frame: fixed, zeros, flags laid; newOutput, done -/
namespace Go.Proofs.YtiphnlfbgbemfaaGreatDoor.Pk
open Go Go.RowKit

set_option maxHeartbeats 8000000 in
set_option maxRecDepth 100000 in
theorem fixed2_c (f k n db ob wb b1 b2 : Nat) (v : Value) (D : List Value) (st : WS) (r : Bool) (x : ByteArray) (hx : x.size ≤ 1099511627776) (w : World) (hf : Place f k) (h1 : Has w b1 [.int .i64 (n : Int)] 3) (h2 : Has w b2 [fv f] 108) (hb1 : ¬ OF ob wb v b1) (hb2 : ¬ OF ob wb v b2) (h : Lay w db ob wb v D st r) (hk : D[k]? = some (.string x)) :
    Calls Tryz.prog 119 #[pv db, pv ob, pv b2, pv b1] w fun e w' => e = .returned (.tuple #[]) ∧ ∃ v', OD w w' ob wb v (wBytes st (sl x)) (r || !decide (x.size = n)) v' := by
  obtain ⟨hcf, hf⟩ := hf
  have HA : Keep (Lay w.drew db ob wb v D st r ∧ x.size ≤ 1099511627776) := ⟨h.drew, hx⟩
  have HH : Keep (Has w.drew b1 [.int .i64 (n : Int)] 3 ∧ Has w.drew b2 [fv f] 108 ∧ Has w.drew db D 26) := ⟨h1.kept (gr_drew _ none) (by simp), h2.kept (gr_drew _ none) (by simp), h.drew.d⟩
  have HDK : Keep (D[k]? = some (.string x)) := ⟨hk⟩
  clear h h1 h2 hx hk
  go_enter Tryz.func119, Tryz.ntmps119
  go_wp2_with fail
  refine wp_region_held_drew (S := fun w' => Has w' b1 [.int .i64 (n : Int)] 3 ∧ Has w' b2 [fv f] 108 ∧ Has w' db D 26) (by kernel_rfl) HH.out (fun hHeld => ?_)
  refine wpAnyH_take (i := 0) (oi := _) (v := ?_) rfl (by kernel_rfl) (by kernel_rfl) (by kernel_rfl) (fun _ _ _ h => h) (Or.inl ⟨by rfl, ?_⟩) (by assumption) ?_
  rotate_left
  · (intro w hSw; go_simp; first | done | (with_reducible rfl))
  simp only [Act.put, List.getElem_toArray, List.getElem_cons_zero, List.setIfInBounds_toArray, List.set_cons_zero, List.set_cons_succ]
  refine wpAnyH_take (i := 1) (oi := _) (v := ?_) rfl (by kernel_rfl) (by kernel_rfl) (by kernel_rfl) (fun _ _ _ h => h) (Or.inl ⟨by rfl, ?_⟩) (by assumption) ?_
  rotate_left
  · (intro w hSw; have x1 := hSw.2.1.cellv 0 _ rfl; clear hSw; go_simp; first | done | (with_reducible rfl))
  simp only [Act.put, List.getElem_toArray, List.getElem_cons_succ, List.getElem_cons_zero, List.setIfInBounds_toArray, List.set_cons_zero, List.set_cons_succ]
  refine wpAnyH_take (i := 2) (oi := _) (v := ?_) rfl (by kernel_rfl) (by kernel_rfl) (by kernel_rfl) (fun _ _ _ h => h) (Or.inl ⟨by rfl, ?_⟩) (by assumption) ?_
  rotate_left
  · (intro w hSw; go_simp; first | done | (with_reducible rfl))
  simp only [Act.put, List.getElem_toArray, List.getElem_cons_succ, List.getElem_cons_zero, List.setIfInBounds_toArray, List.set_cons_zero, List.set_cons_succ]
  refine wpAnyH_take (i := 7) (oi := _) (v := ?_) rfl (by kernel_rfl) (by kernel_rfl) (by kernel_rfl) (fun _ _ _ h => h) (Or.inl ⟨by rfl, ?_⟩) (by assumption) ?_
  rotate_left
  · (intro w hSw; have x1 := hSw.1.cellv 0 _ rfl; clear hSw; go_simp; first | done | (with_reducible rfl))
  simp only [Act.put, List.getElem_toArray, List.getElem_cons_succ, List.getElem_cons_zero, List.setIfInBounds_toArray, List.set_cons_zero, List.set_cons_succ]
  refine wpAnyH_ready (rs := [3]) (by kernel_rfl) (by simp) ?_
  refine AllReadyH.cons rfl (fun K hK => ?_) AllReadyH.nil
  go_simp
  refine (hf db _).mono ?_
  rintro e w1 ⟨rfl, hw1⟩
  subst hw1
  refine hK.out _ _ HH.out (fun hHeld => ?_)
  clear hK K
  refine wpAnyH_take (i := 4) (oi := _) (v := ?_) rfl (by kernel_rfl) (by kernel_rfl) (by kernel_rfl) (fun _ _ _ h => h) (Or.inl ⟨by rfl, ?_⟩) (by assumption) ?_
  rotate_left
  · (intro w hSw; go_simp; first | done | (with_reducible rfl))
  simp only [Act.put, List.getElem_toArray, List.getElem_cons_succ, List.getElem_cons_zero, List.setIfInBounds_toArray, List.set_cons_zero, List.set_cons_succ]
  refine wpAnyH_take (i := 5) (oi := _) (v := ?_) rfl (by kernel_rfl) (by kernel_rfl) (by kernel_rfl) (fun _ _ _ h => h) (Or.inl ⟨by rfl, ?_⟩) (by assumption) ?_
  rotate_left
  · (intro w hSw; have x1 := hSw.2.2.cellv k _ HDK.out; clear hSw; go_simp; first | done | (with_reducible rfl))
  simp only [Act.put, List.getElem_toArray, List.getElem_cons_succ, List.getElem_cons_zero, List.setIfInBounds_toArray, List.set_cons_zero, List.set_cons_succ]
  refine wpAnyH_take (i := 6) (oi := _) (v := ?_) rfl (by kernel_rfl) (by kernel_rfl) (by kernel_rfl) (fun _ _ _ h => h) (Or.inl ⟨by rfl, ?_⟩) (by assumption) ?_
  rotate_left
  · (intro w hSw; go_simp; first | done | (with_reducible rfl))
  simp only [Act.put, List.getElem_toArray, List.getElem_cons_succ, List.getElem_cons_zero, List.setIfInBounds_toArray, List.set_cons_zero, List.set_cons_succ]
  refine wpAnyH_take (i := 8) (oi := _) (v := ?_) rfl (by kernel_rfl) (by kernel_rfl) (by kernel_rfl) (fun _ _ _ h => h) (Or.inl ⟨by rfl, ?_⟩) (by assumption) ?_
  rotate_left
  · (intro w hSw; go_simp; first | done | (with_reducible rfl))
  simp only [Act.put, List.getElem_toArray, List.getElem_cons_succ, List.getElem_cons_zero, List.setIfInBounds_toArray, List.set_cons_zero, List.set_cons_succ]
  refine wpAnyH_ready (rs := [9]) (by kernel_rfl) (by simp) ?_
  refine AllReadyH.cons rfl (fun K hK => ?_) AllReadyH.nil
  go_simp
  refine (oallow_c ob wb v st r _ _ HA.out.1.o).mono ?_
  rintro e w2 ⟨rfl, d2⟩
  have e0 : decide ((x.size : Int) = (n : Int)) = decide (x.size = n) := decide_eq_decide.2 (by omega)
  have HD : Keep (OD w w2 ob wb v st (r || !decide (x.size = n)) v) := ⟨by first | exact d2.ahead (gr_drew _ _) | (rw [← e0]; exact d2.ahead (gr_drew _ _))⟩
  have f2 : Fr (OF ob wb v) w.drew w2 := d2.f
  have HA2 : Keep (Lay w2.drew db ob wb v D st (r || !decide (x.size = n)) ∧ x.size ≤ 1099511627776) := ⟨Lay.drew ⟨HH.out.2.2.fr f2 HA.out.1.n, HD.out.a, HA.out.1.n, HA.out.1.l⟩, HA.out.2⟩
  have HH2 : Keep (Has w2.drew b1 [.int .i64 (n : Int)] 3 ∧ Has w2.drew b2 [fv f] 108 ∧ Has w2.drew db D 26 ∧ Has w2.drew ob [pv wb, .bool (r || !decide (x.size = n))] 91) := ⟨(HH.out.1.fr f2 hb1).kept (gr_drew _ none) (by simp), (HH.out.2.1.fr f2 hb2).kept (gr_drew _ none) (by simp), HA2.out.1.d, HA2.out.1.o.h⟩
  refine hK.out _ _ ⟨HH.out.1.fr f2 hb1, HH.out.2.1.fr f2 hb2, HH.out.2.2.fr f2 HA.out.1.n⟩ (fun hHeld => ?_)
  clear hHeld
  refine wpAnyH_done (by kernel_rfl) ?_ _
  clear hK K
  clear d2 f2 e0
  go_wp2_with fail
  refine wp_region_held_drew (S := fun w' => Has w' b1 [.int .i64 (n : Int)] 3 ∧ Has w' b2 [fv f] 108 ∧ Has w' db D 26 ∧ Has w' ob [pv wb, .bool (r || !decide (x.size = n))] 91) (by kernel_rfl) HH2.out (fun hHeld => ?_)
  refine wpAnyH_take (i := 0) (oi := _) (v := ?_) rfl (by kernel_rfl) (by kernel_rfl) (by kernel_rfl) (fun _ _ _ h => h) (Or.inl ⟨by rfl, ?_⟩) (by assumption) ?_
  rotate_left
  · (intro w hSw; go_simp; first | done | (with_reducible rfl))
  simp only [Act.put, List.getElem_toArray, List.getElem_cons_zero, List.setIfInBounds_toArray, List.set_cons_zero, List.set_cons_succ]
  refine wpAnyH_take (i := 1) (oi := _) (v := ?_) rfl (by kernel_rfl) (by kernel_rfl) (by kernel_rfl) (fun _ _ _ h => h) (Or.inl ⟨by rfl, ?_⟩) (by assumption) ?_
  rotate_left
  · (intro w hSw; go_simp; first | done | (with_reducible rfl))
  simp only [Act.put, List.getElem_toArray, List.getElem_cons_succ, List.getElem_cons_zero, List.setIfInBounds_toArray, List.set_cons_zero, List.set_cons_succ]
  refine wpAnyH_take (i := 2) (oi := _) (v := ?_) rfl (by kernel_rfl) (by kernel_rfl) (by kernel_rfl) (fun _ _ _ h => h) (Or.inl ⟨by rfl, ?_⟩) (by assumption) ?_
  rotate_left
  · (intro w hSw; go_simp; first | done | (with_reducible rfl))
  simp only [Act.put, List.getElem_toArray, List.getElem_cons_succ, List.getElem_cons_zero, List.setIfInBounds_toArray, List.set_cons_zero, List.set_cons_succ]
  refine wpAnyH_take (i := 3) (oi := _) (v := ?_) rfl (by kernel_rfl) (by kernel_rfl) (by kernel_rfl) (fun _ _ _ h => h) (Or.inl ⟨by rfl, ?_⟩) (by assumption) ?_
  rotate_left
  · (intro w hSw; have x1 := hSw.2.2.2.cellv 0 _ rfl; clear hSw; go_simp; first | done | (with_reducible rfl))
  simp only [Act.put, List.getElem_toArray, List.getElem_cons_succ, List.getElem_cons_zero, List.setIfInBounds_toArray, List.set_cons_zero, List.set_cons_succ]
  refine wpAnyH_take (i := 4) (oi := _) (v := ?_) rfl (by kernel_rfl) (by kernel_rfl) (by kernel_rfl) (fun _ _ _ h => h) (Or.inl ⟨by rfl, ?_⟩) (by assumption) ?_
  rotate_left
  · (intro w hSw; have x1 := hSw.2.1.cellv 0 _ rfl; clear hSw; go_simp; first | done | (with_reducible rfl))
  simp only [Act.put, List.getElem_toArray, List.getElem_cons_succ, List.getElem_cons_zero, List.setIfInBounds_toArray, List.set_cons_zero, List.set_cons_succ]
  refine wpAnyH_take (i := 5) (oi := _) (v := ?_) rfl (by kernel_rfl) (by kernel_rfl) (by kernel_rfl) (fun _ _ _ h => h) (Or.inl ⟨by rfl, ?_⟩) (by assumption) ?_
  rotate_left
  · (intro w hSw; go_simp; first | done | (with_reducible rfl))
  simp only [Act.put, List.getElem_toArray, List.getElem_cons_succ, List.getElem_cons_zero, List.setIfInBounds_toArray, List.set_cons_zero, List.set_cons_succ]
  refine wpAnyH_ready (rs := [6]) (by kernel_rfl) (by simp) ?_
  refine AllReadyH.cons rfl (fun K hK => ?_) AllReadyH.nil
  go_simp
  refine (hf db _).mono ?_
  rintro e w1 ⟨rfl, hw1⟩
  subst hw1
  refine hK.out _ _ HH2.out (fun hHeld => ?_)
  clear hK K
  refine wpAnyH_take (i := 7) (oi := _) (v := ?_) rfl (by kernel_rfl) (by kernel_rfl) (by kernel_rfl) (fun _ _ _ h => h) (Or.inl ⟨by rfl, ?_⟩) (by assumption) ?_
  rotate_left
  · (intro w hSw; go_simp; first | done | (with_reducible rfl))
  simp only [Act.put, List.getElem_toArray, List.getElem_cons_succ, List.getElem_cons_zero, List.setIfInBounds_toArray, List.set_cons_zero, List.set_cons_succ]
  refine wpAnyH_take (i := 8) (oi := _) (v := ?_) rfl (by kernel_rfl) (by kernel_rfl) (by kernel_rfl) (fun _ _ _ h => h) (Or.inl ⟨by rfl, ?_⟩) (by assumption) ?_
  rotate_left
  · (intro w hSw; have x1 := hSw.2.2.1.cellv k _ HDK.out; clear hSw; go_simp; first | done | (with_reducible rfl))
  simp only [Act.put, List.getElem_toArray, List.getElem_cons_succ, List.getElem_cons_zero, List.setIfInBounds_toArray, List.set_cons_zero, List.set_cons_succ]
  refine wpAnyH_ready (rs := [9]) (by kernel_rfl) (by simp) ?_
  refine AllReadyH.cons rfl (fun K hK => ?_) AllReadyH.nil
  go_simp
  refine (wBytes_c wb v st x _ HA2.out.1.o.a (by have := HA2.out.1.l; have := HA2.out.2; omega)).mono ?_
  rintro e w3 ⟨rfl, v', d3⟩
  have HD3 : Keep (OD w w3 ob wb v (wBytes st (sl x)) (r || !decide (x.size = n)) v') := ⟨HD.out.trans ((HA2.out.1.o.did d3).ahead (gr_drew _ _))⟩
  have f3 : Fr (OF ob wb v) w2.drew w3 := (HA2.out.1.o.did d3).f
  refine hK.out _ _ ⟨HH2.out.1.fr f3 hb1, HH2.out.2.1.fr f3 hb2, HH2.out.2.2.1.fr f3 HA2.out.1.n, HD3.out.a.h⟩ (fun hHeld => ?_)
  refine wpAnyH_done (by kernel_rfl) ?_ _
  clear hK K
  go_wp2_with fail
  go_end0
  exact ⟨rfl, v', HD3.out⟩
set_option maxHeartbeats 8000000 in
set_option maxRecDepth 100000 in
theorem zeros2_c (db ob wb zb : Nat) (v : Value) (D : List Value) (st : WS) (r : Bool) (Z : ByteArray) (hZ : Z.size ≤ 1099511627776) (w : World) (h1 : Has w zb [.string Z] 9) (hb : ¬ OF ob wb v zb) (h : Lay w db ob wb v D st r) :
    Calls Tryz.prog 87 #[pv db, pv ob, pv zb] w fun e w' => e = .returned (.tuple #[]) ∧ ∃ v', OD w w' ob wb v (wBytes st (sl Z)) r v' := by
  have HA : Keep (Lay w.drew db ob wb v D st r ∧ Z.size ≤ 1099511627776) := ⟨h.drew, hZ⟩
  have HH : Keep (Has w.drew zb [.string Z] 9 ∧ Has w.drew ob [pv wb, .bool r] 91) := ⟨h1.kept (gr_drew _ none) (by simp), h.drew.o.h⟩
  clear h h1 hZ
  go_enter Tryz.func87, Tryz.ntmps87
  go_wp2_with fail
  refine wp_region_held_drew (S := fun w' => Has w' zb [.string Z] 9 ∧ Has w' ob [pv wb, .bool r] 91) (by kernel_rfl) HH.out (fun hHeld => ?_)
  refine wpAnyH_take (i := 0) (oi := _) (v := ?_) rfl (by kernel_rfl) (by kernel_rfl) (by kernel_rfl) (fun _ _ _ h => h) (Or.inl ⟨by rfl, ?_⟩) (by assumption) ?_
  rotate_left
  · (intro w hSw; go_simp; first | done | (with_reducible rfl))
  simp only [Act.put, List.getElem_toArray, List.getElem_cons_zero, List.setIfInBounds_toArray, List.set_cons_zero, List.set_cons_succ]
  refine wpAnyH_take (i := 1) (oi := _) (v := ?_) rfl (by kernel_rfl) (by kernel_rfl) (by kernel_rfl) (fun _ _ _ h => h) (Or.inl ⟨by rfl, ?_⟩) (by assumption) ?_
  rotate_left
  · (intro w hSw; go_simp; first | done | (with_reducible rfl))
  simp only [Act.put, List.getElem_toArray, List.getElem_cons_succ, List.getElem_cons_zero, List.setIfInBounds_toArray, List.set_cons_zero, List.set_cons_succ]
  refine wpAnyH_take (i := 2) (oi := _) (v := ?_) rfl (by kernel_rfl) (by kernel_rfl) (by kernel_rfl) (fun _ _ _ h => h) (Or.inl ⟨by rfl, ?_⟩) (by assumption) ?_
  rotate_left
  · (intro w hSw; go_simp; first | done | (with_reducible rfl))
  simp only [Act.put, List.getElem_toArray, List.getElem_cons_succ, List.getElem_cons_zero, List.setIfInBounds_toArray, List.set_cons_zero, List.set_cons_succ]
  refine wpAnyH_take (i := 3) (oi := _) (v := ?_) rfl (by kernel_rfl) (by kernel_rfl) (by kernel_rfl) (fun _ _ _ h => h) (Or.inl ⟨by rfl, ?_⟩) (by assumption) ?_
  rotate_left
  · (intro w hSw; have x1 := hSw.2.cellv 0 _ rfl; clear hSw; go_simp; first | done | (with_reducible rfl))
  simp only [Act.put, List.getElem_toArray, List.getElem_cons_succ, List.getElem_cons_zero, List.setIfInBounds_toArray, List.set_cons_zero, List.set_cons_succ]
  refine wpAnyH_take (i := 4) (oi := _) (v := ?_) rfl (by kernel_rfl) (by kernel_rfl) (by kernel_rfl) (fun _ _ _ h => h) (Or.inl ⟨by rfl, ?_⟩) (by assumption) ?_
  rotate_left
  · (intro w hSw; have x1 := hSw.1.cellv 0 _ rfl; clear hSw; go_simp; first | done | (with_reducible rfl))
  simp only [Act.put, List.getElem_toArray, List.getElem_cons_succ, List.getElem_cons_zero, List.setIfInBounds_toArray, List.set_cons_zero, List.set_cons_succ]
  refine wpAnyH_ready (rs := [5]) (by kernel_rfl) (by simp) ?_
  refine AllReadyH.cons rfl (fun K hK => ?_) AllReadyH.nil
  go_simp
  refine (wBytes_c wb v st Z _ HA.out.1.o.a (by have := HA.out.1.l; have := HA.out.2; omega)).mono ?_
  rintro e w3 ⟨rfl, v', d3⟩
  have HD3 : Keep (OD w w3 ob wb v (wBytes st (sl Z)) r v') := ⟨(HA.out.1.o.did d3).ahead (gr_drew _ _)⟩
  have f3 : Fr (OF ob wb v) w.drew w3 := (HA.out.1.o.did d3).f
  refine hK.out _ _ ⟨HH.out.1.fr f3 hb, HD3.out.a.h⟩ (fun hHeld => ?_)
  refine wpAnyH_done (by kernel_rfl) ?_ _
  clear hK K
  go_wp2_with fail
  go_end0
  exact ⟨rfl, v', HD3.out⟩
set_option maxHeartbeats 8000000 in
set_option maxRecDepth 100000 in
theorem flags2_c (db ob wb : Nat) (v : Value) (D : List Value) (st : WS) (r fire boost : Bool) (w : World) (h : Lay w db ob wb v D st r) (h1 : D[11]? = some (.bool fire)) (h2 : D[12]? = some (.bool boost)) :
    Calls Tryz.prog 107 #[pv db, pv ob] w fun e w' => e = .returned (.tuple #[]) ∧ ∃ v', OD w w' ob wb v (wNum st ((if fire then 1 else 0) + (if boost then 2 else 0)) 1) r v' := by
  have HA : Keep (Lay w db ob wb v D st r) := ⟨h⟩
  have c1 : w.cell? ⟨db, 11, none⟩ = some (.bool fire) := h.d.cellv 11 _ h1
  have c2 : w.cell? ⟨db, 12, none⟩ = some (.bool boost) := h.d.cellv 12 _ h2
  have c3 : w.cell? ⟨ob, 0, none⟩ = some (pv wb) := h.o.h.cellv 0 _ rfl
  clear h h1 h2
  cases fire <;> cases boost
  · go_enter Tryz.func107, Tryz.ntmps107
    go_wp2_with fail
    refine (wNumber_c wb v st 0 1 w HA.out.o.a (by decide) (by have := HA.out.l; omega)).mono ?_
    rintro e w3 ⟨rfl, v', d3⟩
    have HD3 := Keep.mk (HA.out.o.did d3)
    clear d3
    go_wp2_with fail
    go_end0
    exact ⟨rfl, v', HD3.out⟩
  · go_enter Tryz.func107, Tryz.ntmps107
    go_wp2_with fail
    refine (wNumber_c wb v st 2 1 w HA.out.o.a (by decide) (by have := HA.out.l; omega)).mono ?_
    rintro e w3 ⟨rfl, v', d3⟩
    have HD3 := Keep.mk (HA.out.o.did d3)
    clear d3
    go_wp2_with fail
    go_end0
    exact ⟨rfl, v', HD3.out⟩
  · go_enter Tryz.func107, Tryz.ntmps107
    go_wp2_with fail
    refine (wNumber_c wb v st 1 1 w HA.out.o.a (by decide) (by have := HA.out.l; omega)).mono ?_
    rintro e w3 ⟨rfl, v', d3⟩
    have HD3 := Keep.mk (HA.out.o.did d3)
    clear d3
    go_wp2_with fail
    go_end0
    exact ⟨rfl, v', HD3.out⟩
  · go_enter Tryz.func107, Tryz.ntmps107
    go_wp2_with fail
    refine (wNumber_c wb v st 3 1 w HA.out.o.a (by decide) (by have := HA.out.l; omega)).mono ?_
    rintro e w3 ⟨rfl, v', d3⟩
    have HD3 := Keep.mk (HA.out.o.did d3)
    clear d3
    go_wp2_with fail
    go_end0
    exact ⟨rfl, v', HD3.out⟩
set_option maxHeartbeats 8000000 in
set_option maxRecDepth 100000 in
theorem newO_c (s : ByteArray) (hs : s.size ≤ 1048576) (w : World) :
    Calls Tryz.prog 32 #[.string s] w fun e w' => ∃ ob wb v, e = .returned (pv ob) ∧ Ot w' ob wb v (some (sl s)) false ∧ w.grownBy w' none ∧ w.heap.size ≤ ob ∧ w.heap.size ≤ wb ∧ ∀ k, v.ownBlock = some k → w.heap.size ≤ k := by
  go_enter Tryz.func32, Tryz.ntmps32
  go_wp2_with fail
  refine (newW_c w).mono ?_
  rintro e w1 ⟨wb, rfl, a1, g1, e1⟩
  have hlt := a1.h.lt
  obtain ⟨w2, hw2⟩ : ∃ q, w1.alloc (.cells #[pv wb, .bool false] 91) = q := ⟨_, rfl⟩
  obtain ⟨ob, hob⟩ : ∃ q, w1.heap.size = q := ⟨_, rfl⟩
  have g2 : w1.grownBy w2 none := by rw [← hw2]; exact World.grownBy_alloc _ _ _
  have h2 : Has w2 ob [pv wb, .bool false] 91 := by rw [← hw2, ← hob]; exact Has.newA w1 _ 91
  have c0 : w2.cell? ⟨ob, 0, none⟩ = some (pv wb) := h2.cellv 0 _ rfl
  have HB : Keep (Ot w2 ob wb (.slice none 0 0) (some []) false ∧ w.grownBy w2 none ∧ w.heap.size ≤ wb ∧ w.heap.size ≤ ob) := ⟨⟨h2, a1.kept g2, by omega, by simp [Value.ownBlock]⟩, g1.trans g2, by omega, by have := g1.size; omega⟩
  clear a1 g1 e1 hlt g2 h2
  go_wp2_with fail
  refine (wBytes_c wb _ (some []) s w2 HB.out.1.a (by simp; omega)).mono ?_
  rintro e w3 ⟨rfl, v', d3⟩
  have d4 := HB.out.1.did d3
  have HC : Keep (Ot w3 ob wb v' (some (sl s)) false ∧ w.grownBy w3 none ∧ ∀ k, v'.ownBlock = some k → w.heap.size ≤ k) := ⟨by simpa [wBytes] using d4.a, fr_mine HB.out.2.1 d4.f (fun k e => by
      rcases e with e | e | e
      · have := HB.out.2.2.2; omega
      · have := HB.out.2.2.1; omega
      · simp [Value.ownBlock] at e), fun k e => by
    rcases d4.n k e with q | q
    · simp [Value.ownBlock] at q
    · exact Nat.le_trans HB.out.2.1.size q⟩
  clear d3 d4
  go_wp2
  go_ret
  exact ⟨ob, wb, v', rfl, HC.out.1, HC.out.2.1, HB.out.2.2.2, HB.out.2.2.1, HC.out.2.2⟩
set_option maxHeartbeats 8000000 in
set_option maxRecDepth 100000 in
theorem odone_a (ob wb : Nat) (v : Value) (r : Bool)  (w : World) (h : Ot w ob wb v none r) :
    Calls Tryz.prog 33 #[pv ob] w fun e w' => e = .returned (.tuple #[.string (ba []), .int .i64 73]) ∧ w.grownBy w' none := by
  have c0 : w.cell? ⟨ob, 0, none⟩ = some (pv wb) := h.h.cellv 0 _ rfl
  have HA : Keep (Ot w ob wb v none r) := ⟨h⟩
  clear h
  obtain ⟨S, hq⟩ : ∃ S, ba (none.getD []) = S := ⟨_, rfl⟩
  have HC : Keep (∀ W : World, w = W → Calls Tryz.prog 70 #[pv wb] W fun e w' => e = .returned (.tuple #[.string S, .int .i64 51]) ∧ W.grownBy w' none) := ⟨fun W e => by subst e; rw [← hq]; exact wDone_c wb v none w HA.out.a⟩
  clear hq 
  go_enter Tryz.func33, Tryz.ntmps33
  go_wp2_with fail
  refine (HC.out w rfl).mono ?_
  rintro e w1 ⟨rfl, g1⟩
  have c1 : w1.cell? ⟨ob, 1, none⟩ = some (.bool r) := (HA.out.kept g1).h.cellv 1 _ rfl
  have HG := Keep.mk g1
  clear g1 HC
  go_wp2
  go_ret2
  exact ⟨rfl, HG.out⟩
set_option maxHeartbeats 8000000 in
set_option maxRecDepth 100000 in
theorem odone_b (ob wb : Nat) (v : Value) (L : List UInt8)  (w : World) (h : Ot w ob wb v (some L) true) :
    Calls Tryz.prog 33 #[pv ob] w fun e w' => e = .returned (.tuple #[.string (ba []), .int .i64 73]) ∧ w.grownBy w' none := by
  have c0 : w.cell? ⟨ob, 0, none⟩ = some (pv wb) := h.h.cellv 0 _ rfl
  have HA : Keep (Ot w ob wb v (some L) true) := ⟨h⟩
  clear h
  obtain ⟨S, hq⟩ : ∃ S, ba ((some L).getD []) = S := ⟨_, rfl⟩
  have HC : Keep (∀ W : World, w = W → Calls Tryz.prog 70 #[pv wb] W fun e w' => e = .returned (.tuple #[.string S, .int .i64 0]) ∧ W.grownBy w' none) := ⟨fun W e => by subst e; rw [← hq]; exact wDone_c wb v (some L) w HA.out.a⟩
  clear hq 
  go_enter Tryz.func33, Tryz.ntmps33
  go_wp2_with fail
  refine (HC.out w rfl).mono ?_
  rintro e w1 ⟨rfl, g1⟩
  have c1 : w1.cell? ⟨ob, 1, none⟩ = some (.bool true) := (HA.out.kept g1).h.cellv 1 _ rfl
  have HG := Keep.mk g1
  clear g1 HC
  go_wp2
  go_ret2
  exact ⟨rfl, HG.out⟩
set_option maxHeartbeats 8000000 in
set_option maxRecDepth 100000 in
theorem odone_c' (ob wb : Nat) (v : Value) (L : List UInt8) (h12 : 1200 < L.length) (w : World) (h : Ot w ob wb v (some L) false) :
    Calls Tryz.prog 33 #[pv ob] w fun e w' => e = .returned (.tuple #[.string (ba []), .int .i64 72]) ∧ w.grownBy w' none := by
  have c0 : w.cell? ⟨ob, 0, none⟩ = some (pv wb) := h.h.cellv 0 _ rfl
  have HA : Keep (Ot w ob wb v (some L) false) := ⟨h⟩
  clear h
  obtain ⟨S, hq⟩ : ∃ S, ba ((some L).getD []) = S := ⟨_, rfl⟩
  have hsz : S.size = L.length := by rw [← hq]; simp [ByteArray.size]
  have hd : decide ((1200 : Int) < (S.size : Int)) = true := decide_eq_true (by omega)
  have HC : Keep (∀ W : World, w = W → Calls Tryz.prog 70 #[pv wb] W fun e w' => e = .returned (.tuple #[.string S, .int .i64 0]) ∧ W.grownBy w' none) := ⟨fun W e => by subst e; rw [← hq]; exact wDone_c wb v (some L) w HA.out.a⟩
  clear hq h12 hsz
  go_enter Tryz.func33, Tryz.ntmps33
  go_wp2_with fail
  refine (HC.out w rfl).mono ?_
  rintro e w1 ⟨rfl, g1⟩
  have c1 : w1.cell? ⟨ob, 1, none⟩ = some (.bool false) := (HA.out.kept g1).h.cellv 1 _ rfl
  have HG := Keep.mk g1
  clear g1 HC
  go_wp2
  go_ret2
  exact ⟨rfl, HG.out⟩
set_option maxHeartbeats 8000000 in
set_option maxRecDepth 100000 in
theorem odone_d (ob wb : Nat) (v : Value) (L : List UInt8) (h12 : ¬ 1200 < L.length) (w : World) (h : Ot w ob wb v (some L) false) :
    Calls Tryz.prog 33 #[pv ob] w fun e w' => e = .returned (.tuple #[.string (ba L), .int .i64 0]) ∧ w.grownBy w' none := by
  have c0 : w.cell? ⟨ob, 0, none⟩ = some (pv wb) := h.h.cellv 0 _ rfl
  have HA : Keep (Ot w ob wb v (some L) false) := ⟨h⟩
  clear h
  obtain ⟨S, hq⟩ : ∃ S, ba ((some L).getD []) = S := ⟨_, rfl⟩
  have hsz : S.size = L.length := by rw [← hq]; simp [ByteArray.size]
  have hd : decide ((1200 : Int) < (S.size : Int)) = false := decide_eq_false (by omega)
  have HQ : Keep (ba L = S) := ⟨hq⟩
  rw [HQ.out]
  have HC : Keep (∀ W : World, w = W → Calls Tryz.prog 70 #[pv wb] W fun e w' => e = .returned (.tuple #[.string S, .int .i64 0]) ∧ W.grownBy w' none) := ⟨fun W e => by subst e; rw [← hq]; exact wDone_c wb v (some L) w HA.out.a⟩
  clear hq h12 hsz
  go_enter Tryz.func33, Tryz.ntmps33
  go_wp2_with fail
  refine (HC.out w rfl).mono ?_
  rintro e w1 ⟨rfl, g1⟩
  have c1 : w1.cell? ⟨ob, 1, none⟩ = some (.bool false) := (HA.out.kept g1).h.cellv 1 _ rfl
  have HG := Keep.mk g1
  clear g1 HC
  go_wp2
  go_ret2
  exact ⟨rfl, HG.out⟩
theorem odone_c (ob wb : Nat) (v : Value) (st : WS) (r : Bool) (w : World) (h : Ot w ob wb v st r) :
    Calls Tryz.prog 33 #[pv ob] w fun e w' => e = .returned (.tuple #[.string (ba (finish (st, r)).1), .int .i64 (finish (st, r)).2]) ∧ w.grownBy w' none := by
  cases st with
  | none => exact odone_a ob wb v r w h
  | some L =>
    cases r
    · by_cases h12 : 1200 < L.length
      · have e : finish (some L, false) = ([], 72) := by simp [finish, h12]
        rw [e]; exact odone_c' ob wb v L h12 w h
      · have e : finish (some L, false) = (L, 0) := by simp [finish, h12]
        rw [e]; exact odone_d ob wb v L h12 w h
    · exact odone_b ob wb v L w h
end Go.Proofs.YtiphnlfbgbemfaaGreatDoor.Pk

/- what each field's second function does; the fields -/
namespace Go.Proofs.YtiphnlfbgbemfaaGreatDoor.Pk
open Go Go.RowKit

/-- its texts are no longer than that -/
structure Dg.small (d : Dg) : Prop where
  n : d.nonce.size ≤ 1099511627776
  c : d.cookie.size ≤ 1099511627776
  m : d.name.size ≤ 1099511627776
  s : d.salt.size ≤ 1099511627776
  dt : d.data.size ≤ 1099511627776
  t : d.tag.size ≤ 1099511627776
def LayC (w : World) (f : Fd) (n : Nat) (c : Array Value) : Prop :=
  Enters n ∧ ∀ (W : World) (db ob wb : Nat) (v : Value) (d : Dg) (st : WS) (r : Bool), w.grownBy W none → w.heap.size ≤ ob → w.heap.size ≤ wb → (∀ k, v.ownBlock = some k → w.heap.size ≤ k) → Lay W db ob wb v d.cells st r → d.fine → d.small →
    Calls Tryz.prog n (#[pv db, pv ob] ++ c) W fun e w' => e = .returned (.tuple #[]) ∧ ∃ v', OD W w' ob wb v (ly d f (st, r)).1 (ly d f (st, r)).2 v'
theorem LayC.kept {w w' : World} {f : Fd} {n : Nat} {c : Array Value} (h : LayC w f n c) (g : w.grownBy w' none) : LayC w' f n c :=
  ⟨h.1, fun W db ob wb v d st r gW l1 l2 l3 t => h.2 W db ob wb v d st r (g.trans gW) (Nat.le_trans g.size l1) (Nat.le_trans g.size l2) (fun k e => Nat.le_trans g.size (l3 k e)) t⟩
theorem not_of {w : World} {ob wb : Nat} {v : Value} {b : Nat} (hb : b < w.heap.size) (l1 : w.heap.size ≤ ob) (l2 : w.heap.size ≤ wb) (l3 : ∀ k, v.ownBlock = some k → w.heap.size ≤ k) : ¬ OF ob wb v b := by
  rintro (e | e | e)
  · omega
  · omega
  · have := l3 _ e; omega
/-- a field's two functions -/
def FieldC (w : World) (f : Fd) (vt vl : Value) : Prop := ∃ nt ct nl cl, vt = .func (.func nt) #[] ct ∧ vl = .func (.func nl) #[] cl ∧ TakeC w f nt ct ∧ LayC w f nl cl
theorem FieldC.kept {w w' : World} {f : Fd} {vt vl : Value} (h : FieldC w f vt vl) (g : w.grownBy w' none) : FieldC w' f vt vl := by
  obtain ⟨nt, ct, nl, cl, e1, e2, h1, h2⟩ := h
  exact ⟨nt, ct, nl, cl, e1, e2, h1.kept g, h2.kept g⟩
set_option maxRecDepth 100000 in
theorem en119 : Enters 119 := fun _ _ => by kernel_rfl
set_option maxRecDepth 100000 in
theorem en124 : Enters 124 := fun _ _ => by kernel_rfl
set_option maxRecDepth 100000 in
theorem en130 : Enters 130 := fun _ _ => by kernel_rfl
set_option maxRecDepth 100000 in
theorem en99 : Enters 99 := fun _ _ => by kernel_rfl
set_option maxRecDepth 100000 in
theorem en107 : Enters 107 := fun _ _ => by kernel_rfl
set_option maxRecDepth 100000 in
theorem en93 : Enters 93 := fun _ _ => by kernel_rfl
set_option maxRecDepth 100000 in
theorem en110 : Enters 110 := fun _ _ => by kernel_rfl
set_option maxRecDepth 100000 in
theorem en87 : Enters 87 := fun _ _ => by kernel_rfl
set_option maxHeartbeats 8000000 in
set_option maxRecDepth 100000 in
theorem ly_nonce (w : World) (b1 b2 : Nat) (h1 : Has w b1 [.int .i64 (16 : Nat)] 3) (h2 : Has w b2 [fv 83] 108) : LayC w .nonce 119 #[pv b2, pv b1] := by
  refine ⟨en119, fun W db ob wb v d st r g l1 l2 l3 t fi sm => ?_⟩
  show Calls Tryz.prog 119 #[pv db, pv ob, pv b2, pv b1] W _
  exact fixed2_c 83 1 16 db ob wb b1 b2 v d.cells st r d.nonce sm.n W p83 (h1.kept g (by simp)) (h2.kept g (by simp)) (not_of h1.lt l1 l2 l3) (not_of h2.lt l1 l2 l3) t rfl
set_option maxHeartbeats 8000000 in
set_option maxRecDepth 100000 in
theorem ly_salt (w : World) (b1 b2 : Nat) (h1 : Has w b1 [.int .i64 (16 : Nat)] 3) (h2 : Has w b2 [fv 101] 108) : LayC w .salt 119 #[pv b2, pv b1] := by
  refine ⟨en119, fun W db ob wb v d st r g l1 l2 l3 t fi sm => ?_⟩
  show Calls Tryz.prog 119 #[pv db, pv ob, pv b2, pv b1] W _
  exact fixed2_c 101 7 16 db ob wb b1 b2 v d.cells st r d.salt sm.s W p101 (h1.kept g (by simp)) (h2.kept g (by simp)) (not_of h1.lt l1 l2 l3) (not_of h2.lt l1 l2 l3) t rfl
set_option maxHeartbeats 8000000 in
set_option maxRecDepth 100000 in
theorem ly_cookie (w : World) (b1 b2 : Nat) (h1 : Has w b1 [.int .i64 (32 : Nat)] 3) (h2 : Has w b2 [fv 90] 108) : LayC w .cookie 119 #[pv b2, pv b1] := by
  refine ⟨en119, fun W db ob wb v d st r g l1 l2 l3 t fi sm => ?_⟩
  show Calls Tryz.prog 119 #[pv db, pv ob, pv b2, pv b1] W _
  exact fixed2_c 90 3 32 db ob wb b1 b2 v d.cells st r d.cookie sm.c W p90 (h1.kept g (by simp)) (h2.kept g (by simp)) (not_of h1.lt l1 l2 l3) (not_of h2.lt l1 l2 l3) t rfl
set_option maxHeartbeats 8000000 in
set_option maxRecDepth 100000 in
theorem ly_tag (w : World) (b1 b2 : Nat) (h1 : Has w b1 [.int .i64 (32 : Nat)] 3) (h2 : Has w b2 [fv 95] 108) : LayC w .tag 119 #[pv b2, pv b1] := by
  refine ⟨en119, fun W db ob wb v d st r g l1 l2 l3 t fi sm => ?_⟩
  show Calls Tryz.prog 119 #[pv db, pv ob, pv b2, pv b1] W _
  exact fixed2_c 95 14 32 db ob wb b1 b2 v d.cells st r d.tag sm.t W p95 (h1.kept g (by simp)) (h2.kept g (by simp)) (not_of h1.lt l1 l2 l3) (not_of h2.lt l1 l2 l3) t rfl
set_option maxHeartbeats 8000000 in
set_option maxRecDepth 100000 in
theorem ly_epoch (w : World) (b1 : Nat) (h1 : Has w b1 [fv 89] 113) : LayC w .epoch 124 #[pv b1] := by
  refine ⟨en124, fun W db ob wb v d st r g l1 l2 l3 t fi sm => ?_⟩
  show Calls Tryz.prog 124 #[pv db, pv ob, pv b1] W _
  exact long2_c 89 2 db ob wb b1 v d.cells st r d.epoch fi.e W p89 (h1.kept g (by simp)) (not_of h1.lt l1 l2 l3) t rfl
set_option maxHeartbeats 8000000 in
set_option maxRecDepth 100000 in
theorem ly_session (w : World) (b1 : Nat) (h1 : Has w b1 [fv 96] 113) : LayC w .session 124 #[pv b1] := by
  refine ⟨en124, fun W db ob wb v d st r g l1 l2 l3 t fi sm => ?_⟩
  show Calls Tryz.prog 124 #[pv db, pv ob, pv b1] W _
  exact long2_c 96 5 db ob wb b1 v d.cells st r d.session fi.s W p96 (h1.kept g (by simp)) (not_of h1.lt l1 l2 l3) t rfl
set_option maxHeartbeats 8000000 in
set_option maxRecDepth 100000 in
theorem ly_seq (w : World) (b1 : Nat) (h1 : Has w b1 [fv 102] 113) : LayC w .seq 124 #[pv b1] := by
  refine ⟨en124, fun W db ob wb v d st r g l1 l2 l3 t fi sm => ?_⟩
  show Calls Tryz.prog 124 #[pv db, pv ob, pv b1] W _
  exact long2_c 102 8 db ob wb b1 v d.cells st r d.seq fi.q W p102 (h1.kept g (by simp)) (not_of h1.lt l1 l2 l3) t rfl
set_option maxHeartbeats 8000000 in
set_option maxRecDepth 100000 in
theorem ly_thr (w : World) (b1 : Nat) (h1 : Has w b1 [fv 104] 118) : LayC w .thr 130 #[pv b1] := by
  refine ⟨en130, fun W db ob wb v d st r g l1 l2 l3 t fi sm => ?_⟩
  show Calls Tryz.prog 130 #[pv db, pv ob, pv b1] W _
  exact lever2_c 104 9 db ob wb b1 v d.cells st r d.thr fi.h W p104 (h1.kept g (by simp)) (not_of h1.lt l1 l2 l3) t rfl
set_option maxHeartbeats 8000000 in
set_option maxRecDepth 100000 in
theorem ly_turn (w : World) (b1 : Nat) (h1 : Has w b1 [fv 105] 118) : LayC w .turn 130 #[pv b1] := by
  refine ⟨en130, fun W db ob wb v d st r g l1 l2 l3 t fi sm => ?_⟩
  show Calls Tryz.prog 130 #[pv db, pv ob, pv b1] W _
  exact lever2_c 105 10 db ob wb b1 v d.cells st r d.turn fi.t W p105 (h1.kept g (by simp)) (not_of h1.lt l1 l2 l3) t rfl
set_option maxHeartbeats 8000000 in
set_option maxRecDepth 100000 in
theorem ly_player (w : World) : LayC w .player 99 #[] := by
  refine ⟨en99, fun W db ob wb v d st r g l1 l2 l3 t fi sm => ?_⟩
  show Calls Tryz.prog 99 #[pv db, pv ob] W _
  exact player2_c db ob wb v d.cells st r d.player fi.p W t rfl
set_option maxHeartbeats 8000000 in
set_option maxRecDepth 100000 in
theorem ly_name (w : World) : LayC w .name 93 #[] := by
  refine ⟨en93, fun W db ob wb v d st r g l1 l2 l3 t fi sm => ?_⟩
  show Calls Tryz.prog 93 #[pv db, pv ob] W _
  exact name2_c db ob wb v d.cells st r d.name sm.m W t rfl
set_option maxHeartbeats 8000000 in
set_option maxRecDepth 100000 in
theorem ly_view (w : World) : LayC w .view 110 #[] := by
  refine ⟨en110, fun W db ob wb v d st r g l1 l2 l3 t fi sm => ?_⟩
  show Calls Tryz.prog 110 #[pv db, pv ob] W _
  exact view2_c db ob wb v d.cells st r d.data sm.dt W t rfl
set_option maxHeartbeats 8000000 in
set_option maxRecDepth 100000 in
theorem ly_flags (w : World) : LayC w .flags 107 #[] := by
  refine ⟨en107, fun W db ob wb v d st r g l1 l2 l3 t fi sm => ?_⟩
  show Calls Tryz.prog 107 #[pv db, pv ob] W _
  exact flags2_c db ob wb v d.cells st r d.fire d.boost W t rfl rfl
set_option maxHeartbeats 8000000 in
set_option maxRecDepth 100000 in
theorem ly_zeros (w : World) (zb : Nat) (hz : Has w zb [.string (ba zero76)] 9) : LayC w .zeros 87 #[pv zb] := by
  refine ⟨en87, fun W db ob wb v d st r g l1 l2 l3 t fi sm => ?_⟩
  show Calls Tryz.prog 87 #[pv db, pv ob, pv zb] W _
  have := zeros2_c db ob wb zb v d.cells st r (ba zero76) (by decide) W (hz.kept g (by simp)) (not_of hz.lt l1 l2 l3) t
  rw [show sl (ba zero76) = zero76 from sl_mk _] at this
  exact this

set_option maxRecDepth 100000 in
theorem under57 : ∃ d, Tryz.prog.underlying 57 = some d ∧ d.isRow = true := ⟨_, Tryz.underlying57, rfl⟩
set_option maxRecDepth 100000 in
theorem info57 : (Tryz.prog.info? 57).map (·.size) = some 2 := by kernel_rfl
abbrev fc (n : Nat) (c : Array Value) : Value := .func (.func n) #[] c
theorem hs1 (w : World) (x : Obj) : (w.alloc x).heap.size = w.heap.size + 1 := by simp
theorem three (w : World) (a b c : Array Value) (s t u : TypeId) :
    Has (((w.alloc (.cells a s)).alloc (.cells b t)).alloc (.cells c u)) w.heap.size a.toList s ∧ Has (((w.alloc (.cells a s)).alloc (.cells b t)).alloc (.cells c u)) (w.heap.size + 1) b.toList t ∧ Has (((w.alloc (.cells a s)).alloc (.cells b t)).alloc (.cells c u)) (w.heap.size + 1 + 1) c.toList u ∧ w.grownBy (((w.alloc (.cells a s)).alloc (.cells b t)).alloc (.cells c u)) none := by
  refine ⟨((Has.newA w a s).alloc _).alloc _, ?_, ?_, ((World.grownBy_alloc _ _ _).trans (World.grownBy_alloc _ _ _)).trans (World.grownBy_alloc _ _ _)⟩
  · have := (Has.newA (w.alloc (.cells a s)) b t).alloc (.cells c u)
    rw [hs1] at this; exact this
  · have := Has.newA ((w.alloc (.cells a s)).alloc (.cells b t)) c u
    rw [hs1, hs1] at this; exact this
theorem two (w : World) (a b : Array Value) (s t : TypeId) :
    Has ((w.alloc (.cells a s)).alloc (.cells b t)) w.heap.size a.toList s ∧ Has ((w.alloc (.cells a s)).alloc (.cells b t)) (w.heap.size + 1) b.toList t ∧ w.grownBy ((w.alloc (.cells a s)).alloc (.cells b t)) none := by
  refine ⟨(Has.newA w a s).alloc _, ?_, (World.grownBy_alloc _ _ _).trans (World.grownBy_alloc _ _ _)⟩
  have := Has.newA (w.alloc (.cells a s)) b t
  rw [hs1] at this; exact this
abbrev MF : Prop := ∀ (fn : Fn) (first cap : Array Value) (w : World), (Instr.makeFunc fn first cap).run Tryz.prog w = .ok (.func fn first cap) w
set_option maxHeartbeats 8000000 in
set_option maxRecDepth 100000 in
theorem fixed_c (n : Int) (pl : Nat) (w : World) :
    Calls Tryz.prog 82 #[.int .i64 n, fv pl] w fun e w' => ∃ b1 b2, e = .returned (.agg #[fc 118 #[pv b1, pv b2], fc 119 #[pv b2, pv b1]]) ∧ Has w' b1 [.int .i64 n] 3 ∧ Has w' b2 [fv pl] 108 ∧ w.grownBy w' none := by
  have hmf : MF := fun _ _ _ _ => rfl
  obtain ⟨d, hd, hr⟩ := under57
  go_enter Tryz.func82, Tryz.ntmps82
  go_wp2
  obtain ⟨h1, h2, h3, g⟩ := three w #[.int .i64 n] #[fv pl] #[fc 118 #[pv w.heap.size, pv (w.heap.size + 1)], fc 119 #[pv (w.heap.size + 1), pv w.heap.size]] 3 108 57
  exact ret_cell rfl rfl h3 hd hr info57 rfl ⟨w.heap.size, w.heap.size + 1, rfl, h1, h2, g⟩
set_option maxHeartbeats 8000000 in
set_option maxRecDepth 100000 in
theorem long_c (pl : Nat) (w : World) :
    Calls Tryz.prog 88 #[fv pl] w fun e w' => ∃ b1, e = .returned (.agg #[fc 123 #[pv b1], fc 124 #[pv b1]]) ∧ Has w' b1 [fv pl] 113 ∧ w.grownBy w' none := by
  have hmf : MF := fun _ _ _ _ => rfl
  obtain ⟨d, hd, hr⟩ := under57
  go_enter Tryz.func88, Tryz.ntmps88
  go_wp2
  obtain ⟨h1, h3, g⟩ := two w #[fv pl] #[fc 123 #[pv w.heap.size], fc 124 #[pv w.heap.size]] 113 57
  exact ret_cell rfl rfl h3 hd hr info57 rfl ⟨w.heap.size, rfl, h1, g⟩
set_option maxHeartbeats 8000000 in
set_option maxRecDepth 100000 in
theorem lever_c (pl : Nat) (w : World) :
    Calls Tryz.prog 103 #[fv pl] w fun e w' => ∃ b1, e = .returned (.agg #[fc 128 #[pv b1], fc 130 #[pv b1]]) ∧ Has w' b1 [fv pl] 118 ∧ w.grownBy w' none := by
  have hmf : MF := fun _ _ _ _ => rfl
  obtain ⟨d, hd, hr⟩ := under57
  go_enter Tryz.func103, Tryz.ntmps103
  go_wp2
  obtain ⟨h1, h3, g⟩ := two w #[fv pl] #[fc 128 #[pv w.heap.size], fc 130 #[pv w.heap.size]] 118 57
  exact ret_cell rfl rfl h3 hd hr info57 rfl ⟨w.heap.size, rfl, h1, g⟩
/-- a function that makes a field -/
def Makes (F : Nat) (f : Fd) : Prop := ∀ w : World, Calls Tryz.prog F #[] w fun e w' => ∃ vt vl, e = .returned (.agg #[vt, vl]) ∧ FieldC w' f vt vl ∧ w.grownBy w' none
set_option maxHeartbeats 8000000 in
set_option maxRecDepth 100000 in
theorem mk_nonce : Makes 52 .nonce := fun w => by
  obtain ⟨d, hd, hr⟩ := under57
  go_enter Tryz.func52, Tryz.ntmps52
  go_wp2_with fail
  refine (fixed_c 16 83 _).mono ?_
  rintro e w2 ⟨b1, b2, rfl, h1, h2, g⟩
  have g3 := g
  have h0 : Has w2 w.heap.size [.nilFunc, .nilFunc] 57 := (Has.newA w #[.nilFunc, .nilFunc] 57).kept g (by simp)
  have hne : b1 ≠ w.heap.size ∧ b2 ≠ w.heap.size := ⟨fun e => (by rw [e] at h1; have := h0.symm.trans h1; simp at this), fun e => (by rw [e] at h2; have := h0.symm.trans h2; simp at this)⟩
  have c0 : w2.cell? ⟨w.heap.size, 0, none⟩ = some .nilFunc := h0.cellv 0 _ rfl
  have c1 : w2.cell? ⟨w.heap.size, 1, none⟩ = some .nilFunc := h0.cellv 1 _ rfl
  have z0 : w2.frozen? ⟨w.heap.size, 0, none⟩ = false := h0.frozen 0
  have z1 : w2.frozen? ⟨w.heap.size, 1, none⟩ = false := h0.frozen 1
  have HE : Keep (Has ((w2.setCell ⟨w.heap.size, 0, none⟩ (fc 118 #[pv b1, pv b2])).setCell ⟨w.heap.size, 1, none⟩ (fc 119 #[pv b2, pv b1])) w.heap.size [fc 118 #[pv b1, pv b2], fc 119 #[pv b2, pv b1]] 57 ∧ w.grownBy ((w2.setCell ⟨w.heap.size, 0, none⟩ (fc 118 #[pv b1, pv b2])).setCell ⟨w.heap.size, 1, none⟩ (fc 119 #[pv b2, pv b1])) none ∧ FieldC ((w2.setCell ⟨w.heap.size, 0, none⟩ (fc 118 #[pv b1, pv b2])).setCell ⟨w.heap.size, 1, none⟩ (fc 119 #[pv b2, pv b1])) .nonce (fc 118 #[pv b1, pv b2]) (fc 119 #[pv b2, pv b1])) := by
    have g5 : w2.grownBy ((w2.setCell ⟨w.heap.size, 0, none⟩ (fc 118 #[pv b1, pv b2])).setCell ⟨w.heap.size, 1, none⟩ (fc 119 #[pv b2, pv b1])) (some w.heap.size) := (gr_set _ _ _ _).trans (gr_set _ _ _ _)
    refine ⟨(h0.setCell 0 (fc 118 #[pv b1, pv b2])).setCell 1 (fc 119 #[pv b2, pv b1]), gr_new ((World.grownBy_alloc w (.cells #[.nilFunc, .nilFunc] 57) none).trans g) g5 (Nat.le_refl _), 118, #[pv b1, pv b2], 119, #[pv b2, pv b1], rfl, rfl, ?_, ?_⟩
    · exact tk_nonce _ b1 b2 (h1.kept g5 (by simp; omega)) (h2.kept g5 (by simp; omega))
    · exact ly_nonce _ b1 b2 (h1.kept g5 (by simp; omega)) (h2.kept g5 (by simp; omega))
  clear h0 hne g g3 h1 h2
  go_wp2
  exact ret_cell rfl rfl HE.out.1 hd hr info57 rfl ⟨_, _, rfl, HE.out.2.2, HE.out.2.1⟩
set_option maxHeartbeats 8000000 in
set_option maxRecDepth 100000 in
theorem mk_cookie : Makes 55 .cookie := fun w => by
  obtain ⟨d, hd, hr⟩ := under57
  go_enter Tryz.func55, Tryz.ntmps55
  go_wp2_with fail
  refine (fixed_c 32 90 _).mono ?_
  rintro e w2 ⟨b1, b2, rfl, h1, h2, g⟩
  have g3 := g
  have h0 : Has w2 w.heap.size [.nilFunc, .nilFunc] 57 := (Has.newA w #[.nilFunc, .nilFunc] 57).kept g (by simp)
  have hne : b1 ≠ w.heap.size ∧ b2 ≠ w.heap.size := ⟨fun e => (by rw [e] at h1; have := h0.symm.trans h1; simp at this), fun e => (by rw [e] at h2; have := h0.symm.trans h2; simp at this)⟩
  have c0 : w2.cell? ⟨w.heap.size, 0, none⟩ = some .nilFunc := h0.cellv 0 _ rfl
  have c1 : w2.cell? ⟨w.heap.size, 1, none⟩ = some .nilFunc := h0.cellv 1 _ rfl
  have z0 : w2.frozen? ⟨w.heap.size, 0, none⟩ = false := h0.frozen 0
  have z1 : w2.frozen? ⟨w.heap.size, 1, none⟩ = false := h0.frozen 1
  have HE : Keep (Has ((w2.setCell ⟨w.heap.size, 0, none⟩ (fc 118 #[pv b1, pv b2])).setCell ⟨w.heap.size, 1, none⟩ (fc 119 #[pv b2, pv b1])) w.heap.size [fc 118 #[pv b1, pv b2], fc 119 #[pv b2, pv b1]] 57 ∧ w.grownBy ((w2.setCell ⟨w.heap.size, 0, none⟩ (fc 118 #[pv b1, pv b2])).setCell ⟨w.heap.size, 1, none⟩ (fc 119 #[pv b2, pv b1])) none ∧ FieldC ((w2.setCell ⟨w.heap.size, 0, none⟩ (fc 118 #[pv b1, pv b2])).setCell ⟨w.heap.size, 1, none⟩ (fc 119 #[pv b2, pv b1])) .cookie (fc 118 #[pv b1, pv b2]) (fc 119 #[pv b2, pv b1])) := by
    have g5 : w2.grownBy ((w2.setCell ⟨w.heap.size, 0, none⟩ (fc 118 #[pv b1, pv b2])).setCell ⟨w.heap.size, 1, none⟩ (fc 119 #[pv b2, pv b1])) (some w.heap.size) := (gr_set _ _ _ _).trans (gr_set _ _ _ _)
    refine ⟨(h0.setCell 0 (fc 118 #[pv b1, pv b2])).setCell 1 (fc 119 #[pv b2, pv b1]), gr_new ((World.grownBy_alloc w (.cells #[.nilFunc, .nilFunc] 57) none).trans g) g5 (Nat.le_refl _), 118, #[pv b1, pv b2], 119, #[pv b2, pv b1], rfl, rfl, ?_, ?_⟩
    · exact tk_cookie _ b1 b2 (h1.kept g5 (by simp; omega)) (h2.kept g5 (by simp; omega))
    · exact ly_cookie _ b1 b2 (h1.kept g5 (by simp; omega)) (h2.kept g5 (by simp; omega))
  clear h0 hne g g3 h1 h2
  go_wp2
  exact ret_cell rfl rfl HE.out.1 hd hr info57 rfl ⟨_, _, rfl, HE.out.2.2, HE.out.2.1⟩
set_option maxHeartbeats 8000000 in
set_option maxRecDepth 100000 in
theorem mk_tag : Makes 57 .tag := fun w => by
  obtain ⟨d, hd, hr⟩ := under57
  go_enter Tryz.func57, Tryz.ntmps57
  go_wp2_with fail
  refine (fixed_c 32 95 _).mono ?_
  rintro e w2 ⟨b1, b2, rfl, h1, h2, g⟩
  have g3 := g
  have h0 : Has w2 w.heap.size [.nilFunc, .nilFunc] 57 := (Has.newA w #[.nilFunc, .nilFunc] 57).kept g (by simp)
  have hne : b1 ≠ w.heap.size ∧ b2 ≠ w.heap.size := ⟨fun e => (by rw [e] at h1; have := h0.symm.trans h1; simp at this), fun e => (by rw [e] at h2; have := h0.symm.trans h2; simp at this)⟩
  have c0 : w2.cell? ⟨w.heap.size, 0, none⟩ = some .nilFunc := h0.cellv 0 _ rfl
  have c1 : w2.cell? ⟨w.heap.size, 1, none⟩ = some .nilFunc := h0.cellv 1 _ rfl
  have z0 : w2.frozen? ⟨w.heap.size, 0, none⟩ = false := h0.frozen 0
  have z1 : w2.frozen? ⟨w.heap.size, 1, none⟩ = false := h0.frozen 1
  have HE : Keep (Has ((w2.setCell ⟨w.heap.size, 0, none⟩ (fc 118 #[pv b1, pv b2])).setCell ⟨w.heap.size, 1, none⟩ (fc 119 #[pv b2, pv b1])) w.heap.size [fc 118 #[pv b1, pv b2], fc 119 #[pv b2, pv b1]] 57 ∧ w.grownBy ((w2.setCell ⟨w.heap.size, 0, none⟩ (fc 118 #[pv b1, pv b2])).setCell ⟨w.heap.size, 1, none⟩ (fc 119 #[pv b2, pv b1])) none ∧ FieldC ((w2.setCell ⟨w.heap.size, 0, none⟩ (fc 118 #[pv b1, pv b2])).setCell ⟨w.heap.size, 1, none⟩ (fc 119 #[pv b2, pv b1])) .tag (fc 118 #[pv b1, pv b2]) (fc 119 #[pv b2, pv b1])) := by
    have g5 : w2.grownBy ((w2.setCell ⟨w.heap.size, 0, none⟩ (fc 118 #[pv b1, pv b2])).setCell ⟨w.heap.size, 1, none⟩ (fc 119 #[pv b2, pv b1])) (some w.heap.size) := (gr_set _ _ _ _).trans (gr_set _ _ _ _)
    refine ⟨(h0.setCell 0 (fc 118 #[pv b1, pv b2])).setCell 1 (fc 119 #[pv b2, pv b1]), gr_new ((World.grownBy_alloc w (.cells #[.nilFunc, .nilFunc] 57) none).trans g) g5 (Nat.le_refl _), 118, #[pv b1, pv b2], 119, #[pv b2, pv b1], rfl, rfl, ?_, ?_⟩
    · exact tk_tag _ b1 b2 (h1.kept g5 (by simp; omega)) (h2.kept g5 (by simp; omega))
    · exact ly_tag _ b1 b2 (h1.kept g5 (by simp; omega)) (h2.kept g5 (by simp; omega))
  clear h0 hne g g3 h1 h2
  go_wp2
  exact ret_cell rfl rfl HE.out.1 hd hr info57 rfl ⟨_, _, rfl, HE.out.2.2, HE.out.2.1⟩
set_option maxHeartbeats 8000000 in
set_option maxRecDepth 100000 in
theorem mk_salt : Makes 60 .salt := fun w => by
  obtain ⟨d, hd, hr⟩ := under57
  go_enter Tryz.func60, Tryz.ntmps60
  go_wp2_with fail
  refine (fixed_c 16 101 _).mono ?_
  rintro e w2 ⟨b1, b2, rfl, h1, h2, g⟩
  have g3 := g
  have h0 : Has w2 w.heap.size [.nilFunc, .nilFunc] 57 := (Has.newA w #[.nilFunc, .nilFunc] 57).kept g (by simp)
  have hne : b1 ≠ w.heap.size ∧ b2 ≠ w.heap.size := ⟨fun e => (by rw [e] at h1; have := h0.symm.trans h1; simp at this), fun e => (by rw [e] at h2; have := h0.symm.trans h2; simp at this)⟩
  have c0 : w2.cell? ⟨w.heap.size, 0, none⟩ = some .nilFunc := h0.cellv 0 _ rfl
  have c1 : w2.cell? ⟨w.heap.size, 1, none⟩ = some .nilFunc := h0.cellv 1 _ rfl
  have z0 : w2.frozen? ⟨w.heap.size, 0, none⟩ = false := h0.frozen 0
  have z1 : w2.frozen? ⟨w.heap.size, 1, none⟩ = false := h0.frozen 1
  have HE : Keep (Has ((w2.setCell ⟨w.heap.size, 0, none⟩ (fc 118 #[pv b1, pv b2])).setCell ⟨w.heap.size, 1, none⟩ (fc 119 #[pv b2, pv b1])) w.heap.size [fc 118 #[pv b1, pv b2], fc 119 #[pv b2, pv b1]] 57 ∧ w.grownBy ((w2.setCell ⟨w.heap.size, 0, none⟩ (fc 118 #[pv b1, pv b2])).setCell ⟨w.heap.size, 1, none⟩ (fc 119 #[pv b2, pv b1])) none ∧ FieldC ((w2.setCell ⟨w.heap.size, 0, none⟩ (fc 118 #[pv b1, pv b2])).setCell ⟨w.heap.size, 1, none⟩ (fc 119 #[pv b2, pv b1])) .salt (fc 118 #[pv b1, pv b2]) (fc 119 #[pv b2, pv b1])) := by
    have g5 : w2.grownBy ((w2.setCell ⟨w.heap.size, 0, none⟩ (fc 118 #[pv b1, pv b2])).setCell ⟨w.heap.size, 1, none⟩ (fc 119 #[pv b2, pv b1])) (some w.heap.size) := (gr_set _ _ _ _).trans (gr_set _ _ _ _)
    refine ⟨(h0.setCell 0 (fc 118 #[pv b1, pv b2])).setCell 1 (fc 119 #[pv b2, pv b1]), gr_new ((World.grownBy_alloc w (.cells #[.nilFunc, .nilFunc] 57) none).trans g) g5 (Nat.le_refl _), 118, #[pv b1, pv b2], 119, #[pv b2, pv b1], rfl, rfl, ?_, ?_⟩
    · exact tk_salt _ b1 b2 (h1.kept g5 (by simp; omega)) (h2.kept g5 (by simp; omega))
    · exact ly_salt _ b1 b2 (h1.kept g5 (by simp; omega)) (h2.kept g5 (by simp; omega))
  clear h0 hne g g3 h1 h2
  go_wp2
  exact ret_cell rfl rfl HE.out.1 hd hr info57 rfl ⟨_, _, rfl, HE.out.2.2, HE.out.2.1⟩
set_option maxHeartbeats 8000000 in
set_option maxRecDepth 100000 in
theorem mk_epoch : Makes 54 .epoch := fun w => by
  obtain ⟨d, hd, hr⟩ := under57
  go_enter Tryz.func54, Tryz.ntmps54
  go_wp2_with fail
  refine (long_c 89 _).mono ?_
  rintro e w2 ⟨b1, rfl, h1, g⟩
  have g3 := g
  have h0 : Has w2 w.heap.size [.nilFunc, .nilFunc] 57 := (Has.newA w #[.nilFunc, .nilFunc] 57).kept g (by simp)
  have hne : b1 ≠ w.heap.size := fun e => (by rw [e] at h1; have := h0.symm.trans h1; simp at this)
  have c0 : w2.cell? ⟨w.heap.size, 0, none⟩ = some .nilFunc := h0.cellv 0 _ rfl
  have c1 : w2.cell? ⟨w.heap.size, 1, none⟩ = some .nilFunc := h0.cellv 1 _ rfl
  have z0 : w2.frozen? ⟨w.heap.size, 0, none⟩ = false := h0.frozen 0
  have z1 : w2.frozen? ⟨w.heap.size, 1, none⟩ = false := h0.frozen 1
  have HE : Keep (Has ((w2.setCell ⟨w.heap.size, 0, none⟩ (fc 123 #[pv b1])).setCell ⟨w.heap.size, 1, none⟩ (fc 124 #[pv b1])) w.heap.size [fc 123 #[pv b1], fc 124 #[pv b1]] 57 ∧ w.grownBy ((w2.setCell ⟨w.heap.size, 0, none⟩ (fc 123 #[pv b1])).setCell ⟨w.heap.size, 1, none⟩ (fc 124 #[pv b1])) none ∧ FieldC ((w2.setCell ⟨w.heap.size, 0, none⟩ (fc 123 #[pv b1])).setCell ⟨w.heap.size, 1, none⟩ (fc 124 #[pv b1])) .epoch (fc 123 #[pv b1]) (fc 124 #[pv b1])) := by
    have g5 : w2.grownBy ((w2.setCell ⟨w.heap.size, 0, none⟩ (fc 123 #[pv b1])).setCell ⟨w.heap.size, 1, none⟩ (fc 124 #[pv b1])) (some w.heap.size) := (gr_set _ _ _ _).trans (gr_set _ _ _ _)
    refine ⟨(h0.setCell 0 (fc 123 #[pv b1])).setCell 1 (fc 124 #[pv b1]), gr_new ((World.grownBy_alloc w (.cells #[.nilFunc, .nilFunc] 57) none).trans g) g5 (Nat.le_refl _), 123, #[pv b1], 124, #[pv b1], rfl, rfl, ?_, ?_⟩
    · exact tk_epoch _ b1 (h1.kept g5 (by simp; omega))
    · exact ly_epoch _ b1 (h1.kept g5 (by simp; omega))
  clear h0 hne g g3 h1
  go_wp2
  exact ret_cell rfl rfl HE.out.1 hd hr info57 rfl ⟨_, _, rfl, HE.out.2.2, HE.out.2.1⟩
set_option maxHeartbeats 8000000 in
set_option maxRecDepth 100000 in
theorem mk_session : Makes 58 .session := fun w => by
  obtain ⟨d, hd, hr⟩ := under57
  go_enter Tryz.func58, Tryz.ntmps58
  go_wp2_with fail
  refine (long_c 96 _).mono ?_
  rintro e w2 ⟨b1, rfl, h1, g⟩
  have g3 := g
  have h0 : Has w2 w.heap.size [.nilFunc, .nilFunc] 57 := (Has.newA w #[.nilFunc, .nilFunc] 57).kept g (by simp)
  have hne : b1 ≠ w.heap.size := fun e => (by rw [e] at h1; have := h0.symm.trans h1; simp at this)
  have c0 : w2.cell? ⟨w.heap.size, 0, none⟩ = some .nilFunc := h0.cellv 0 _ rfl
  have c1 : w2.cell? ⟨w.heap.size, 1, none⟩ = some .nilFunc := h0.cellv 1 _ rfl
  have z0 : w2.frozen? ⟨w.heap.size, 0, none⟩ = false := h0.frozen 0
  have z1 : w2.frozen? ⟨w.heap.size, 1, none⟩ = false := h0.frozen 1
  have HE : Keep (Has ((w2.setCell ⟨w.heap.size, 0, none⟩ (fc 123 #[pv b1])).setCell ⟨w.heap.size, 1, none⟩ (fc 124 #[pv b1])) w.heap.size [fc 123 #[pv b1], fc 124 #[pv b1]] 57 ∧ w.grownBy ((w2.setCell ⟨w.heap.size, 0, none⟩ (fc 123 #[pv b1])).setCell ⟨w.heap.size, 1, none⟩ (fc 124 #[pv b1])) none ∧ FieldC ((w2.setCell ⟨w.heap.size, 0, none⟩ (fc 123 #[pv b1])).setCell ⟨w.heap.size, 1, none⟩ (fc 124 #[pv b1])) .session (fc 123 #[pv b1]) (fc 124 #[pv b1])) := by
    have g5 : w2.grownBy ((w2.setCell ⟨w.heap.size, 0, none⟩ (fc 123 #[pv b1])).setCell ⟨w.heap.size, 1, none⟩ (fc 124 #[pv b1])) (some w.heap.size) := (gr_set _ _ _ _).trans (gr_set _ _ _ _)
    refine ⟨(h0.setCell 0 (fc 123 #[pv b1])).setCell 1 (fc 124 #[pv b1]), gr_new ((World.grownBy_alloc w (.cells #[.nilFunc, .nilFunc] 57) none).trans g) g5 (Nat.le_refl _), 123, #[pv b1], 124, #[pv b1], rfl, rfl, ?_, ?_⟩
    · exact tk_session _ b1 (h1.kept g5 (by simp; omega))
    · exact ly_session _ b1 (h1.kept g5 (by simp; omega))
  clear h0 hne g g3 h1
  go_wp2
  exact ret_cell rfl rfl HE.out.1 hd hr info57 rfl ⟨_, _, rfl, HE.out.2.2, HE.out.2.1⟩
set_option maxHeartbeats 8000000 in
set_option maxRecDepth 100000 in
theorem mk_seq : Makes 61 .seq := fun w => by
  obtain ⟨d, hd, hr⟩ := under57
  go_enter Tryz.func61, Tryz.ntmps61
  go_wp2_with fail
  refine (long_c 102 _).mono ?_
  rintro e w2 ⟨b1, rfl, h1, g⟩
  have g3 := g
  have h0 : Has w2 w.heap.size [.nilFunc, .nilFunc] 57 := (Has.newA w #[.nilFunc, .nilFunc] 57).kept g (by simp)
  have hne : b1 ≠ w.heap.size := fun e => (by rw [e] at h1; have := h0.symm.trans h1; simp at this)
  have c0 : w2.cell? ⟨w.heap.size, 0, none⟩ = some .nilFunc := h0.cellv 0 _ rfl
  have c1 : w2.cell? ⟨w.heap.size, 1, none⟩ = some .nilFunc := h0.cellv 1 _ rfl
  have z0 : w2.frozen? ⟨w.heap.size, 0, none⟩ = false := h0.frozen 0
  have z1 : w2.frozen? ⟨w.heap.size, 1, none⟩ = false := h0.frozen 1
  have HE : Keep (Has ((w2.setCell ⟨w.heap.size, 0, none⟩ (fc 123 #[pv b1])).setCell ⟨w.heap.size, 1, none⟩ (fc 124 #[pv b1])) w.heap.size [fc 123 #[pv b1], fc 124 #[pv b1]] 57 ∧ w.grownBy ((w2.setCell ⟨w.heap.size, 0, none⟩ (fc 123 #[pv b1])).setCell ⟨w.heap.size, 1, none⟩ (fc 124 #[pv b1])) none ∧ FieldC ((w2.setCell ⟨w.heap.size, 0, none⟩ (fc 123 #[pv b1])).setCell ⟨w.heap.size, 1, none⟩ (fc 124 #[pv b1])) .seq (fc 123 #[pv b1]) (fc 124 #[pv b1])) := by
    have g5 : w2.grownBy ((w2.setCell ⟨w.heap.size, 0, none⟩ (fc 123 #[pv b1])).setCell ⟨w.heap.size, 1, none⟩ (fc 124 #[pv b1])) (some w.heap.size) := (gr_set _ _ _ _).trans (gr_set _ _ _ _)
    refine ⟨(h0.setCell 0 (fc 123 #[pv b1])).setCell 1 (fc 124 #[pv b1]), gr_new ((World.grownBy_alloc w (.cells #[.nilFunc, .nilFunc] 57) none).trans g) g5 (Nat.le_refl _), 123, #[pv b1], 124, #[pv b1], rfl, rfl, ?_, ?_⟩
    · exact tk_seq _ b1 (h1.kept g5 (by simp; omega))
    · exact ly_seq _ b1 (h1.kept g5 (by simp; omega))
  clear h0 hne g g3 h1
  go_wp2
  exact ret_cell rfl rfl HE.out.1 hd hr info57 rfl ⟨_, _, rfl, HE.out.2.2, HE.out.2.1⟩
set_option maxHeartbeats 8000000 in
set_option maxRecDepth 100000 in
theorem mk_thr : Makes 62 .thr := fun w => by
  obtain ⟨d, hd, hr⟩ := under57
  go_enter Tryz.func62, Tryz.ntmps62
  go_wp2_with fail
  refine (lever_c 104 _).mono ?_
  rintro e w2 ⟨b1, rfl, h1, g⟩
  have g3 := g
  have h0 : Has w2 w.heap.size [.nilFunc, .nilFunc] 57 := (Has.newA w #[.nilFunc, .nilFunc] 57).kept g (by simp)
  have hne : b1 ≠ w.heap.size := fun e => (by rw [e] at h1; have := h0.symm.trans h1; simp at this)
  have c0 : w2.cell? ⟨w.heap.size, 0, none⟩ = some .nilFunc := h0.cellv 0 _ rfl
  have c1 : w2.cell? ⟨w.heap.size, 1, none⟩ = some .nilFunc := h0.cellv 1 _ rfl
  have z0 : w2.frozen? ⟨w.heap.size, 0, none⟩ = false := h0.frozen 0
  have z1 : w2.frozen? ⟨w.heap.size, 1, none⟩ = false := h0.frozen 1
  have HE : Keep (Has ((w2.setCell ⟨w.heap.size, 0, none⟩ (fc 128 #[pv b1])).setCell ⟨w.heap.size, 1, none⟩ (fc 130 #[pv b1])) w.heap.size [fc 128 #[pv b1], fc 130 #[pv b1]] 57 ∧ w.grownBy ((w2.setCell ⟨w.heap.size, 0, none⟩ (fc 128 #[pv b1])).setCell ⟨w.heap.size, 1, none⟩ (fc 130 #[pv b1])) none ∧ FieldC ((w2.setCell ⟨w.heap.size, 0, none⟩ (fc 128 #[pv b1])).setCell ⟨w.heap.size, 1, none⟩ (fc 130 #[pv b1])) .thr (fc 128 #[pv b1]) (fc 130 #[pv b1])) := by
    have g5 : w2.grownBy ((w2.setCell ⟨w.heap.size, 0, none⟩ (fc 128 #[pv b1])).setCell ⟨w.heap.size, 1, none⟩ (fc 130 #[pv b1])) (some w.heap.size) := (gr_set _ _ _ _).trans (gr_set _ _ _ _)
    refine ⟨(h0.setCell 0 (fc 128 #[pv b1])).setCell 1 (fc 130 #[pv b1]), gr_new ((World.grownBy_alloc w (.cells #[.nilFunc, .nilFunc] 57) none).trans g) g5 (Nat.le_refl _), 128, #[pv b1], 130, #[pv b1], rfl, rfl, ?_, ?_⟩
    · exact tk_thr _ b1 (h1.kept g5 (by simp; omega))
    · exact ly_thr _ b1 (h1.kept g5 (by simp; omega))
  clear h0 hne g g3 h1
  go_wp2
  exact ret_cell rfl rfl HE.out.1 hd hr info57 rfl ⟨_, _, rfl, HE.out.2.2, HE.out.2.1⟩
set_option maxHeartbeats 8000000 in
set_option maxRecDepth 100000 in
theorem mk_turn : Makes 63 .turn := fun w => by
  obtain ⟨d, hd, hr⟩ := under57
  go_enter Tryz.func63, Tryz.ntmps63
  go_wp2_with fail
  refine (lever_c 105 _).mono ?_
  rintro e w2 ⟨b1, rfl, h1, g⟩
  have g3 := g
  have h0 : Has w2 w.heap.size [.nilFunc, .nilFunc] 57 := (Has.newA w #[.nilFunc, .nilFunc] 57).kept g (by simp)
  have hne : b1 ≠ w.heap.size := fun e => (by rw [e] at h1; have := h0.symm.trans h1; simp at this)
  have c0 : w2.cell? ⟨w.heap.size, 0, none⟩ = some .nilFunc := h0.cellv 0 _ rfl
  have c1 : w2.cell? ⟨w.heap.size, 1, none⟩ = some .nilFunc := h0.cellv 1 _ rfl
  have z0 : w2.frozen? ⟨w.heap.size, 0, none⟩ = false := h0.frozen 0
  have z1 : w2.frozen? ⟨w.heap.size, 1, none⟩ = false := h0.frozen 1
  have HE : Keep (Has ((w2.setCell ⟨w.heap.size, 0, none⟩ (fc 128 #[pv b1])).setCell ⟨w.heap.size, 1, none⟩ (fc 130 #[pv b1])) w.heap.size [fc 128 #[pv b1], fc 130 #[pv b1]] 57 ∧ w.grownBy ((w2.setCell ⟨w.heap.size, 0, none⟩ (fc 128 #[pv b1])).setCell ⟨w.heap.size, 1, none⟩ (fc 130 #[pv b1])) none ∧ FieldC ((w2.setCell ⟨w.heap.size, 0, none⟩ (fc 128 #[pv b1])).setCell ⟨w.heap.size, 1, none⟩ (fc 130 #[pv b1])) .turn (fc 128 #[pv b1]) (fc 130 #[pv b1])) := by
    have g5 : w2.grownBy ((w2.setCell ⟨w.heap.size, 0, none⟩ (fc 128 #[pv b1])).setCell ⟨w.heap.size, 1, none⟩ (fc 130 #[pv b1])) (some w.heap.size) := (gr_set _ _ _ _).trans (gr_set _ _ _ _)
    refine ⟨(h0.setCell 0 (fc 128 #[pv b1])).setCell 1 (fc 130 #[pv b1]), gr_new ((World.grownBy_alloc w (.cells #[.nilFunc, .nilFunc] 57) none).trans g) g5 (Nat.le_refl _), 128, #[pv b1], 130, #[pv b1], rfl, rfl, ?_, ?_⟩
    · exact tk_turn _ b1 (h1.kept g5 (by simp; omega))
    · exact ly_turn _ b1 (h1.kept g5 (by simp; omega))
  clear h0 hne g g3 h1
  go_wp2
  exact ret_cell rfl rfl HE.out.1 hd hr info57 rfl ⟨_, _, rfl, HE.out.2.2, HE.out.2.1⟩
set_option maxHeartbeats 8000000 in
set_option maxRecDepth 100000 in
theorem mk_player : Makes 59 .player := fun w => by
  obtain ⟨d, hd, hr⟩ := under57
  go_enter Tryz.func59, Tryz.ntmps59
  go_wp2
  exact ret_cell rfl rfl (Has.newA w #[fv 97, fv 99] 57) hd hr info57 rfl ⟨fv 97, fv 99, rfl, ⟨97, #[], 99, #[], rfl, rfl, tk_player _, ly_player _⟩, World.grownBy_alloc _ _ _⟩
set_option maxHeartbeats 8000000 in
set_option maxRecDepth 100000 in
theorem mk_flags : Makes 64 .flags := fun w => by
  obtain ⟨d, hd, hr⟩ := under57
  go_enter Tryz.func64, Tryz.ntmps64
  go_wp2
  exact ret_cell rfl rfl (Has.newA w #[fv 106, fv 107] 57) hd hr info57 rfl ⟨fv 106, fv 107, rfl, ⟨106, #[], 107, #[], rfl, rfl, tk_flags _, ly_flags _⟩, World.grownBy_alloc _ _ _⟩
set_option maxHeartbeats 8000000 in
set_option maxRecDepth 100000 in
theorem mk_name : Makes 56 .name := fun w => by
  obtain ⟨d, hd, hr⟩ := under57
  go_enter Tryz.func56, Tryz.ntmps56
  go_wp2
  exact ret_cell rfl rfl (Has.newA w #[fv 91, fv 93] 57) hd hr info57 rfl ⟨fv 91, fv 93, rfl, ⟨91, #[], 93, #[], rfl, rfl, tk_name _, ly_name _⟩, World.grownBy_alloc _ _ _⟩
set_option maxHeartbeats 8000000 in
set_option maxRecDepth 100000 in
theorem mk_view : Makes 65 .view := fun w => by
  obtain ⟨d, hd, hr⟩ := under57
  go_enter Tryz.func65, Tryz.ntmps65
  go_wp2
  exact ret_cell rfl rfl (Has.newA w #[fv 108, fv 110] 57) hd hr info57 rfl ⟨fv 108, fv 110, rfl, ⟨108, #[], 110, #[], rfl, rfl, tk_view _, ly_view _⟩, World.grownBy_alloc _ _ _⟩
end Go.Proofs.YtiphnlfbgbemfaaGreatDoor.Pk

