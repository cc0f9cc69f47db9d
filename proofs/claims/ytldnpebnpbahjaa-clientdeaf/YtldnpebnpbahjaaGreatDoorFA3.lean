import Derived.Test.YtldnpebnpbahjaaGreatDoorFA2
/- frame: player, name, view, flags, zeros taken -/
namespace Go.Proofs.YtldnpebnpbahjaaGreatDoor.Pk
open Go Go.RowKit

set_option maxRecDepth 100000 in
theorem eqS (a b : ByteArray) : (a.toList == b.toList) = decide (a = b) := by
  rw [Bool.eq_iff_iff, beq_iff_eq, decide_eq_true_iff, ByteArray.toList_eq, ByteArray.toList_eq]
  exact ⟨fun e => ByteArray.ext (Array.toList_inj.1 e), fun e => by rw [e]⟩
set_option maxHeartbeats 4000000 in
set_option maxRecDepth 100000 in
theorem player1_ok (db ib rb B : Nat) (d : List Value) (L : List UInt8) (r : Bool) (w : World) (hd : Has w db d 34) (ho : d.length = 15) (hn : db ≠ ib ∧ db ≠ rb ∧ db ≠ B) (h : In w ib rb B L r) (p : List UInt8 × List UInt8) (hp : need L 1 = some p) :
    Calls Tryz.prog 145 #[pv db, pv ib] w fun e w' => e = .returned (.tuple #[]) ∧ Has w' db (d.set 6 (.int .i64 (val p.1 : Nat))) 34 ∧ In w' ib rb B p.2 r ∧ Fr (fun i => i = db ∨ i = rb) w w' := by
  have HA : Keep (In w ib rb B L r ∧ need L 1 = some p ∧ Has w db d 34 ∧ d.length = 15) := ⟨h, hp, hd, ho⟩
  have hv : val p.1 < 256 := val1 (by have := (need_len hp).1; omega)
  clear h hp hd ho
  go_enter Tryz.func145, Tryz.ntmps145
  go_wp2_with fail
  refine (number_ok ib rb B L r 1 p w HA.out.1 (by decide) HA.out.2.1).mono ?_
  rintro e w2 ⟨rfl, d2⟩
  have h2 : Has w2 db d 34 := HA.out.2.2.1.fr d2.f (fun e => hn.2.1 e)
  have z1 : w2.frozen? ⟨db, 6, none⟩ = false := h2.frozen 6
  obtain ⟨x, hx⟩ : ∃ x, w2.cell? ⟨db, 6, none⟩ = some x := ⟨d[6]'(by rw [HA.out.2.2.2]; decide), h2.cellv 6 _ (List.getElem?_eq_getElem _)⟩
  have HB : Keep (RDid w w2 rb B (p.2, 0) ∧ In w2 ib rb B p.2 r ∧ Has w2 db d 34) := ⟨d2, HA.out.1.did d2, h2⟩
  clear d2 h2
  generalize hq : val p.1 = q at hv
  have HQ : Keep (val p.1 = q) := ⟨hq⟩
  clear hq
  go_wp2
  go_end0
  have f3 : Fr (fun i => i = db) w2 (w2.setCell ⟨db, 6, none⟩ (.int .i64 (q : Nat))) := Fr.ofSome (gr_set w2 db 6 _) rfl
  try rw [HQ.out]
  refine ⟨rfl, HB.out.2.2.setCell 6 _, HB.out.2.1.fr f3 (fun e => hn.1 e.symm) (fun e => hn.2.1 e.symm) (fun e => hn.2.2 e.symm), (HB.out.1.f.mono (fun i e => .inl (.inr e))).trans (f3.mono (fun i e => .inl (.inl e)))⟩
set_option maxHeartbeats 4000000 in
set_option maxRecDepth 100000 in
theorem player1_no (db ib rb B : Nat) (L : List UInt8) (r : Bool) (w : World) (h : In w ib rb B L r) (hp : need L 1 = none) :
    Calls Tryz.prog 145 #[pv db, pv ib] w fun e w' => e = .panicked give ∧ w.grownBy w' none := by
  go_enter Tryz.func145, Tryz.ntmps145
  go_wp2_with fail
  refine (number_no ib rb B L r 1 w h hp).mono ?_
  rintro e w2 ⟨rfl, g2⟩
  exact ⟨rfl, rfl, g2⟩
set_option maxHeartbeats 4000000 in
set_option maxRecDepth 100000 in
theorem name1_ok (db ib rb B : Nat) (d : List Value) (L : List UInt8) (r : Bool) (w : World) (hd : Has w db d 34) (ho : d.length = 15) (hn : db ≠ ib ∧ db ≠ rb ∧ db ≠ B) (h : In w ib rb B L r) (p q : List UInt8 × List UInt8) (hp : need L 1 = some p) (hq : need p.2 (val p.1 : Nat) = some q) :
    Calls Tryz.prog 139 #[pv db, pv ib] w fun e w' => e = .returned (.tuple #[]) ∧ Has w' db (d.set 4 (.string (ba q.1))) 34 ∧ In w' ib rb B q.2 r ∧ Fr (fun i => i = db ∨ i = rb) w w' := by
  have HA : Keep (In w ib rb B L r ∧ (need L 1 = some p ∧ need p.2 (val p.1 : Nat) = some q) ∧ Has w db d 34 ∧ d.length = 15) := ⟨h, ⟨hp, hq⟩, hd, ho⟩
  clear h hp hq hd ho
  go_enter Tryz.func139, Tryz.ntmps139
  go_wp2_with fail
  refine (text_ok ib rb B L r p q w HA.out.1 HA.out.2.1.1 HA.out.2.1.2).mono ?_
  rintro e w2 ⟨rfl, d2⟩
  have h2 : Has w2 db d 34 := HA.out.2.2.1.fr d2.f (fun e => hn.2.1 e)
  have z1 : w2.frozen? ⟨db, 4, none⟩ = false := h2.frozen 4
  obtain ⟨x, hx⟩ : ∃ x, w2.cell? ⟨db, 4, none⟩ = some x := ⟨d[4]'(by rw [HA.out.2.2.2]; decide), h2.cellv 4 _ (List.getElem?_eq_getElem _)⟩
  have HB : Keep (RDid w w2 rb B (q.2, 0) ∧ In w2 ib rb B q.2 r ∧ Has w2 db d 34) := ⟨d2, HA.out.1.did d2, h2⟩
  clear d2 h2
  generalize hq : ba q.1 = q1
  have HQ : Keep (ba q.1 = q1) := ⟨hq⟩
  clear hq
  go_wp2
  go_end0
  have f3 : Fr (fun i => i = db) w2 (w2.setCell ⟨db, 4, none⟩ (.string q1)) := Fr.ofSome (gr_set w2 db 4 _) rfl
  try rw [HQ.out]
  refine ⟨rfl, HB.out.2.2.setCell 4 _, HB.out.2.1.fr f3 (fun e => hn.1 e.symm) (fun e => hn.2.1 e.symm) (fun e => hn.2.2 e.symm), (HB.out.1.f.mono (fun i e => .inl (.inr e))).trans (f3.mono (fun i e => .inl (.inl e)))⟩
set_option maxHeartbeats 4000000 in
set_option maxRecDepth 100000 in
theorem name1_no (db ib rb B : Nat) (L : List UInt8) (r : Bool) (w : World) (h : In w ib rb B L r) (hp : ((need L 1).bind fun p => need p.2 (val p.1 : Nat)) = none) :
    Calls Tryz.prog 139 #[pv db, pv ib] w fun e w' => e = .panicked give ∧ Fr (fun i => i = rb) w w' := by
  go_enter Tryz.func139, Tryz.ntmps139
  go_wp2_with fail
  refine (text_no ib rb B L r w h hp).mono ?_
  rintro e w2 ⟨rfl, g2⟩
  exact ⟨rfl, rfl, g2⟩
set_option maxHeartbeats 4000000 in
set_option maxRecDepth 100000 in
theorem view1_ok (db ib rb B : Nat) (d : List Value) (L : List UInt8) (r : Bool) (w : World) (hd : Has w db d 34) (ho : d.length = 15) (hn : db ≠ ib ∧ db ≠ rb ∧ db ≠ B) (h : In w ib rb B L r) (hL : L.length ≤ 4611686018427387904) (p : List UInt8 × List UInt8) (hp : need L ((L.length : Int) - 32) = some p) :
    Calls Tryz.prog 156 #[pv db, pv ib] w fun e w' => e = .returned (.tuple #[]) ∧ Has w' db (d.set 13 (.string (ba p.1))) 34 ∧ In w' ib rb B p.2 r ∧ Fr (fun i => i = db ∨ i = rb) w w' := by
  have hm : ∃ m : Nat, (L.length : Int) - 32 = (m : Int) := ⟨((L.length : Int) - 32).toNat, by have := need_some hp; omega⟩
  obtain ⟨m, hm⟩ := hm
  rw [hm] at hp
  have HA : Keep (In w ib rb B L r ∧ need L (m : Nat) = some p ∧ Has w db d 34 ∧ d.length = 15) := ⟨h, hp, hd, ho⟩
  have hw64 : IntKind.i64.wrap ((L.length : Int) - 32) = (m : Int) := by have := need_some hp; rw [hm]; exact IntWalk.i64_in _ (by omega)
  clear h hp hd ho hm hL
  go_enter Tryz.func156, Tryz.ntmps156
  go_wp2_with fail
  refine (left_c ib rb B L r w HA.out.1).mono ?_
  rintro e wq ⟨rfl, rfl⟩
  go_wp2_with fail
  refine (bytes_ok ib rb B L r (m : Nat) p wq HA.out.1 HA.out.2.1).mono ?_
  rintro e w2 ⟨rfl, d2⟩
  have h2 : Has w2 db d 34 := HA.out.2.2.1.fr d2.f (fun e => hn.2.1 e)
  have z1 : w2.frozen? ⟨db, 13, none⟩ = false := h2.frozen 13
  obtain ⟨x, hx⟩ : ∃ x, w2.cell? ⟨db, 13, none⟩ = some x := ⟨d[13]'(by rw [HA.out.2.2.2]; decide), h2.cellv 13 _ (List.getElem?_eq_getElem _)⟩
  have HB : Keep (RDid wq w2 rb B (p.2, 0) ∧ In w2 ib rb B p.2 r ∧ Has w2 db d 34) := ⟨d2, HA.out.1.did d2, h2⟩
  clear d2 h2
  go_wp2
  go_end0
  have f3 : Fr (fun i => i = db) w2 (w2.setCell ⟨db, 13, none⟩ (.string (ba p.1))) := Fr.ofSome (gr_set w2 db 13 _) rfl
  refine ⟨rfl, HB.out.2.2.setCell 13 _, HB.out.2.1.fr f3 (fun e => hn.1 e.symm) (fun e => hn.2.1 e.symm) (fun e => hn.2.2 e.symm), (HB.out.1.f.mono (fun i e => .inl (.inr e))).trans (f3.mono (fun i e => .inl (.inl e)))⟩
set_option maxHeartbeats 4000000 in
set_option maxRecDepth 100000 in
theorem view1_no (db ib rb B : Nat) (L : List UInt8) (r : Bool) (w : World) (h : In w ib rb B L r) (hL : L.length ≤ 4611686018427387904) (hp : need L ((L.length : Int) - 32) = none) :
    Calls Tryz.prog 156 #[pv db, pv ib] w fun e w' => e = .panicked give ∧ w.grownBy w' none := by
  obtain ⟨m, hm⟩ : ∃ m : Int, (L.length : Int) - 32 = m := ⟨_, rfl⟩
  rw [hm] at hp
  have HA : Keep (In w ib rb B L r ∧ need L m = none) := ⟨h, hp⟩
  have hw64 : IntKind.i64.wrap ((L.length : Int) - 32) = m := by rw [hm]; exact IntWalk.i64_in _ (by omega)
  clear h hp hm hL
  go_enter Tryz.func156, Tryz.ntmps156
  go_wp2_with fail
  refine (left_c ib rb B L r w HA.out.1).mono ?_
  rintro e wq ⟨rfl, rfl⟩
  go_wp2_with fail
  refine (bytes_no ib rb B L r m wq HA.out.1 HA.out.2).mono ?_
  rintro e w2 ⟨rfl, g2⟩
  exact ⟨rfl, rfl, g2⟩
set_option maxRecDepth 100000 in
theorem and1 : ∀ x : Fin 256, bits .and .u64 (x.val : Int) 1 = ((x.val % 2 : Nat) : Int) := by decide +kernel
set_option maxRecDepth 100000 in
theorem and2 : ∀ x : Fin 256, bits .and .u64 (x.val : Int) 2 = ((2 * (x.val / 2 % 2) : Nat) : Int) := by decide +kernel
set_option maxHeartbeats 4000000 in
set_option maxRecDepth 100000 in
theorem flags1_ok (db ib rb B : Nat) (d : List Value) (L : List UInt8) (r : Bool) (w : World) (hd : Has w db d 34) (ho : d.length = 15) (hn : db ≠ ib ∧ db ≠ rb ∧ db ≠ B) (h : In w ib rb B L r) (p : List UInt8 × List UInt8) (hp : need L 1 = some p) :
    Calls Tryz.prog 154 #[pv db, pv ib] w fun e w' => e = .returned (.tuple #[]) ∧ Has w' db ((d.set 11 (.bool (decide (val p.1 % 2 = 1)))).set 12 (.bool (decide (val p.1 / 2 % 2 = 1)))) 34 ∧ In w' ib rb B p.2 (r || !decide (val p.1 ≤ 3)) ∧ Fr (fun i => i = db ∨ i = ib ∨ i = rb) w w' := by
  have HA : Keep (In w ib rb B L r ∧ need L 1 = some p ∧ Has w db d 34 ∧ d.length = 15) := ⟨h, hp, hd, ho⟩
  have hv : val p.1 < 256 := val1 (by have := (need_len hp).1; omega)
  clear h hp hd ho
  go_enter Tryz.func154, Tryz.ntmps154
  go_wp2_with fail
  refine (number_ok ib rb B L r 1 p w HA.out.1 (by decide) HA.out.2.1).mono ?_
  rintro e w2 ⟨rfl, d2⟩
  have HB : Keep (RDid w w2 rb B (p.2, 0) ∧ In w2 ib rb B p.2 r ∧ Has w2 db d 34) := ⟨d2, HA.out.1.did d2, HA.out.2.2.1.fr d2.f (fun e => hn.2.1 e)⟩
  clear d2
  generalize hq : val p.1 = q at hv
  have HQ : Keep (val p.1 = q) := ⟨hq⟩
  clear hq
  have a1 := and1 ⟨q, hv⟩
  have a2 := and2 ⟨q, hv⟩
  dsimp only at a1 a2
  go_wp2_with fail
  refine (iallow_c ib rb B p.2 r _ w2 HB.out.2.1).mono ?_
  rintro e w3 ⟨rfl, i3, f3⟩
  have h3 : Has w3 db d 34 := HB.out.2.2.fr f3 (fun e => hn.1 e)
  have z1 : w3.frozen? ⟨db, 11, none⟩ = false := h3.frozen 11
  have z2 : w3.frozen? ⟨db, 12, none⟩ = false := h3.frozen 12
  obtain ⟨x1, hx1⟩ : ∃ x, w3.cell? ⟨db, 11, none⟩ = some x := ⟨d[11]'(by rw [HA.out.2.2.2]; decide), h3.cellv 11 _ (List.getElem?_eq_getElem _)⟩
  obtain ⟨x2, hx2⟩ : ∃ x, w3.cell? ⟨db, 12, none⟩ = some x := ⟨d[12]'(by rw [HA.out.2.2.2]; decide), h3.cellv 12 _ (List.getElem?_eq_getElem _)⟩
  have HC : Keep (Fr (fun i => i = db ∨ i = ib ∨ i = rb) w w3 ∧ Has w3 db d 34 ∧ In w3 ib rb B p.2 (r || !decide (q ≤ 3))) := ⟨(HB.out.1.f.mono (fun i e => .inl (.inr (.inr e)))).trans (f3.mono (fun i e => .inl (.inr (.inl e)))), h3, by rw [← show decide ((q : Int) ≤ 3) = decide (q ≤ 3) from decide_eq_decide.2 (by omega)]; exact i3⟩
  clear i3 f3 h3 HB
  go_wp2
  go_end0
  have e1 : ((q : Int) % 2 != 0) = decide (val p.1 % 2 = 1) := by
    rw [HQ.out, Bool.eq_iff_iff, bne_iff_ne, decide_eq_true_iff]; omega
  have e2 : (2 * ((q : Int) / 2 % 2) != 0) = decide (val p.1 / 2 % 2 = 1) := by
    rw [HQ.out, Bool.eq_iff_iff, bne_iff_ne, decide_eq_true_iff]; omega
  rw [e1, e2]
  have f4 : ∀ u v, Fr (fun i => i = db) w3 ((w3.setCell ⟨db, 11, none⟩ u).setCell ⟨db, 12, none⟩ v) := fun u v => Fr.trans (S := fun i => i = db) (Fr.ofSome (gr_set w3 db 11 u) rfl) (Fr.ofSome (gr_set _ db 12 v) rfl)
  refine ⟨rfl, (HC.out.2.1.setCell 11 _).setCell 12 _, ?_, HC.out.1.trans ((f4 _ _).mono (fun i e => .inl (.inl e)))⟩
  rw [HQ.out]
  exact HC.out.2.2.fr (f4 _ _) (fun e => hn.1 e.symm) (fun e => hn.2.1 e.symm) (fun e => hn.2.2 e.symm)
set_option maxHeartbeats 4000000 in
set_option maxRecDepth 100000 in
theorem flags1_no (db ib rb B : Nat) (L : List UInt8) (r : Bool) (w : World) (h : In w ib rb B L r) (hp : need L 1 = none) :
    Calls Tryz.prog 154 #[pv db, pv ib] w fun e w' => e = .panicked give ∧ w.grownBy w' none := by
  go_enter Tryz.func154, Tryz.ntmps154
  go_wp2_with fail
  refine (number_no ib rb B L r 1 w h hp).mono ?_
  rintro e w2 ⟨rfl, g2⟩
  exact ⟨rfl, rfl, g2⟩
set_option maxHeartbeats 4000000 in
set_option maxRecDepth 100000 in
theorem zeros1_ok (db ib rb B zb : Nat) (L : List UInt8) (r : Bool) (w : World) (hz : Has w zb [.string (ba zero76)] 9) (hb : zb ≠ rb ∧ zb ≠ ib) (h : In w ib rb B L r) (p : List UInt8 × List UInt8) (hp : need L 76 = some p) :
    Calls Tryz.prog 132 #[pv db, pv ib, pv zb] w fun e w' => e = .returned (.tuple #[]) ∧ In w' ib rb B p.2 (r || !decide (p.1 = zero76)) ∧ Fr (fun i => i = ib ∨ i = rb) w w' := by
  have HZ : Keep (decide (ba p.1 = ba zero76) = decide (p.1 = zero76)) := ⟨decide_eq_decide.2 ⟨fun e => by have := congrArg (fun b : ByteArray => b.data.toList) e; simpa using this, fun e => by rw [e]⟩⟩
  obtain ⟨zd, hzd⟩ : ∃ x, decide (p.1 = zero76) = x := ⟨_, rfl⟩
  rw [hzd] at HZ ⊢
  have HA : Keep (In w.drew ib rb B L r ∧ need L 76 = some p) := ⟨h.kept (gr_drew _ _), hp⟩
  have HH : Keep (Has w.drew zb [.string (ba zero76)] 9) := ⟨hz.kept (gr_drew _ none) (by simp)⟩
  clear h hp hz
  generalize ba zero76 = Z at HH HZ
  go_enter Tryz.func132, Tryz.ntmps132
  go_wp2_with fail
  refine wp_region_held_drew (S := fun w' => Has w' zb [.string Z] 9) (by kernel_rfl) HH.out (fun hHeld => ?_)
  refine wpAnyH_take (i := 0) (oi := _) (v := ?_) rfl (by kernel_rfl) (by kernel_rfl) (by kernel_rfl) (fun _ _ _ h => h) (Or.inl ⟨by rfl, ?_⟩) (by assumption) ?_
  rotate_left
  · (intro w hSw; go_simp; first | done | (with_reducible rfl))
  simp only [Act.put, List.getElem_toArray, List.getElem_cons_zero, List.setIfInBounds_toArray, List.set_cons_zero, List.set_cons_succ]
  refine wpAnyH_take (i := 1) (oi := _) (v := ?_) rfl (by kernel_rfl) (by kernel_rfl) (by kernel_rfl) (fun _ _ _ h => h) (Or.inl ⟨by rfl, ?_⟩) (by assumption) ?_
  rotate_left
  · (intro w hSw; go_simp; first | done | (with_reducible rfl))
  simp only [Act.put, List.getElem_toArray, List.getElem_cons_succ, List.getElem_cons_zero, List.setIfInBounds_toArray, List.set_cons_zero, List.set_cons_succ]
  refine wpAnyH_take (i := 3) (oi := _) (v := ?_) rfl (by kernel_rfl) (by kernel_rfl) (by kernel_rfl) (fun _ _ _ h => h) (Or.inl ⟨by rfl, ?_⟩) (by assumption) ?_
  rotate_left
  · (intro w hSw; have x1 := Has.cellv hSw 0 _ rfl; clear hSw; go_simp; first | done | (with_reducible rfl))
  simp only [Act.put, List.getElem_toArray, List.getElem_cons_succ, List.getElem_cons_zero, List.setIfInBounds_toArray, List.set_cons_zero, List.set_cons_succ]
  refine wpAnyH_ready (rs := [2]) (by kernel_rfl) (by simp) ?_
  refine AllReadyH.cons rfl (fun K hK => ?_) AllReadyH.nil
  go_simp
  refine (bytes_ok ib rb B L r 76 p _ HA.out.1 HA.out.2).mono ?_
  rintro e w2 ⟨rfl, d2⟩
  have HB : Keep (RDid w w2 rb B (p.2, 0) ∧ In w2 ib rb B p.2 r ∧ Has w2 zb [.string Z] 9) := ⟨d2.ahead (gr_drew _ _), HA.out.1.did d2, HH.out.fr d2.f hb.1⟩
  clear d2
  refine hK.out _ _ HB.out.2.2 (fun hHeld => ?_)
  clear hK K
  have hzz := HZ.out
  generalize ba p.1 = P1 at hzz ⊢
  refine wpAnyH_take (i := 4) (oi := _) (v := ?_) rfl (by kernel_rfl) (by kernel_rfl) (by kernel_rfl) (fun _ _ _ h => h) (Or.inl ⟨by rfl, ?_⟩) (by assumption) ?_
  rotate_left
  · (intro w hSw; go_simp; first | done | (with_reducible rfl))
  simp only [Act.put, List.getElem_toArray, List.getElem_cons_succ, List.getElem_cons_zero, List.setIfInBounds_toArray, List.set_cons_zero, List.set_cons_succ]
  refine wpAnyH_ready (rs := [5]) (by kernel_rfl) (by simp) ?_
  refine AllReadyH.cons rfl (fun K hK => ?_) AllReadyH.nil
  go_simp
  refine (iallow_c ib rb B p.2 r _ w2 HB.out.2.1).mono ?_
  rintro e w3 ⟨rfl, i3, f3⟩
  have HC : Keep (In w3 ib rb B p.2 (r || !zd) ∧ Fr (fun i => i = ib ∨ i = rb) w w3) := ⟨by first | exact i3 | (rw [← hzz, ← eqS]; exact i3), (HB.out.1.f.mono (fun i e => .inl (.inr e))).trans (f3.mono (fun i e => .inl (.inl e)))⟩
  refine hK.out _ _ (hHeld.fr f3 hb.2) (fun hHeld => ?_)
  refine wpAnyH_done (by kernel_rfl) ?_ _
  clear hK K i3 f3
  go_wp2_with fail
  go_end0
  exact ⟨rfl, HC.out⟩
set_option maxHeartbeats 4000000 in
set_option maxRecDepth 100000 in
theorem zeros1_no (db ib rb B zb : Nat) (L : List UInt8) (r : Bool) (w : World) (hz : Has w zb [.string (ba zero76)] 9) (_hb : zb ≠ rb ∧ zb ≠ ib) (h : In w ib rb B L r) (hp : need L 76 = none) :
    Calls Tryz.prog 132 #[pv db, pv ib, pv zb] w fun e w' => e = .panicked give ∧ w.grownBy w' none := by
  have HA : Keep (In w.drew ib rb B L r ∧ need L 76 = none) := ⟨h.kept (gr_drew _ _), hp⟩
  have HH : Keep (Has w.drew zb [.string (ba zero76)] 9) := ⟨hz.kept (gr_drew _ none) (by simp)⟩
  clear h hp hz
  generalize ba zero76 = Z at HH
  go_enter Tryz.func132, Tryz.ntmps132
  go_wp2_with fail
  refine wp_region_held_drew (S := fun w' => Has w' zb [.string Z] 9) (by kernel_rfl) HH.out (fun hHeld => ?_)
  refine wpAnyH_take (i := 0) (oi := _) (v := ?_) rfl (by kernel_rfl) (by kernel_rfl) (by kernel_rfl) (fun _ _ _ h => h) (Or.inl ⟨by rfl, ?_⟩) (by assumption) ?_
  rotate_left
  · (intro w hSw; go_simp; first | done | (with_reducible rfl))
  simp only [Act.put, List.getElem_toArray, List.getElem_cons_zero, List.setIfInBounds_toArray, List.set_cons_zero, List.set_cons_succ]
  refine wpAnyH_take (i := 1) (oi := _) (v := ?_) rfl (by kernel_rfl) (by kernel_rfl) (by kernel_rfl) (fun _ _ _ h => h) (Or.inl ⟨by rfl, ?_⟩) (by assumption) ?_
  rotate_left
  · (intro w hSw; go_simp; first | done | (with_reducible rfl))
  simp only [Act.put, List.getElem_toArray, List.getElem_cons_succ, List.getElem_cons_zero, List.setIfInBounds_toArray, List.set_cons_zero, List.set_cons_succ]
  refine wpAnyH_take (i := 3) (oi := _) (v := ?_) rfl (by kernel_rfl) (by kernel_rfl) (by kernel_rfl) (fun _ _ _ h => h) (Or.inl ⟨by rfl, ?_⟩) (by assumption) ?_
  rotate_left
  · (intro w hSw; have x1 := Has.cellv hSw 0 _ rfl; clear hSw; go_simp; first | done | (with_reducible rfl))
  simp only [Act.put, List.getElem_toArray, List.getElem_cons_succ, List.getElem_cons_zero, List.setIfInBounds_toArray, List.set_cons_zero, List.set_cons_succ]
  refine wpAnyH_ready (rs := [2]) (by kernel_rfl) (by simp) ?_
  refine AllReadyH.cons rfl (fun K hK => ?_) AllReadyH.nil
  go_simp
  refine (bytes_no ib rb B L r 76 _ HA.out.1 HA.out.2).mono ?_
  rintro e w2 ⟨rfl, g2⟩
  exact ⟨rfl, rfl, (gr_drew _ none).trans g2⟩
end Go.Proofs.YtldnpebnpbahjaaGreatDoor.Pk
