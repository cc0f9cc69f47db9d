import Derived.Test.YtldnpebnpbahjaaGreatDoorFA1
import Derived.Deep.RegionHeld
/- frame's places: where in a datagram a field lies; how the fields are taken -/
namespace Go.Proofs.YtldnpebnpbahjaaGreatDoor.Pk
open Go Go.RowKit

abbrev Enters (f : Nat) : Prop := ∀ (a : Array Value) (W : World), (callFunc f a).run Tryz.prog W = .ok (.enter f a) W
/-- a function that tells a place of a datagram -/
def Place (f o : Nat) : Prop := Enters f ∧ ∀ (db : Nat) (w : World), Calls Tryz.prog f #[pv db] w fun e w' => e = .returned (.pointer (some ⟨db, o, none⟩)) ∧ w' = w
set_option maxHeartbeats 4000000 in
set_option maxRecDepth 100000 in
theorem p83 : Place 131 1 := ⟨fun _ _ => by kernel_rfl, fun db w => by
  go_enter Tryz.func131, Tryz.ntmps131
  go_wp2
  go_ret
  exact ⟨rfl, rfl⟩⟩
set_option maxHeartbeats 4000000 in
set_option maxRecDepth 100000 in
theorem p89 : Place 137 2 := ⟨fun _ _ => by kernel_rfl, fun db w => by
  go_enter Tryz.func137, Tryz.ntmps137
  go_wp2
  go_ret
  exact ⟨rfl, rfl⟩⟩
set_option maxHeartbeats 4000000 in
set_option maxRecDepth 100000 in
theorem p90 : Place 138 3 := ⟨fun _ _ => by kernel_rfl, fun db w => by
  go_enter Tryz.func138, Tryz.ntmps138
  go_wp2
  go_ret
  exact ⟨rfl, rfl⟩⟩
set_option maxHeartbeats 4000000 in
set_option maxRecDepth 100000 in
theorem p95 : Place 143 14 := ⟨fun _ _ => by kernel_rfl, fun db w => by
  go_enter Tryz.func143, Tryz.ntmps143
  go_wp2
  go_ret
  exact ⟨rfl, rfl⟩⟩
set_option maxHeartbeats 4000000 in
set_option maxRecDepth 100000 in
theorem p96 : Place 144 5 := ⟨fun _ _ => by kernel_rfl, fun db w => by
  go_enter Tryz.func144, Tryz.ntmps144
  go_wp2
  go_ret
  exact ⟨rfl, rfl⟩⟩
set_option maxHeartbeats 4000000 in
set_option maxRecDepth 100000 in
theorem p101 : Place 149 7 := ⟨fun _ _ => by kernel_rfl, fun db w => by
  go_enter Tryz.func149, Tryz.ntmps149
  go_wp2
  go_ret
  exact ⟨rfl, rfl⟩⟩
set_option maxHeartbeats 4000000 in
set_option maxRecDepth 100000 in
theorem p102 : Place 150 8 := ⟨fun _ _ => by kernel_rfl, fun db w => by
  go_enter Tryz.func150, Tryz.ntmps150
  go_wp2
  go_ret
  exact ⟨rfl, rfl⟩⟩
set_option maxHeartbeats 4000000 in
set_option maxRecDepth 100000 in
theorem p104 : Place 152 9 := ⟨fun _ _ => by kernel_rfl, fun db w => by
  go_enter Tryz.func152, Tryz.ntmps152
  go_wp2
  go_ret
  exact ⟨rfl, rfl⟩⟩
set_option maxHeartbeats 4000000 in
set_option maxRecDepth 100000 in
theorem p105 : Place 153 10 := ⟨fun _ _ => by kernel_rfl, fun db w => by
  go_enter Tryz.func153, Tryz.ntmps153
  go_wp2
  go_ret
  exact ⟨rfl, rfl⟩⟩
set_option maxHeartbeats 4000000 in
set_option maxRecDepth 100000 in
theorem long1_ok (f o db ib rb B kb : Nat) (d : List Value) (L : List UInt8) (r : Bool) (w : World) (hf : Place f o) (hk : Has w kb [fv f] 191) (hd : Has w db d 34) (ho : o < d.length) (hn : db ≠ ib ∧ db ≠ rb ∧ db ≠ B) (h : In w ib rb B L r) (p : List UInt8 × List UInt8) (hp : need L 8 = some p) :
    Calls Tryz.prog 185 #[pv db, pv ib, pv kb] w fun e w' => e = .returned (.tuple #[]) ∧ Has w' db (d.set o (.int .u64 (val p.1 : Nat))) 34 ∧ In w' ib rb B p.2 r ∧ Fr (fun i => i = db ∨ i = rb) w w' := by
  have c0 : w.cell? ⟨kb, 0, none⟩ = some (fv f) := hk.cellv 0 _ rfl
  obtain ⟨hcf, hf⟩ := hf
  have HA : Keep (In w ib rb B L r ∧ need L 8 = some p ∧ Has w db d 34 ∧ o < d.length) := ⟨h, hp, hd, ho⟩
  clear hk h hp hd ho
  go_enter Tryz.func185, Tryz.ntmps185
  go_wp2_with fail
  refine (hf db w).mono ?_
  rintro e w1 ⟨rfl, rfl⟩
  go_wp2_with fail
  refine (number_ok ib rb B L r 8 p w1 HA.out.1 (by decide) HA.out.2.1).mono ?_
  rintro e w2 ⟨rfl, d2⟩
  have h2 : Has w2 db d 34 := HA.out.2.2.1.fr d2.f (fun e => hn.2.1 e)
  have z1 : w2.frozen? ⟨db, o, none⟩ = false := h2.frozen o
  obtain ⟨x, hx⟩ : ∃ x, w2.cell? ⟨db, o, none⟩ = some x := ⟨d[o]'HA.out.2.2.2, h2.cellv o _ (List.getElem?_eq_getElem HA.out.2.2.2)⟩
  have HB : Keep (RDid w1 w2 rb B (p.2, 0) ∧ In w2 ib rb B p.2 r ∧ Has w2 db d 34) := ⟨d2, HA.out.1.did d2, h2⟩
  clear d2 h2
  generalize hq : val p.1 = q
  have HQ : Keep (val p.1 = q) := ⟨hq⟩
  clear hq
  go_wp2
  go_end0
  have f3 : Fr (fun i => i = db) w2 (w2.setCell ⟨db, o, none⟩ (.int .u64 q)) := Fr.ofSome (gr_set w2 db o _) rfl
  rw [HQ.out]
  refine ⟨rfl, HB.out.2.2.setCell o _, HB.out.2.1.fr f3 (fun e => hn.1 e.symm) (fun e => hn.2.1 e.symm) (fun e => hn.2.2 e.symm), (HB.out.1.f.mono (fun i e => .inl (.inr e))).trans (f3.mono (fun i e => .inl (.inl e)))⟩
set_option maxHeartbeats 4000000 in
set_option maxRecDepth 100000 in
theorem long1_no (f o db ib rb B kb : Nat) (L : List UInt8) (r : Bool) (w : World) (hf : Place f o) (hk : Has w kb [fv f] 191) (h : In w ib rb B L r) (hp : need L 8 = none) :
    Calls Tryz.prog 185 #[pv db, pv ib, pv kb] w fun e w' => e = .panicked give ∧ w.grownBy w' none := by
  have c0 : w.cell? ⟨kb, 0, none⟩ = some (fv f) := hk.cellv 0 _ rfl
  obtain ⟨hcf, hf⟩ := hf
  clear hk
  go_enter Tryz.func185, Tryz.ntmps185
  go_wp2_with fail
  refine (hf db w).mono ?_
  rintro e w1 ⟨rfl, rfl⟩
  go_wp2_with fail
  refine (number_no ib rb B L r 8 w1 h hp).mono ?_
  rintro e w2 ⟨rfl, g2⟩
  exact ⟨rfl, rfl, g2⟩
set_option maxHeartbeats 4000000 in
set_option maxRecDepth 100000 in
theorem lever1_ok (f o db ib rb B kb : Nat) (d : List Value) (L : List UInt8) (r : Bool) (w : World) (hf : Place f o) (hk : Has w kb [fv f] 194) (hd : Has w db d 34) (ho : o < d.length) (hn : db ≠ ib ∧ db ≠ rb ∧ db ≠ B) (h : In w ib rb B L r) (p : List UInt8 × List UInt8) (hp : need L 1 = some p) :
    Calls Tryz.prog 190 #[pv db, pv ib, pv kb] w fun e w' => e = .returned (.tuple #[]) ∧ Has w' db (d.set o (.int .i64 (sval p.1))) 34 ∧ In w' ib rb B p.2 r ∧ Fr (fun i => i = db ∨ i = rb) w w' := by
  have c0 : w.cell? ⟨kb, 0, none⟩ = some (fv f) := hk.cellv 0 _ rfl
  obtain ⟨hcf, hf⟩ := hf
  have HA : Keep (In w ib rb B L r ∧ need L 1 = some p ∧ Has w db d 34 ∧ o < d.length) := ⟨h, hp, hd, ho⟩
  clear hk h hp hd ho
  go_enter Tryz.func190, Tryz.ntmps190
  go_wp2_with fail
  refine (hf db w).mono ?_
  rintro e w1 ⟨rfl, rfl⟩
  go_wp2_with fail
  refine (signed_ok ib rb B L r 1 p w1 HA.out.1 (by decide) HA.out.2.1).mono ?_
  rintro e w2 ⟨rfl, d2⟩
  have h2 : Has w2 db d 34 := HA.out.2.2.1.fr d2.f (fun e => hn.2.1 e)
  have z1 : w2.frozen? ⟨db, o, none⟩ = false := h2.frozen o
  obtain ⟨x, hx⟩ : ∃ x, w2.cell? ⟨db, o, none⟩ = some x := ⟨d[o]'HA.out.2.2.2, h2.cellv o _ (List.getElem?_eq_getElem HA.out.2.2.2)⟩
  have HB : Keep (RDid w1 w2 rb B (p.2, 0) ∧ In w2 ib rb B p.2 r ∧ Has w2 db d 34) := ⟨d2, HA.out.1.did d2, h2⟩
  clear d2 h2
  generalize hq : sval p.1 = q
  have HQ : Keep (sval p.1 = q) := ⟨hq⟩
  clear hq
  go_wp2
  go_end0
  have f3 : Fr (fun i => i = db) w2 (w2.setCell ⟨db, o, none⟩ (.int .i64 q)) := Fr.ofSome (gr_set w2 db o _) rfl
  rw [HQ.out]
  refine ⟨rfl, HB.out.2.2.setCell o _, HB.out.2.1.fr f3 (fun e => hn.1 e.symm) (fun e => hn.2.1 e.symm) (fun e => hn.2.2 e.symm), (HB.out.1.f.mono (fun i e => .inl (.inr e))).trans (f3.mono (fun i e => .inl (.inl e)))⟩
set_option maxHeartbeats 4000000 in
set_option maxRecDepth 100000 in
theorem lever1_no (f o db ib rb B kb : Nat) (L : List UInt8) (r : Bool) (w : World) (hf : Place f o) (hk : Has w kb [fv f] 194) (h : In w ib rb B L r) (hp : need L 1 = none) :
    Calls Tryz.prog 190 #[pv db, pv ib, pv kb] w fun e w' => e = .panicked give ∧ w.grownBy w' none := by
  have c0 : w.cell? ⟨kb, 0, none⟩ = some (fv f) := hk.cellv 0 _ rfl
  obtain ⟨hcf, hf⟩ := hf
  clear hk
  go_enter Tryz.func190, Tryz.ntmps190
  go_wp2_with fail
  refine (hf db w).mono ?_
  rintro e w1 ⟨rfl, rfl⟩
  go_wp2_with fail
  refine (signed_no ib rb B L r 1 w1 h hp).mono ?_
  rintro e w2 ⟨rfl, g2⟩
  exact ⟨rfl, rfl, g2⟩
set_option maxHeartbeats 4000000 in
set_option maxRecDepth 100000 in
theorem fixed1_ok (f o n db ib rb B b1 b2 : Nat) (d : List Value) (L : List UInt8) (r : Bool) (w : World) (hf : Place f o) (h1 : Has w b1 [.int .i64 (n : Int)] 3) (h2 : Has w b2 [fv f] 186) (hb : b1 ≠ rb ∧ b2 ≠ rb ∧ b1 ≠ db ∧ b2 ≠ db) (hd : Has w db d 34) (ho : o < d.length) (hn : db ≠ ib ∧ db ≠ rb ∧ db ≠ B) (h : In w ib rb B L r) (p : List UInt8 × List UInt8) (hp : need L n = some p) :
    Calls Tryz.prog 180 #[pv db, pv ib, pv b1, pv b2] w fun e w' => e = .returned (.tuple #[]) ∧ Has w' db (d.set o (.string (ba p.1))) 34 ∧ In w' ib rb B p.2 r ∧ Fr (fun i => i = db ∨ i = rb) w w' := by
  obtain ⟨hcf, hf⟩ := hf
  have HA : Keep (In w.drew ib rb B L r ∧ need L n = some p ∧ Has w.drew db d 34 ∧ o < d.length) := ⟨h.kept (gr_drew _ _), hp, hd.kept (gr_drew _ none) (by simp), ho⟩
  have HH : Keep (Has w.drew b1 [.int .i64 (n : Int)] 3 ∧ Has w.drew b2 [fv f] 186) := ⟨h1.kept (gr_drew _ none) (by simp), h2.kept (gr_drew _ none) (by simp)⟩
  clear h hp hd ho h1 h2
  go_enter Tryz.func180, Tryz.ntmps180
  go_wp2_with fail
  refine wp_region_held_drew (S := fun w' => Has w' b1 [.int .i64 (n : Int)] 3 ∧ Has w' b2 [fv f] 186) (by kernel_rfl) HH.out (fun hHeld => ?_)
  refine wpAnyH_take (i := 0) (oi := _) (v := ?_) rfl (by kernel_rfl) (by kernel_rfl) (by kernel_rfl) (fun _ _ _ h => h) (Or.inl ⟨by rfl, ?_⟩) (by assumption) ?_
  rotate_left
  · (intro w hSw; have x1 := hSw.1.cellv 0 _ rfl; have x2 := hSw.2.cellv 0 _ rfl; clear hSw; go_simp; first | done | (with_reducible rfl))
  simp only [Act.put, List.getElem_toArray, List.getElem_cons_zero, List.setIfInBounds_toArray, List.set_cons_zero, List.set_cons_succ]
  refine wpAnyH_take (i := 1) (oi := _) (v := ?_) rfl (by kernel_rfl) (by kernel_rfl) (by kernel_rfl) (fun _ _ _ h => h) (Or.inl ⟨by rfl, ?_⟩) (by assumption) ?_
  rotate_left
  · (intro w hSw; go_simp; first | done | (with_reducible rfl))
  simp only [Act.put, List.getElem_toArray, List.getElem_cons_succ, List.getElem_cons_zero, List.setIfInBounds_toArray, List.set_cons_zero, List.set_cons_succ]
  refine wpAnyH_take (i := 3) (oi := _) (v := ?_) rfl (by kernel_rfl) (by kernel_rfl) (by kernel_rfl) (fun _ _ _ h => h) (Or.inl ⟨by rfl, ?_⟩) (by assumption) ?_
  rotate_left
  · (intro w hSw; go_simp; first | done | (with_reducible rfl))
  simp only [Act.put, List.getElem_toArray, List.getElem_cons_succ, List.getElem_cons_zero, List.setIfInBounds_toArray, List.set_cons_zero, List.set_cons_succ]
  refine wpAnyH_take (i := 4) (oi := _) (v := ?_) rfl (by kernel_rfl) (by kernel_rfl) (by kernel_rfl) (fun _ _ _ h => h) (Or.inl ⟨by rfl, ?_⟩) (by assumption) ?_
  rotate_left
  · (intro w hSw; have x1 := hSw.1.cellv 0 _ rfl; have x2 := hSw.2.cellv 0 _ rfl; clear hSw; go_simp; first | done | (with_reducible rfl))
  simp only [Act.put, List.getElem_toArray, List.getElem_cons_succ, List.getElem_cons_zero, List.setIfInBounds_toArray, List.set_cons_zero, List.set_cons_succ]
  refine wpAnyH_ready (rs := [2]) (by kernel_rfl) (by simp) ?_
  refine AllReadyH.cons rfl (fun K hK => ?_) AllReadyH.nil
  go_simp
  refine (hf db w.drew).mono ?_
  rintro e w1 ⟨rfl, hw1⟩
  subst hw1
  refine hK.out _ _ HH.out (fun hHeld => ?_)
  clear hK K
  refine wpAnyH_ready (rs := [5]) (by kernel_rfl) (by simp) ?_
  refine AllReadyH.cons rfl (fun K hK => ?_) AllReadyH.nil
  go_simp
  refine (bytes_ok ib rb B L r n p _ HA.out.1 HA.out.2.1).mono ?_
  rintro e w2 ⟨rfl, d2⟩
  have h2 : Has w2 db d 34 := HA.out.2.2.1.fr d2.f (fun e => hn.2.1 e)
  have z1 : w2.frozen? ⟨db, o, none⟩ = false := h2.frozen o
  obtain ⟨x, hx⟩ : ∃ x, w2.cell? ⟨db, o, none⟩ = some x := ⟨d[o]'HA.out.2.2.2, h2.cellv o _ (List.getElem?_eq_getElem HA.out.2.2.2)⟩
  have HB : Keep (RDid w w2 rb B (p.2, 0) ∧ In w2 ib rb B p.2 r ∧ Has w2 db d 34) := ⟨d2.ahead (gr_drew _ _), HA.out.1.did d2, h2⟩
  refine hK.out _ _ ⟨HH.out.1.fr d2.f hb.1, HH.out.2.fr d2.f hb.2.1⟩ (fun hHeld => ?_)
  clear hK K
  have f3 : Fr (fun i => i = db) w2 (w2.setCell ⟨db, o, none⟩ (.string (ba p.1))) := Fr.ofSome (gr_set w2 db o _) rfl
  have HE : Keep (Has (w2.setCell ⟨db, o, none⟩ (.string (ba p.1))) db (d.set o (.string (ba p.1))) 34 ∧ In (w2.setCell ⟨db, o, none⟩ (.string (ba p.1))) ib rb B p.2 r ∧ Fr (fun i => i = db ∨ i = rb) w (w2.setCell ⟨db, o, none⟩ (.string (ba p.1)))) := ⟨HB.out.2.2.setCell o _, HB.out.2.1.fr f3 (fun e => hn.1 e.symm) (fun e => hn.2.1 e.symm) (fun e => hn.2.2 e.symm), (HB.out.1.f.mono (fun i e => .inl (.inr e))).trans (f3.mono (fun i e => .inl (.inl e)))⟩
  clear d2 h2 f3 HB
  have HH3 : Keep (Has (w2.setCell ⟨db, o, none⟩ (.string (ba p.1))) b1 [.int .i64 (n : Int)] 3 ∧ Has (w2.setCell ⟨db, o, none⟩ (.string (ba p.1))) b2 [fv f] 186) := ⟨hHeld.1.other _ _ (Ne.symm hb.2.2.1), hHeld.2.other _ _ (Ne.symm hb.2.2.2)⟩
  refine wpAnyH_take (i := 6) (oi := _) (v := ?_) rfl (by kernel_rfl) (by kernel_rfl) (by kernel_rfl) (fun _ _ _ h => h) (Or.inl ⟨by rfl, ?_⟩) (by assumption) ?_
  rotate_left
  · (intro w hSw; go_simp; first | done | (with_reducible rfl))
  simp only [Act.put, List.getElem_toArray, List.getElem_cons_succ, List.getElem_cons_zero, List.setIfInBounds_toArray, List.set_cons_zero, List.set_cons_succ]
  refine wpAnyH_ready (rs := [7]) (by kernel_rfl) (by simp) ?_
  refine AllReadyH.cons rfl (fun K hK => ?_) AllReadyH.nil
  go_simp
  refine hK.out _ _ HH3.out (fun hHeld => ?_)
  refine wpAnyH_done (by kernel_rfl) ?_ _
  clear hK K
  go_wp2_with fail
  go_end0
  exact ⟨rfl, HE.out⟩
set_option maxHeartbeats 4000000 in
set_option maxRecDepth 100000 in
theorem fixed1_no (f o n db ib rb B b1 b2 : Nat) (d : List Value) (L : List UInt8) (r : Bool) (w : World) (hf : Place f o) (h1 : Has w b1 [.int .i64 (n : Int)] 3) (h2 : Has w b2 [fv f] 186) (_hb : b1 ≠ rb ∧ b2 ≠ rb ∧ b1 ≠ db ∧ b2 ≠ db) (hd : Has w db d 34) (ho : o < d.length) (_hn : db ≠ ib ∧ db ≠ rb ∧ db ≠ B) (h : In w ib rb B L r) (hp : need L n = none) :
    Calls Tryz.prog 180 #[pv db, pv ib, pv b1, pv b2] w fun e w' => e = .panicked give ∧ w.grownBy w' none := by
  obtain ⟨hcf, hf⟩ := hf
  have HA : Keep (In w.drew ib rb B L r ∧ need L n = none ∧ Has w.drew db d 34 ∧ o < d.length) := ⟨h.kept (gr_drew _ _), hp, hd.kept (gr_drew _ none) (by simp), ho⟩
  have HH : Keep (Has w.drew b1 [.int .i64 (n : Int)] 3 ∧ Has w.drew b2 [fv f] 186) := ⟨h1.kept (gr_drew _ none) (by simp), h2.kept (gr_drew _ none) (by simp)⟩
  clear h hp hd ho h1 h2
  go_enter Tryz.func180, Tryz.ntmps180
  go_wp2_with fail
  refine wp_region_held_drew (S := fun w' => Has w' b1 [.int .i64 (n : Int)] 3 ∧ Has w' b2 [fv f] 186) (by kernel_rfl) HH.out (fun hHeld => ?_)
  refine wpAnyH_take (i := 0) (oi := _) (v := ?_) rfl (by kernel_rfl) (by kernel_rfl) (by kernel_rfl) (fun _ _ _ h => h) (Or.inl ⟨by rfl, ?_⟩) (by assumption) ?_
  rotate_left
  · (intro w hSw; have x1 := hSw.1.cellv 0 _ rfl; have x2 := hSw.2.cellv 0 _ rfl; clear hSw; go_simp; first | done | (with_reducible rfl))
  simp only [Act.put, List.getElem_toArray, List.getElem_cons_zero, List.setIfInBounds_toArray, List.set_cons_zero, List.set_cons_succ]
  refine wpAnyH_take (i := 1) (oi := _) (v := ?_) rfl (by kernel_rfl) (by kernel_rfl) (by kernel_rfl) (fun _ _ _ h => h) (Or.inl ⟨by rfl, ?_⟩) (by assumption) ?_
  rotate_left
  · (intro w hSw; go_simp; first | done | (with_reducible rfl))
  simp only [Act.put, List.getElem_toArray, List.getElem_cons_succ, List.getElem_cons_zero, List.setIfInBounds_toArray, List.set_cons_zero, List.set_cons_succ]
  refine wpAnyH_take (i := 3) (oi := _) (v := ?_) rfl (by kernel_rfl) (by kernel_rfl) (by kernel_rfl) (fun _ _ _ h => h) (Or.inl ⟨by rfl, ?_⟩) (by assumption) ?_
  rotate_left
  · (intro w hSw; go_simp; first | done | (with_reducible rfl))
  simp only [Act.put, List.getElem_toArray, List.getElem_cons_succ, List.getElem_cons_zero, List.setIfInBounds_toArray, List.set_cons_zero, List.set_cons_succ]
  refine wpAnyH_take (i := 4) (oi := _) (v := ?_) rfl (by kernel_rfl) (by kernel_rfl) (by kernel_rfl) (fun _ _ _ h => h) (Or.inl ⟨by rfl, ?_⟩) (by assumption) ?_
  rotate_left
  · (intro w hSw; have x1 := hSw.1.cellv 0 _ rfl; have x2 := hSw.2.cellv 0 _ rfl; clear hSw; go_simp; first | done | (with_reducible rfl))
  simp only [Act.put, List.getElem_toArray, List.getElem_cons_succ, List.getElem_cons_zero, List.setIfInBounds_toArray, List.set_cons_zero, List.set_cons_succ]
  refine wpAnyH_ready (rs := [2]) (by kernel_rfl) (by simp) ?_
  refine AllReadyH.cons rfl (fun K hK => ?_) AllReadyH.nil
  go_simp
  refine (hf db w.drew).mono ?_
  rintro e w1 ⟨rfl, hw1⟩
  subst hw1
  refine hK.out _ _ HH.out (fun hHeld => ?_)
  clear hK K
  refine wpAnyH_ready (rs := [5]) (by kernel_rfl) (by simp) ?_
  refine AllReadyH.cons rfl (fun K hK => ?_) AllReadyH.nil
  go_simp
  refine (bytes_no ib rb B L r n _ HA.out.1 HA.out.2.1).mono ?_
  rintro e w2 ⟨rfl, g2⟩
  exact ⟨rfl, rfl, (gr_drew _ none).trans g2⟩
end Go.Proofs.YtldnpebnpbahjaaGreatDoor.Pk
