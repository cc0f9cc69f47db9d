import Derived.Test.YtiphnlfbgbemfaaGreatDoorX4
import Derived.Deep.RegionHeld
/- frame's places: where in a datagram a field lies; how the fields are taken -/
namespace Go.Proofs.YtiphnlfbgbemfaaGreatDoor.Pk
open Go Go.RowKit

abbrev Enters (f : Nat) : Prop := ∀ (a : Array Value) (W : World), (callFunc f a).run Tryz.prog W = .ok (.enter f a) W
/-- a function that tells a place of a datagram -/
def Place (f o : Nat) : Prop := Enters f ∧ ∀ (db : Nat) (w : World), Calls Tryz.prog f #[pv db] w fun e w' => e = .returned (.pointer (some ⟨db, o, none⟩)) ∧ w' = w
set_option maxHeartbeats 4000000 in
set_option maxRecDepth 100000 in
theorem p83 : Place 83 1 := ⟨fun _ _ => by kernel_rfl, fun db w => by
  go_enter Tryz.func83, Tryz.ntmps83
  go_wp2
  go_ret
  exact ⟨rfl, rfl⟩⟩
set_option maxHeartbeats 4000000 in
set_option maxRecDepth 100000 in
theorem p89 : Place 89 2 := ⟨fun _ _ => by kernel_rfl, fun db w => by
  go_enter Tryz.func89, Tryz.ntmps89
  go_wp2
  go_ret
  exact ⟨rfl, rfl⟩⟩
set_option maxHeartbeats 4000000 in
set_option maxRecDepth 100000 in
theorem p90 : Place 90 3 := ⟨fun _ _ => by kernel_rfl, fun db w => by
  go_enter Tryz.func90, Tryz.ntmps90
  go_wp2
  go_ret
  exact ⟨rfl, rfl⟩⟩
set_option maxHeartbeats 4000000 in
set_option maxRecDepth 100000 in
theorem p95 : Place 95 14 := ⟨fun _ _ => by kernel_rfl, fun db w => by
  go_enter Tryz.func95, Tryz.ntmps95
  go_wp2
  go_ret
  exact ⟨rfl, rfl⟩⟩
set_option maxHeartbeats 4000000 in
set_option maxRecDepth 100000 in
theorem p96 : Place 96 5 := ⟨fun _ _ => by kernel_rfl, fun db w => by
  go_enter Tryz.func96, Tryz.ntmps96
  go_wp2
  go_ret
  exact ⟨rfl, rfl⟩⟩
set_option maxHeartbeats 4000000 in
set_option maxRecDepth 100000 in
theorem p101 : Place 101 7 := ⟨fun _ _ => by kernel_rfl, fun db w => by
  go_enter Tryz.func101, Tryz.ntmps101
  go_wp2
  go_ret
  exact ⟨rfl, rfl⟩⟩
set_option maxHeartbeats 4000000 in
set_option maxRecDepth 100000 in
theorem p102 : Place 102 8 := ⟨fun _ _ => by kernel_rfl, fun db w => by
  go_enter Tryz.func102, Tryz.ntmps102
  go_wp2
  go_ret
  exact ⟨rfl, rfl⟩⟩
set_option maxHeartbeats 4000000 in
set_option maxRecDepth 100000 in
theorem p104 : Place 104 9 := ⟨fun _ _ => by kernel_rfl, fun db w => by
  go_enter Tryz.func104, Tryz.ntmps104
  go_wp2
  go_ret
  exact ⟨rfl, rfl⟩⟩
set_option maxHeartbeats 4000000 in
set_option maxRecDepth 100000 in
theorem p105 : Place 105 10 := ⟨fun _ _ => by kernel_rfl, fun db w => by
  go_enter Tryz.func105, Tryz.ntmps105
  go_wp2
  go_ret
  exact ⟨rfl, rfl⟩⟩
set_option maxHeartbeats 4000000 in
set_option maxRecDepth 100000 in
theorem long1_ok (f o db ib rb B kb : Nat) (d : List Value) (L : List UInt8) (r : Bool) (w : World) (hf : Place f o) (hk : Has w kb [fv f] 113) (hd : Has w db d 26) (ho : o < d.length) (hn : db ≠ ib ∧ db ≠ rb ∧ db ≠ B) (h : In w ib rb B L r) (p : List UInt8 × List UInt8) (hp : need L 8 = some p) :
    Calls Tryz.prog 123 #[pv db, pv ib, pv kb] w fun e w' => e = .returned (.tuple #[]) ∧ Has w' db (d.set o (.int .u64 (val p.1 : Nat))) 26 ∧ In w' ib rb B p.2 r ∧ Fr (fun i => i = db ∨ i = rb) w w' := by
  have c0 : w.cell? ⟨kb, 0, none⟩ = some (fv f) := hk.cellv 0 _ rfl
  obtain ⟨hcf, hf⟩ := hf
  have HA : Keep (In w ib rb B L r ∧ need L 8 = some p ∧ Has w db d 26 ∧ o < d.length) := ⟨h, hp, hd, ho⟩
  clear hk h hp hd ho
  go_enter Tryz.func123, Tryz.ntmps123
  go_wp2_with fail
  refine (hf db w).mono ?_
  rintro e w1 ⟨rfl, rfl⟩
  go_wp2_with fail
  refine (number_ok ib rb B L r 8 p w1 HA.out.1 (by decide) HA.out.2.1).mono ?_
  rintro e w2 ⟨rfl, d2⟩
  have h2 : Has w2 db d 26 := HA.out.2.2.1.fr d2.f (fun e => hn.2.1 e)
  have z1 : w2.frozen? ⟨db, o, none⟩ = false := h2.frozen o
  obtain ⟨x, hx⟩ : ∃ x, w2.cell? ⟨db, o, none⟩ = some x := ⟨d[o]'HA.out.2.2.2, h2.cellv o _ (List.getElem?_eq_getElem HA.out.2.2.2)⟩
  have HB : Keep (RDid w1 w2 rb B (p.2, 0) ∧ In w2 ib rb B p.2 r ∧ Has w2 db d 26) := ⟨d2, HA.out.1.did d2, h2⟩
  clear d2 h2
  generalize hq : val p.1 = q
  have HQ : Keep (val p.1 = q) := ⟨hq⟩
  clear hq
  go_wp2
  go_end0
  have f3 : Fr (fun i => i = db) w2 (w2.setCell ⟨db, o, none⟩ (.int .u64 q)) := Fr.ofSome (gr_set w2 db o _) rfl
  rw [HQ.out]
  refine ⟨rfl, HB.out.2.2.setCell o _, HB.out.2.1.fr f3 (fun e => hn.1 e.symm) (fun e => hn.2.1 e.symm) (fun e => hn.2.2 e.symm), (HB.out.1.f.mono (fun i e => .inl (.inr e))).trans (f3.mono (fun i e => .inl (.inl e)))⟩
set_option maxHeartbeats 4000000 in
set_option maxRecDepth 100000 in
theorem long1_no (f o db ib rb B kb : Nat) (L : List UInt8) (r : Bool) (w : World) (hf : Place f o) (hk : Has w kb [fv f] 113) (h : In w ib rb B L r) (hp : need L 8 = none) :
    Calls Tryz.prog 123 #[pv db, pv ib, pv kb] w fun e w' => e = .panicked give ∧ w.grownBy w' none := by
  have c0 : w.cell? ⟨kb, 0, none⟩ = some (fv f) := hk.cellv 0 _ rfl
  obtain ⟨hcf, hf⟩ := hf
  clear hk
  go_enter Tryz.func123, Tryz.ntmps123
  go_wp2_with fail
  refine (hf db w).mono ?_
  rintro e w1 ⟨rfl, rfl⟩
  go_wp2_with fail
  refine (number_no ib rb B L r 8 w1 h hp).mono ?_
  rintro e w2 ⟨rfl, g2⟩
  exact ⟨rfl, rfl, g2⟩
set_option maxHeartbeats 4000000 in
set_option maxRecDepth 100000 in
theorem lever1_ok (f o db ib rb B kb : Nat) (d : List Value) (L : List UInt8) (r : Bool) (w : World) (hf : Place f o) (hk : Has w kb [fv f] 118) (hd : Has w db d 26) (ho : o < d.length) (hn : db ≠ ib ∧ db ≠ rb ∧ db ≠ B) (h : In w ib rb B L r) (p : List UInt8 × List UInt8) (hp : need L 1 = some p) :
    Calls Tryz.prog 128 #[pv db, pv ib, pv kb] w fun e w' => e = .returned (.tuple #[]) ∧ Has w' db (d.set o (.int .i64 (sval p.1))) 26 ∧ In w' ib rb B p.2 r ∧ Fr (fun i => i = db ∨ i = rb) w w' := by
  have c0 : w.cell? ⟨kb, 0, none⟩ = some (fv f) := hk.cellv 0 _ rfl
  obtain ⟨hcf, hf⟩ := hf
  have HA : Keep (In w ib rb B L r ∧ need L 1 = some p ∧ Has w db d 26 ∧ o < d.length) := ⟨h, hp, hd, ho⟩
  clear hk h hp hd ho
  go_enter Tryz.func128, Tryz.ntmps128
  go_wp2_with fail
  refine (hf db w).mono ?_
  rintro e w1 ⟨rfl, rfl⟩
  go_wp2_with fail
  refine (signed_ok ib rb B L r 1 p w1 HA.out.1 (by decide) HA.out.2.1).mono ?_
  rintro e w2 ⟨rfl, d2⟩
  have h2 : Has w2 db d 26 := HA.out.2.2.1.fr d2.f (fun e => hn.2.1 e)
  have z1 : w2.frozen? ⟨db, o, none⟩ = false := h2.frozen o
  obtain ⟨x, hx⟩ : ∃ x, w2.cell? ⟨db, o, none⟩ = some x := ⟨d[o]'HA.out.2.2.2, h2.cellv o _ (List.getElem?_eq_getElem HA.out.2.2.2)⟩
  have HB : Keep (RDid w1 w2 rb B (p.2, 0) ∧ In w2 ib rb B p.2 r ∧ Has w2 db d 26) := ⟨d2, HA.out.1.did d2, h2⟩
  clear d2 h2
  generalize hq : sval p.1 = q
  have HQ : Keep (sval p.1 = q) := ⟨hq⟩
  clear hq
  go_wp2
  go_end0
  have f3 : Fr (fun i => i = db) w2 (w2.setCell ⟨db, o, none⟩ (.int .i64 q)) := Fr.ofSome (gr_set w2 db o _) rfl
  rw [HQ.out]
  refine ⟨rfl, HB.out.2.2.setCell o _, HB.out.2.1.fr f3 (fun e => hn.1 e.symm) (fun e => hn.2.1 e.symm) (fun e => hn.2.2 e.symm), (HB.out.1.f.mono (fun i e => .inl (.inr e))).trans (f3.mono (fun i e => .inl (.inl e)))⟩
set_option maxHeartbeats 4000000 in
set_option maxRecDepth 100000 in
theorem lever1_no (f o db ib rb B kb : Nat) (L : List UInt8) (r : Bool) (w : World) (hf : Place f o) (hk : Has w kb [fv f] 118) (h : In w ib rb B L r) (hp : need L 1 = none) :
    Calls Tryz.prog 128 #[pv db, pv ib, pv kb] w fun e w' => e = .panicked give ∧ w.grownBy w' none := by
  have c0 : w.cell? ⟨kb, 0, none⟩ = some (fv f) := hk.cellv 0 _ rfl
  obtain ⟨hcf, hf⟩ := hf
  clear hk
  go_enter Tryz.func128, Tryz.ntmps128
  go_wp2_with fail
  refine (hf db w).mono ?_
  rintro e w1 ⟨rfl, rfl⟩
  go_wp2_with fail
  refine (signed_no ib rb B L r 1 w1 h hp).mono ?_
  rintro e w2 ⟨rfl, g2⟩
  exact ⟨rfl, rfl, g2⟩
set_option maxHeartbeats 4000000 in
set_option maxRecDepth 100000 in
theorem fixed1_ok (f o n db ib rb B b1 b2 : Nat) (d : List Value) (L : List UInt8) (r : Bool) (w : World) (hf : Place f o) (h1 : Has w b1 [.int .i64 (n : Int)] 3) (h2 : Has w b2 [fv f] 108) (hb : b1 ≠ rb ∧ b2 ≠ rb ∧ b1 ≠ db ∧ b2 ≠ db) (hd : Has w db d 26) (ho : o < d.length) (hn : db ≠ ib ∧ db ≠ rb ∧ db ≠ B) (h : In w ib rb B L r) (p : List UInt8 × List UInt8) (hp : need L n = some p) :
    Calls Tryz.prog 118 #[pv db, pv ib, pv b1, pv b2] w fun e w' => e = .returned (.tuple #[]) ∧ Has w' db (d.set o (.string (ba p.1))) 26 ∧ In w' ib rb B p.2 r ∧ Fr (fun i => i = db ∨ i = rb) w w' := by
  obtain ⟨hcf, hf⟩ := hf
  have HA : Keep (In w.drew ib rb B L r ∧ need L n = some p ∧ Has w.drew db d 26 ∧ o < d.length) := ⟨h.kept (gr_drew _ _), hp, hd.kept (gr_drew _ none) (by simp), ho⟩
  have HH : Keep (Has w.drew b1 [.int .i64 (n : Int)] 3 ∧ Has w.drew b2 [fv f] 108) := ⟨h1.kept (gr_drew _ none) (by simp), h2.kept (gr_drew _ none) (by simp)⟩
  clear h hp hd ho h1 h2
  go_enter Tryz.func118, Tryz.ntmps118
  go_wp2_with fail
  refine wp_region_held_drew (S := fun w' => Has w' b1 [.int .i64 (n : Int)] 3 ∧ Has w' b2 [fv f] 108) (by kernel_rfl) HH.out (fun hHeld => ?_)
  refine wpAnyH_take (i := 0) (oi := _) (v := ?_) rfl (by kernel_rfl) (by kernel_rfl) (by kernel_rfl) (fun _ _ _ h => h) (Or.inl ⟨by rfl, ?_⟩) (by assumption) ?_
  rotate_left
  · (intro w hSw; have x1 := hSw.1.cellv 0 _ rfl; have x2 := hSw.2.cellv 0 _ rfl; clear hSw; go_simp; first | done | (with_reducible rfl))
  simp only [Act.put, List.getElem_toArray, List.getElem_cons_zero, List.setIfInBounds_toArray, List.set_cons_zero, List.set_cons_succ]
  refine wpAnyH_take (i := 1) (oi := _) (v := ?_) rfl (by kernel_rfl) (by kernel_rfl) (by kernel_rfl) (fun _ _ _ h => h) (Or.inl ⟨by rfl, ?_⟩) (by assumption) ?_
  rotate_left
  · (intro w hSw; go_simp; first | done | (with_reducible rfl))
  simp only [Act.put, List.getElem_toArray, List.getElem_cons_succ, List.getElem_cons_zero, List.setIfInBounds_toArray, List.set_cons_zero, List.set_cons_succ]
  refine wpAnyH_take (i := 3) (oi := _) (v := ?_) rfl (by kernel_rfl) (by kernel_rfl) (by kernel_rfl) (fun _ _ _ h => h) (Or.inl ⟨by rfl, ?_⟩) (by assumption) ?_
  rotate_left
  · (intro w hSw; go_simp; first | done | (with_reducible rfl))
  simp only [Act.put, List.getElem_toArray, List.getElem_cons_succ, List.getElem_cons_zero, List.setIfInBounds_toArray, List.set_cons_zero, List.set_cons_succ]
  refine wpAnyH_take (i := 4) (oi := _) (v := ?_) rfl (by kernel_rfl) (by kernel_rfl) (by kernel_rfl) (fun _ _ _ h => h) (Or.inl ⟨by rfl, ?_⟩) (by assumption) ?_
  rotate_left
  · (intro w hSw; have x1 := hSw.1.cellv 0 _ rfl; have x2 := hSw.2.cellv 0 _ rfl; clear hSw; go_simp; first | done | (with_reducible rfl))
  simp only [Act.put, List.getElem_toArray, List.getElem_cons_succ, List.getElem_cons_zero, List.setIfInBounds_toArray, List.set_cons_zero, List.set_cons_succ]
  refine wpAnyH_ready (rs := [2]) (by kernel_rfl) (by simp) ?_
  refine AllReadyH.cons rfl (fun K hK => ?_) AllReadyH.nil
  go_simp
  refine (hf db w.drew).mono ?_
  rintro e w1 ⟨rfl, hw1⟩
  subst hw1
  refine hK.out _ _ HH.out (fun hHeld => ?_)
  clear hK K
  refine wpAnyH_ready (rs := [5]) (by kernel_rfl) (by simp) ?_
  refine AllReadyH.cons rfl (fun K hK => ?_) AllReadyH.nil
  go_simp
  refine (bytes_ok ib rb B L r n p _ HA.out.1 HA.out.2.1).mono ?_
  rintro e w2 ⟨rfl, d2⟩
  have h2 : Has w2 db d 26 := HA.out.2.2.1.fr d2.f (fun e => hn.2.1 e)
  have z1 : w2.frozen? ⟨db, o, none⟩ = false := h2.frozen o
  obtain ⟨x, hx⟩ : ∃ x, w2.cell? ⟨db, o, none⟩ = some x := ⟨d[o]'HA.out.2.2.2, h2.cellv o _ (List.getElem?_eq_getElem HA.out.2.2.2)⟩
  have HB : Keep (RDid w w2 rb B (p.2, 0) ∧ In w2 ib rb B p.2 r ∧ Has w2 db d 26) := ⟨d2.ahead (gr_drew _ _), HA.out.1.did d2, h2⟩
  refine hK.out _ _ ⟨HH.out.1.fr d2.f hb.1, HH.out.2.fr d2.f hb.2.1⟩ (fun hHeld => ?_)
  clear hK K
  have f3 : Fr (fun i => i = db) w2 (w2.setCell ⟨db, o, none⟩ (.string (ba p.1))) := Fr.ofSome (gr_set w2 db o _) rfl
  have HE : Keep (Has (w2.setCell ⟨db, o, none⟩ (.string (ba p.1))) db (d.set o (.string (ba p.1))) 26 ∧ In (w2.setCell ⟨db, o, none⟩ (.string (ba p.1))) ib rb B p.2 r ∧ Fr (fun i => i = db ∨ i = rb) w (w2.setCell ⟨db, o, none⟩ (.string (ba p.1)))) := ⟨HB.out.2.2.setCell o _, HB.out.2.1.fr f3 (fun e => hn.1 e.symm) (fun e => hn.2.1 e.symm) (fun e => hn.2.2 e.symm), (HB.out.1.f.mono (fun i e => .inl (.inr e))).trans (f3.mono (fun i e => .inl (.inl e)))⟩
  clear d2 h2 f3 HB
  have HH3 : Keep (Has (w2.setCell ⟨db, o, none⟩ (.string (ba p.1))) b1 [.int .i64 (n : Int)] 3 ∧ Has (w2.setCell ⟨db, o, none⟩ (.string (ba p.1))) b2 [fv f] 108) := ⟨hHeld.1.other _ _ (Ne.symm hb.2.2.1), hHeld.2.other _ _ (Ne.symm hb.2.2.2)⟩
  refine wpAnyH_take (i := 6) (oi := _) (v := ?_) rfl (by kernel_rfl) (by kernel_rfl) (by kernel_rfl) (fun _ _ _ h => h) (Or.inl ⟨by rfl, ?_⟩) (by assumption) ?_
  rotate_left
  · (intro w hSw; go_simp; first | done | (with_reducible rfl))
  simp only [Act.put, List.getElem_toArray, List.getElem_cons_succ, List.getElem_cons_zero, List.setIfInBounds_toArray, List.set_cons_zero, List.set_cons_succ]
  refine wpAnyH_ready (rs := [7]) (by kernel_rfl) (by simp) ?_
  refine AllReadyH.cons rfl (fun K hK => ?_) AllReadyH.nil
  go_simp
  refine hK.out _ _ HH3.out (fun hHeld => ?_)
  refine wpAnyH_done (by kernel_rfl) ?_ _
  clear hK K
  go_wp2_with fail
  go_end0
  exact ⟨rfl, HE.out⟩
set_option maxHeartbeats 4000000 in
set_option maxRecDepth 100000 in
theorem fixed1_no (f o n db ib rb B b1 b2 : Nat) (d : List Value) (L : List UInt8) (r : Bool) (w : World) (hf : Place f o) (h1 : Has w b1 [.int .i64 (n : Int)] 3) (h2 : Has w b2 [fv f] 108) (_hb : b1 ≠ rb ∧ b2 ≠ rb ∧ b1 ≠ db ∧ b2 ≠ db) (hd : Has w db d 26) (ho : o < d.length) (_hn : db ≠ ib ∧ db ≠ rb ∧ db ≠ B) (h : In w ib rb B L r) (hp : need L n = none) :
    Calls Tryz.prog 118 #[pv db, pv ib, pv b1, pv b2] w fun e w' => e = .panicked give ∧ w.grownBy w' none := by
  obtain ⟨hcf, hf⟩ := hf
  have HA : Keep (In w.drew ib rb B L r ∧ need L n = none ∧ Has w.drew db d 26 ∧ o < d.length) := ⟨h.kept (gr_drew _ _), hp, hd.kept (gr_drew _ none) (by simp), ho⟩
  have HH : Keep (Has w.drew b1 [.int .i64 (n : Int)] 3 ∧ Has w.drew b2 [fv f] 108) := ⟨h1.kept (gr_drew _ none) (by simp), h2.kept (gr_drew _ none) (by simp)⟩
  clear h hp hd ho h1 h2
  go_enter Tryz.func118, Tryz.ntmps118
  go_wp2_with fail
  refine wp_region_held_drew (S := fun w' => Has w' b1 [.int .i64 (n : Int)] 3 ∧ Has w' b2 [fv f] 108) (by kernel_rfl) HH.out (fun hHeld => ?_)
  refine wpAnyH_take (i := 0) (oi := _) (v := ?_) rfl (by kernel_rfl) (by kernel_rfl) (by kernel_rfl) (fun _ _ _ h => h) (Or.inl ⟨by rfl, ?_⟩) (by assumption) ?_
  rotate_left
  · (intro w hSw; have x1 := hSw.1.cellv 0 _ rfl; have x2 := hSw.2.cellv 0 _ rfl; clear hSw; go_simp; first | done | (with_reducible rfl))
  simp only [Act.put, List.getElem_toArray, List.getElem_cons_zero, List.setIfInBounds_toArray, List.set_cons_zero, List.set_cons_succ]
  refine wpAnyH_take (i := 1) (oi := _) (v := ?_) rfl (by kernel_rfl) (by kernel_rfl) (by kernel_rfl) (fun _ _ _ h => h) (Or.inl ⟨by rfl, ?_⟩) (by assumption) ?_
  rotate_left
  · (intro w hSw; go_simp; first | done | (with_reducible rfl))
  simp only [Act.put, List.getElem_toArray, List.getElem_cons_succ, List.getElem_cons_zero, List.setIfInBounds_toArray, List.set_cons_zero, List.set_cons_succ]
  refine wpAnyH_take (i := 3) (oi := _) (v := ?_) rfl (by kernel_rfl) (by kernel_rfl) (by kernel_rfl) (fun _ _ _ h => h) (Or.inl ⟨by rfl, ?_⟩) (by assumption) ?_
  rotate_left
  · (intro w hSw; go_simp; first | done | (with_reducible rfl))
  simp only [Act.put, List.getElem_toArray, List.getElem_cons_succ, List.getElem_cons_zero, List.setIfInBounds_toArray, List.set_cons_zero, List.set_cons_succ]
  refine wpAnyH_take (i := 4) (oi := _) (v := ?_) rfl (by kernel_rfl) (by kernel_rfl) (by kernel_rfl) (fun _ _ _ h => h) (Or.inl ⟨by rfl, ?_⟩) (by assumption) ?_
  rotate_left
  · (intro w hSw; have x1 := hSw.1.cellv 0 _ rfl; have x2 := hSw.2.cellv 0 _ rfl; clear hSw; go_simp; first | done | (with_reducible rfl))
  simp only [Act.put, List.getElem_toArray, List.getElem_cons_succ, List.getElem_cons_zero, List.setIfInBounds_toArray, List.set_cons_zero, List.set_cons_succ]
  refine wpAnyH_ready (rs := [2]) (by kernel_rfl) (by simp) ?_
  refine AllReadyH.cons rfl (fun K hK => ?_) AllReadyH.nil
  go_simp
  refine (hf db w.drew).mono ?_
  rintro e w1 ⟨rfl, hw1⟩
  subst hw1
  refine hK.out _ _ HH.out (fun hHeld => ?_)
  clear hK K
  refine wpAnyH_ready (rs := [5]) (by kernel_rfl) (by simp) ?_
  refine AllReadyH.cons rfl (fun K hK => ?_) AllReadyH.nil
  go_simp
  refine (bytes_no ib rb B L r n _ HA.out.1 HA.out.2.1).mono ?_
  rintro e w2 ⟨rfl, g2⟩
  exact ⟨rfl, rfl, (gr_drew _ none).trans g2⟩
end Go.Proofs.YtiphnlfbgbemfaaGreatDoor.Pk

/- frame: player, name, view, flags, zeros taken -/
namespace Go.Proofs.YtiphnlfbgbemfaaGreatDoor.Pk
open Go Go.RowKit

theorem eqS (a b : ByteArray) : (a.toList == b.toList) = decide (a = b) := by
  rw [Bool.eq_iff_iff, beq_iff_eq, decide_eq_true_iff, ByteArray.toList_eq, ByteArray.toList_eq]
  exact ⟨fun e => ByteArray.ext (Array.toList_inj.1 e), fun e => by rw [e]⟩
set_option maxHeartbeats 4000000 in
set_option maxRecDepth 100000 in
theorem player1_ok (db ib rb B : Nat) (d : List Value) (L : List UInt8) (r : Bool) (w : World) (hd : Has w db d 26) (ho : d.length = 15) (hn : db ≠ ib ∧ db ≠ rb ∧ db ≠ B) (h : In w ib rb B L r) (p : List UInt8 × List UInt8) (hp : need L 1 = some p) :
    Calls Tryz.prog 97 #[pv db, pv ib] w fun e w' => e = .returned (.tuple #[]) ∧ Has w' db (d.set 6 (.int .i64 (val p.1 : Nat))) 26 ∧ In w' ib rb B p.2 r ∧ Fr (fun i => i = db ∨ i = rb) w w' := by
  have HA : Keep (In w ib rb B L r ∧ need L 1 = some p ∧ Has w db d 26 ∧ d.length = 15) := ⟨h, hp, hd, ho⟩
  have hv : val p.1 < 256 := val1 (by have := (need_len hp).1; omega)
  clear h hp hd ho
  go_enter Tryz.func97, Tryz.ntmps97
  go_wp2_with fail
  refine (number_ok ib rb B L r 1 p w HA.out.1 (by decide) HA.out.2.1).mono ?_
  rintro e w2 ⟨rfl, d2⟩
  have h2 : Has w2 db d 26 := HA.out.2.2.1.fr d2.f (fun e => hn.2.1 e)
  have z1 : w2.frozen? ⟨db, 6, none⟩ = false := h2.frozen 6
  obtain ⟨x, hx⟩ : ∃ x, w2.cell? ⟨db, 6, none⟩ = some x := ⟨d[6]'(by rw [HA.out.2.2.2]; decide), h2.cellv 6 _ (List.getElem?_eq_getElem _)⟩
  have HB : Keep (RDid w w2 rb B (p.2, 0) ∧ In w2 ib rb B p.2 r ∧ Has w2 db d 26) := ⟨d2, HA.out.1.did d2, h2⟩
  clear d2 h2
  generalize hq : val p.1 = q at hv
  have HQ : Keep (val p.1 = q) := ⟨hq⟩
  clear hq
  go_wp2
  go_end0
  have f3 : Fr (fun i => i = db) w2 (w2.setCell ⟨db, 6, none⟩ (.int .i64 (q : Nat))) := Fr.ofSome (gr_set w2 db 6 _) rfl
  try rw [HQ.out]
  refine ⟨rfl, HB.out.2.2.setCell 6 _, HB.out.2.1.fr f3 (fun e => hn.1 e.symm) (fun e => hn.2.1 e.symm) (fun e => hn.2.2 e.symm), (HB.out.1.f.mono (fun i e => .inl (.inr e))).trans (f3.mono (fun i e => .inl (.inl e)))⟩
set_option maxHeartbeats 4000000 in
set_option maxRecDepth 100000 in
theorem player1_no (db ib rb B : Nat) (L : List UInt8) (r : Bool) (w : World) (h : In w ib rb B L r) (hp : need L 1 = none) :
    Calls Tryz.prog 97 #[pv db, pv ib] w fun e w' => e = .panicked give ∧ w.grownBy w' none := by
  go_enter Tryz.func97, Tryz.ntmps97
  go_wp2_with fail
  refine (number_no ib rb B L r 1 w h hp).mono ?_
  rintro e w2 ⟨rfl, g2⟩
  exact ⟨rfl, rfl, g2⟩
set_option maxHeartbeats 4000000 in
set_option maxRecDepth 100000 in
theorem name1_ok (db ib rb B : Nat) (d : List Value) (L : List UInt8) (r : Bool) (w : World) (hd : Has w db d 26) (ho : d.length = 15) (hn : db ≠ ib ∧ db ≠ rb ∧ db ≠ B) (h : In w ib rb B L r) (p q : List UInt8 × List UInt8) (hp : need L 1 = some p) (hq : need p.2 (val p.1 : Nat) = some q) :
    Calls Tryz.prog 91 #[pv db, pv ib] w fun e w' => e = .returned (.tuple #[]) ∧ Has w' db (d.set 4 (.string (ba q.1))) 26 ∧ In w' ib rb B q.2 r ∧ Fr (fun i => i = db ∨ i = rb) w w' := by
  have HA : Keep (In w ib rb B L r ∧ (need L 1 = some p ∧ need p.2 (val p.1 : Nat) = some q) ∧ Has w db d 26 ∧ d.length = 15) := ⟨h, ⟨hp, hq⟩, hd, ho⟩
  clear h hp hq hd ho
  go_enter Tryz.func91, Tryz.ntmps91
  go_wp2_with fail
  refine (text_ok ib rb B L r p q w HA.out.1 HA.out.2.1.1 HA.out.2.1.2).mono ?_
  rintro e w2 ⟨rfl, d2⟩
  have h2 : Has w2 db d 26 := HA.out.2.2.1.fr d2.f (fun e => hn.2.1 e)
  have z1 : w2.frozen? ⟨db, 4, none⟩ = false := h2.frozen 4
  obtain ⟨x, hx⟩ : ∃ x, w2.cell? ⟨db, 4, none⟩ = some x := ⟨d[4]'(by rw [HA.out.2.2.2]; decide), h2.cellv 4 _ (List.getElem?_eq_getElem _)⟩
  have HB : Keep (RDid w w2 rb B (q.2, 0) ∧ In w2 ib rb B q.2 r ∧ Has w2 db d 26) := ⟨d2, HA.out.1.did d2, h2⟩
  clear d2 h2
  generalize hq : ba q.1 = q1
  have HQ : Keep (ba q.1 = q1) := ⟨hq⟩
  clear hq
  go_wp2
  go_end0
  have f3 : Fr (fun i => i = db) w2 (w2.setCell ⟨db, 4, none⟩ (.string q1)) := Fr.ofSome (gr_set w2 db 4 _) rfl
  try rw [HQ.out]
  refine ⟨rfl, HB.out.2.2.setCell 4 _, HB.out.2.1.fr f3 (fun e => hn.1 e.symm) (fun e => hn.2.1 e.symm) (fun e => hn.2.2 e.symm), (HB.out.1.f.mono (fun i e => .inl (.inr e))).trans (f3.mono (fun i e => .inl (.inl e)))⟩
set_option maxHeartbeats 4000000 in
set_option maxRecDepth 100000 in
theorem name1_no (db ib rb B : Nat) (L : List UInt8) (r : Bool) (w : World) (h : In w ib rb B L r) (hp : ((need L 1).bind fun p => need p.2 (val p.1 : Nat)) = none) :
    Calls Tryz.prog 91 #[pv db, pv ib] w fun e w' => e = .panicked give ∧ Fr (fun i => i = rb) w w' := by
  go_enter Tryz.func91, Tryz.ntmps91
  go_wp2_with fail
  refine (text_no ib rb B L r w h hp).mono ?_
  rintro e w2 ⟨rfl, g2⟩
  exact ⟨rfl, rfl, g2⟩
set_option maxHeartbeats 4000000 in
set_option maxRecDepth 100000 in
theorem view1_ok (db ib rb B : Nat) (d : List Value) (L : List UInt8) (r : Bool) (w : World) (hd : Has w db d 26) (ho : d.length = 15) (hn : db ≠ ib ∧ db ≠ rb ∧ db ≠ B) (h : In w ib rb B L r) (hL : L.length ≤ 4611686018427387904) (p : List UInt8 × List UInt8) (hp : need L ((L.length : Int) - 32) = some p) :
    Calls Tryz.prog 108 #[pv db, pv ib] w fun e w' => e = .returned (.tuple #[]) ∧ Has w' db (d.set 13 (.string (ba p.1))) 26 ∧ In w' ib rb B p.2 r ∧ Fr (fun i => i = db ∨ i = rb) w w' := by
  have hm : ∃ m : Nat, (L.length : Int) - 32 = (m : Int) := ⟨((L.length : Int) - 32).toNat, by have := need_some hp; omega⟩
  obtain ⟨m, hm⟩ := hm
  rw [hm] at hp
  have HA : Keep (In w ib rb B L r ∧ need L (m : Nat) = some p ∧ Has w db d 26 ∧ d.length = 15) := ⟨h, hp, hd, ho⟩
  have hw64 : IntKind.i64.wrap ((L.length : Int) - 32) = (m : Int) := by have := need_some hp; rw [hm]; exact IntWalk.i64_in _ (by omega)
  clear h hp hd ho hm hL
  go_enter Tryz.func108, Tryz.ntmps108
  go_wp2_with fail
  refine (left_c ib rb B L r w HA.out.1).mono ?_
  rintro e wq ⟨rfl, rfl⟩
  go_wp2_with fail
  refine (bytes_ok ib rb B L r (m : Nat) p wq HA.out.1 HA.out.2.1).mono ?_
  rintro e w2 ⟨rfl, d2⟩
  have h2 : Has w2 db d 26 := HA.out.2.2.1.fr d2.f (fun e => hn.2.1 e)
  have z1 : w2.frozen? ⟨db, 13, none⟩ = false := h2.frozen 13
  obtain ⟨x, hx⟩ : ∃ x, w2.cell? ⟨db, 13, none⟩ = some x := ⟨d[13]'(by rw [HA.out.2.2.2]; decide), h2.cellv 13 _ (List.getElem?_eq_getElem _)⟩
  have HB : Keep (RDid wq w2 rb B (p.2, 0) ∧ In w2 ib rb B p.2 r ∧ Has w2 db d 26) := ⟨d2, HA.out.1.did d2, h2⟩
  clear d2 h2
  go_wp2
  go_end0
  have f3 : Fr (fun i => i = db) w2 (w2.setCell ⟨db, 13, none⟩ (.string (ba p.1))) := Fr.ofSome (gr_set w2 db 13 _) rfl
  refine ⟨rfl, HB.out.2.2.setCell 13 _, HB.out.2.1.fr f3 (fun e => hn.1 e.symm) (fun e => hn.2.1 e.symm) (fun e => hn.2.2 e.symm), (HB.out.1.f.mono (fun i e => .inl (.inr e))).trans (f3.mono (fun i e => .inl (.inl e)))⟩
set_option maxHeartbeats 4000000 in
set_option maxRecDepth 100000 in
theorem view1_no (db ib rb B : Nat) (L : List UInt8) (r : Bool) (w : World) (h : In w ib rb B L r) (hL : L.length ≤ 4611686018427387904) (hp : need L ((L.length : Int) - 32) = none) :
    Calls Tryz.prog 108 #[pv db, pv ib] w fun e w' => e = .panicked give ∧ w.grownBy w' none := by
  obtain ⟨m, hm⟩ : ∃ m : Int, (L.length : Int) - 32 = m := ⟨_, rfl⟩
  rw [hm] at hp
  have HA : Keep (In w ib rb B L r ∧ need L m = none) := ⟨h, hp⟩
  have hw64 : IntKind.i64.wrap ((L.length : Int) - 32) = m := by rw [hm]; exact IntWalk.i64_in _ (by omega)
  clear h hp hm hL
  go_enter Tryz.func108, Tryz.ntmps108
  go_wp2_with fail
  refine (left_c ib rb B L r w HA.out.1).mono ?_
  rintro e wq ⟨rfl, rfl⟩
  go_wp2_with fail
  refine (bytes_no ib rb B L r m wq HA.out.1 HA.out.2).mono ?_
  rintro e w2 ⟨rfl, g2⟩
  exact ⟨rfl, rfl, g2⟩
set_option maxRecDepth 100000 in
theorem and1 : ∀ x : Fin 256, bits .and .u64 (x.val : Int) 1 = ((x.val % 2 : Nat) : Int) := by decide +kernel
set_option maxRecDepth 100000 in
theorem and2 : ∀ x : Fin 256, bits .and .u64 (x.val : Int) 2 = ((2 * (x.val / 2 % 2) : Nat) : Int) := by decide +kernel
set_option maxHeartbeats 4000000 in
set_option maxRecDepth 100000 in
theorem flags1_ok (db ib rb B : Nat) (d : List Value) (L : List UInt8) (r : Bool) (w : World) (hd : Has w db d 26) (ho : d.length = 15) (hn : db ≠ ib ∧ db ≠ rb ∧ db ≠ B) (h : In w ib rb B L r) (p : List UInt8 × List UInt8) (hp : need L 1 = some p) :
    Calls Tryz.prog 106 #[pv db, pv ib] w fun e w' => e = .returned (.tuple #[]) ∧ Has w' db ((d.set 11 (.bool (decide (val p.1 % 2 = 1)))).set 12 (.bool (decide (val p.1 / 2 % 2 = 1)))) 26 ∧ In w' ib rb B p.2 (r || !decide (val p.1 ≤ 3)) ∧ Fr (fun i => i = db ∨ i = ib ∨ i = rb) w w' := by
  have HA : Keep (In w ib rb B L r ∧ need L 1 = some p ∧ Has w db d 26 ∧ d.length = 15) := ⟨h, hp, hd, ho⟩
  have hv : val p.1 < 256 := val1 (by have := (need_len hp).1; omega)
  clear h hp hd ho
  go_enter Tryz.func106, Tryz.ntmps106
  go_wp2_with fail
  refine (number_ok ib rb B L r 1 p w HA.out.1 (by decide) HA.out.2.1).mono ?_
  rintro e w2 ⟨rfl, d2⟩
  have HB : Keep (RDid w w2 rb B (p.2, 0) ∧ In w2 ib rb B p.2 r ∧ Has w2 db d 26) := ⟨d2, HA.out.1.did d2, HA.out.2.2.1.fr d2.f (fun e => hn.2.1 e)⟩
  clear d2
  generalize hq : val p.1 = q at hv
  have HQ : Keep (val p.1 = q) := ⟨hq⟩
  clear hq
  have a1 := and1 ⟨q, hv⟩
  have a2 := and2 ⟨q, hv⟩
  dsimp only at a1 a2
  go_wp2_with fail
  refine (iallow_c ib rb B p.2 r _ w2 HB.out.2.1).mono ?_
  rintro e w3 ⟨rfl, i3, f3⟩
  have h3 : Has w3 db d 26 := HB.out.2.2.fr f3 (fun e => hn.1 e)
  have z1 : w3.frozen? ⟨db, 11, none⟩ = false := h3.frozen 11
  have z2 : w3.frozen? ⟨db, 12, none⟩ = false := h3.frozen 12
  obtain ⟨x1, hx1⟩ : ∃ x, w3.cell? ⟨db, 11, none⟩ = some x := ⟨d[11]'(by rw [HA.out.2.2.2]; decide), h3.cellv 11 _ (List.getElem?_eq_getElem _)⟩
  obtain ⟨x2, hx2⟩ : ∃ x, w3.cell? ⟨db, 12, none⟩ = some x := ⟨d[12]'(by rw [HA.out.2.2.2]; decide), h3.cellv 12 _ (List.getElem?_eq_getElem _)⟩
  have HC : Keep (Fr (fun i => i = db ∨ i = ib ∨ i = rb) w w3 ∧ Has w3 db d 26 ∧ In w3 ib rb B p.2 (r || !decide (q ≤ 3))) := ⟨(HB.out.1.f.mono (fun i e => .inl (.inr (.inr e)))).trans (f3.mono (fun i e => .inl (.inr (.inl e)))), h3, by rw [← show decide ((q : Int) ≤ 3) = decide (q ≤ 3) from decide_eq_decide.2 (by omega)]; exact i3⟩
  clear i3 f3 h3 HB
  go_wp2
  go_end0
  have e1 : ((q : Int) % 2 != 0) = decide (val p.1 % 2 = 1) := by
    rw [HQ.out, Bool.eq_iff_iff, bne_iff_ne, decide_eq_true_iff]; omega
  have e2 : (2 * ((q : Int) / 2 % 2) != 0) = decide (val p.1 / 2 % 2 = 1) := by
    rw [HQ.out, Bool.eq_iff_iff, bne_iff_ne, decide_eq_true_iff]; omega
  rw [e1, e2]
  have f4 : ∀ u v, Fr (fun i => i = db) w3 ((w3.setCell ⟨db, 11, none⟩ u).setCell ⟨db, 12, none⟩ v) := fun u v => Fr.trans (S := fun i => i = db) (Fr.ofSome (gr_set w3 db 11 u) rfl) (Fr.ofSome (gr_set _ db 12 v) rfl)
  refine ⟨rfl, (HC.out.2.1.setCell 11 _).setCell 12 _, ?_, HC.out.1.trans ((f4 _ _).mono (fun i e => .inl (.inl e)))⟩
  rw [HQ.out]
  exact HC.out.2.2.fr (f4 _ _) (fun e => hn.1 e.symm) (fun e => hn.2.1 e.symm) (fun e => hn.2.2 e.symm)
set_option maxHeartbeats 4000000 in
set_option maxRecDepth 100000 in
theorem flags1_no (db ib rb B : Nat) (L : List UInt8) (r : Bool) (w : World) (h : In w ib rb B L r) (hp : need L 1 = none) :
    Calls Tryz.prog 106 #[pv db, pv ib] w fun e w' => e = .panicked give ∧ w.grownBy w' none := by
  go_enter Tryz.func106, Tryz.ntmps106
  go_wp2_with fail
  refine (number_no ib rb B L r 1 w h hp).mono ?_
  rintro e w2 ⟨rfl, g2⟩
  exact ⟨rfl, rfl, g2⟩
set_option maxHeartbeats 4000000 in
set_option maxRecDepth 100000 in
theorem zeros1_ok (db ib rb B zb : Nat) (L : List UInt8) (r : Bool) (w : World) (hz : Has w zb [.string (ba zero76)] 9) (hb : zb ≠ rb ∧ zb ≠ ib) (h : In w ib rb B L r) (p : List UInt8 × List UInt8) (hp : need L 76 = some p) :
    Calls Tryz.prog 84 #[pv db, pv ib, pv zb] w fun e w' => e = .returned (.tuple #[]) ∧ In w' ib rb B p.2 (r || !decide (p.1 = zero76)) ∧ Fr (fun i => i = ib ∨ i = rb) w w' := by
  have HZ : Keep (decide (ba p.1 = ba zero76) = decide (p.1 = zero76)) := ⟨decide_eq_decide.2 ⟨fun e => by have := congrArg (fun b : ByteArray => b.data.toList) e; simpa using this, fun e => by rw [e]⟩⟩
  obtain ⟨zd, hzd⟩ : ∃ x, decide (p.1 = zero76) = x := ⟨_, rfl⟩
  rw [hzd] at HZ ⊢
  have HA : Keep (In w.drew ib rb B L r ∧ need L 76 = some p) := ⟨h.kept (gr_drew _ _), hp⟩
  have HH : Keep (Has w.drew zb [.string (ba zero76)] 9) := ⟨hz.kept (gr_drew _ none) (by simp)⟩
  clear h hp hz
  generalize ba zero76 = Z at HH HZ
  go_enter Tryz.func84, Tryz.ntmps84
  go_wp2_with fail
  refine wp_region_held_drew (S := fun w' => Has w' zb [.string Z] 9) (by kernel_rfl) HH.out (fun hHeld => ?_)
  refine wpAnyH_take (i := 0) (oi := _) (v := ?_) rfl (by kernel_rfl) (by kernel_rfl) (by kernel_rfl) (fun _ _ _ h => h) (Or.inl ⟨by rfl, ?_⟩) (by assumption) ?_
  rotate_left
  · (intro w hSw; go_simp; first | done | (with_reducible rfl))
  simp only [Act.put, List.getElem_toArray, List.getElem_cons_zero, List.setIfInBounds_toArray, List.set_cons_zero, List.set_cons_succ]
  refine wpAnyH_take (i := 1) (oi := _) (v := ?_) rfl (by kernel_rfl) (by kernel_rfl) (by kernel_rfl) (fun _ _ _ h => h) (Or.inl ⟨by rfl, ?_⟩) (by assumption) ?_
  rotate_left
  · (intro w hSw; go_simp; first | done | (with_reducible rfl))
  simp only [Act.put, List.getElem_toArray, List.getElem_cons_succ, List.getElem_cons_zero, List.setIfInBounds_toArray, List.set_cons_zero, List.set_cons_succ]
  refine wpAnyH_take (i := 3) (oi := _) (v := ?_) rfl (by kernel_rfl) (by kernel_rfl) (by kernel_rfl) (fun _ _ _ h => h) (Or.inl ⟨by rfl, ?_⟩) (by assumption) ?_
  rotate_left
  · (intro w hSw; have x1 := Has.cellv hSw 0 _ rfl; clear hSw; go_simp; first | done | (with_reducible rfl))
  simp only [Act.put, List.getElem_toArray, List.getElem_cons_succ, List.getElem_cons_zero, List.setIfInBounds_toArray, List.set_cons_zero, List.set_cons_succ]
  refine wpAnyH_ready (rs := [2]) (by kernel_rfl) (by simp) ?_
  refine AllReadyH.cons rfl (fun K hK => ?_) AllReadyH.nil
  go_simp
  refine (bytes_ok ib rb B L r 76 p _ HA.out.1 HA.out.2).mono ?_
  rintro e w2 ⟨rfl, d2⟩
  have HB : Keep (RDid w w2 rb B (p.2, 0) ∧ In w2 ib rb B p.2 r ∧ Has w2 zb [.string Z] 9) := ⟨d2.ahead (gr_drew _ _), HA.out.1.did d2, HH.out.fr d2.f hb.1⟩
  clear d2
  refine hK.out _ _ HB.out.2.2 (fun hHeld => ?_)
  clear hK K
  have hzz := HZ.out
  generalize ba p.1 = P1 at hzz ⊢
  refine wpAnyH_take (i := 4) (oi := _) (v := ?_) rfl (by kernel_rfl) (by kernel_rfl) (by kernel_rfl) (fun _ _ _ h => h) (Or.inl ⟨by rfl, ?_⟩) (by assumption) ?_
  rotate_left
  · (intro w hSw; go_simp; first | done | (with_reducible rfl))
  simp only [Act.put, List.getElem_toArray, List.getElem_cons_succ, List.getElem_cons_zero, List.setIfInBounds_toArray, List.set_cons_zero, List.set_cons_succ]
  refine wpAnyH_ready (rs := [5]) (by kernel_rfl) (by simp) ?_
  refine AllReadyH.cons rfl (fun K hK => ?_) AllReadyH.nil
  go_simp
  refine (iallow_c ib rb B p.2 r _ w2 HB.out.2.1).mono ?_
  rintro e w3 ⟨rfl, i3, f3⟩
  have HC : Keep (In w3 ib rb B p.2 (r || !zd) ∧ Fr (fun i => i = ib ∨ i = rb) w w3) := ⟨by first | exact i3 | (rw [← hzz, ← eqS]; exact i3), (HB.out.1.f.mono (fun i e => .inl (.inr e))).trans (f3.mono (fun i e => .inl (.inl e)))⟩
  refine hK.out _ _ (hHeld.fr f3 hb.2) (fun hHeld => ?_)
  refine wpAnyH_done (by kernel_rfl) ?_ _
  clear hK K i3 f3
  go_wp2_with fail
  go_end0
  exact ⟨rfl, HC.out⟩
set_option maxHeartbeats 4000000 in
set_option maxRecDepth 100000 in
theorem zeros1_no (db ib rb B zb : Nat) (L : List UInt8) (r : Bool) (w : World) (hz : Has w zb [.string (ba zero76)] 9) (_hb : zb ≠ rb ∧ zb ≠ ib) (h : In w ib rb B L r) (hp : need L 76 = none) :
    Calls Tryz.prog 84 #[pv db, pv ib, pv zb] w fun e w' => e = .panicked give ∧ w.grownBy w' none := by
  have HA : Keep (In w.drew ib rb B L r ∧ need L 76 = none) := ⟨h.kept (gr_drew _ _), hp⟩
  have HH : Keep (Has w.drew zb [.string (ba zero76)] 9) := ⟨hz.kept (gr_drew _ none) (by simp)⟩
  clear h hp hz
  generalize ba zero76 = Z at HH
  go_enter Tryz.func84, Tryz.ntmps84
  go_wp2_with fail
  refine wp_region_held_drew (S := fun w' => Has w' zb [.string Z] 9) (by kernel_rfl) HH.out (fun hHeld => ?_)
  refine wpAnyH_take (i := 0) (oi := _) (v := ?_) rfl (by kernel_rfl) (by kernel_rfl) (by kernel_rfl) (fun _ _ _ h => h) (Or.inl ⟨by rfl, ?_⟩) (by assumption) ?_
  rotate_left
  · (intro w hSw; go_simp; first | done | (with_reducible rfl))
  simp only [Act.put, List.getElem_toArray, List.getElem_cons_zero, List.setIfInBounds_toArray, List.set_cons_zero, List.set_cons_succ]
  refine wpAnyH_take (i := 1) (oi := _) (v := ?_) rfl (by kernel_rfl) (by kernel_rfl) (by kernel_rfl) (fun _ _ _ h => h) (Or.inl ⟨by rfl, ?_⟩) (by assumption) ?_
  rotate_left
  · (intro w hSw; go_simp; first | done | (with_reducible rfl))
  simp only [Act.put, List.getElem_toArray, List.getElem_cons_succ, List.getElem_cons_zero, List.setIfInBounds_toArray, List.set_cons_zero, List.set_cons_succ]
  refine wpAnyH_take (i := 3) (oi := _) (v := ?_) rfl (by kernel_rfl) (by kernel_rfl) (by kernel_rfl) (fun _ _ _ h => h) (Or.inl ⟨by rfl, ?_⟩) (by assumption) ?_
  rotate_left
  · (intro w hSw; have x1 := Has.cellv hSw 0 _ rfl; clear hSw; go_simp; first | done | (with_reducible rfl))
  simp only [Act.put, List.getElem_toArray, List.getElem_cons_succ, List.getElem_cons_zero, List.setIfInBounds_toArray, List.set_cons_zero, List.set_cons_succ]
  refine wpAnyH_ready (rs := [2]) (by kernel_rfl) (by simp) ?_
  refine AllReadyH.cons rfl (fun K hK => ?_) AllReadyH.nil
  go_simp
  refine (bytes_no ib rb B L r 76 _ HA.out.1 HA.out.2).mono ?_
  rintro e w2 ⟨rfl, g2⟩
  exact ⟨rfl, rfl, (gr_drew _ none).trans g2⟩
end Go.Proofs.YtiphnlfbgbemfaaGreatDoor.Pk

/- what each field's first function does -/
namespace Go.Proofs.YtiphnlfbgbemfaaGreatDoor.Pk
open Go Go.RowKit

/-- where a datagram that is being taken stands -/
structure TkAt (w : World) (db ib rb B : Nat) (s : TS) : Prop where
  d : Has w db s.1.cells 26
  i : In w ib rb B s.2.1 s.2.2
  n : db ≠ ib ∧ db ≠ rb ∧ db ≠ B
  l : s.2.1.length ≤ 4611686018427387904
def TF (db ib rb i : Nat) : Prop := i = db ∨ i = ib ∨ i = rb
def TkRes (o : Option TS) (db ib rb B : Nat) (e : Ending) (w : World) : Prop :=
  match o with
  | none => e = .panicked give
  | some s => e = .returned (.tuple #[]) ∧ TkAt w db ib rb B s
def TakeC (w : World) (f : Fd) (n : Nat) (c : Array Value) : Prop :=
  Enters n ∧ ∀ (W : World) (db ib rb B : Nat) (s : TS), w.grownBy W none → w.heap.size ≤ db → w.heap.size ≤ ib → w.heap.size ≤ rb → TkAt W db ib rb B s →
    Calls Tryz.prog n (#[pv db, pv ib] ++ c) W fun e w' => TkRes (tk f s) db ib rb B e w' ∧ Fr (TF db ib rb) W w'
theorem TakeC.kept {w w' : World} {f : Fd} {n : Nat} {c : Array Value} (h : TakeC w f n c) (g : w.grownBy w' none) : TakeC w' f n c :=
  ⟨h.1, fun W db ib rb B s gW l1 l2 l3 t => h.2 W db ib rb B s (g.trans gW) (Nat.le_trans g.size l1) (Nat.le_trans g.size l2) (Nat.le_trans g.size l3) t⟩
theorem cells_len (d : Dg) : d.cells.length = 15 := rfl
theorem len_of {L : List UInt8} {n : Int} {p : List UInt8 × List UInt8} (h : need L n = some p) : p.2.length ≤ L.length := by
  obtain ⟨_, _, rfl⟩ := need_some h
  simp
set_option maxRecDepth 100000 in
theorem en118 : Enters 118 := fun _ _ => by kernel_rfl
set_option maxRecDepth 100000 in
theorem en123 : Enters 123 := fun _ _ => by kernel_rfl
set_option maxRecDepth 100000 in
theorem en128 : Enters 128 := fun _ _ => by kernel_rfl
set_option maxRecDepth 100000 in
theorem en97 : Enters 97 := fun _ _ => by kernel_rfl
set_option maxRecDepth 100000 in
theorem en106 : Enters 106 := fun _ _ => by kernel_rfl
set_option maxRecDepth 100000 in
theorem en91 : Enters 91 := fun _ _ => by kernel_rfl
set_option maxRecDepth 100000 in
theorem en108 : Enters 108 := fun _ _ => by kernel_rfl
set_option maxRecDepth 100000 in
theorem en84 : Enters 84 := fun _ _ => by kernel_rfl
set_option maxHeartbeats 4000000 in
set_option maxRecDepth 100000 in
theorem tk_nonce (w : World) (b1 b2 : Nat) (h1 : Has w b1 [.int .i64 (16 : Nat)] 3) (h2 : Has w b2 [fv 83] 108) : TakeC w .nonce 118 #[pv b1, pv b2] := by
  refine ⟨en118, fun W db ib rb B s g l1 l2 l3 t => ?_⟩
  obtain ⟨d, L, r⟩ := s
  obtain ⟨td, ti, tn, tl⟩ := t
  dsimp only at td ti tl
  show Calls Tryz.prog 118 #[pv db, pv ib, pv b1, pv b2] W _
  have k1 := h1.kept g (by simp)
  have k2 := h2.kept g (by simp)
  have hb : b1 ≠ rb ∧ b2 ≠ rb ∧ b1 ≠ db ∧ b2 ≠ db := by have := h1.lt; have := h2.lt; omega
  cases hp : need L 16 with
  | none =>
    have ht : tk .nonce (d, L, r) = none := by simp only [tk, hp]; rfl
    rw [ht]
    refine (fixed1_no 83 1 16 db ib rb B b1 b2 d.cells L r W p83 k1 k2 hb td (by rw [cells_len]; decide) tn ti hp).mono ?_
    rintro e w' ⟨rfl, g'⟩
    exact ⟨rfl, Fr.ofNone g'⟩
  | some p =>
    have ht : tk .nonce (d, L, r) = some ({ d with nonce := ba p.1 }, p.2, r) := by simp only [tk, hp]; rfl
    rw [ht]
    refine (fixed1_ok 83 1 16 db ib rb B b1 b2 d.cells L r W p83 k1 k2 hb td (by rw [cells_len]; decide) tn ti p hp).mono ?_
    rintro e w' ⟨rfl, hd', hi', hf'⟩
    exact ⟨⟨rfl, hd', hi', tn, Nat.le_trans (len_of hp) tl⟩, hf'.mono (fun i e => .inl (e.elim .inl (fun q => .inr (.inr q))))⟩
set_option maxHeartbeats 4000000 in
set_option maxRecDepth 100000 in
theorem tk_salt (w : World) (b1 b2 : Nat) (h1 : Has w b1 [.int .i64 (16 : Nat)] 3) (h2 : Has w b2 [fv 101] 108) : TakeC w .salt 118 #[pv b1, pv b2] := by
  refine ⟨en118, fun W db ib rb B s g l1 l2 l3 t => ?_⟩
  obtain ⟨d, L, r⟩ := s
  obtain ⟨td, ti, tn, tl⟩ := t
  dsimp only at td ti tl
  show Calls Tryz.prog 118 #[pv db, pv ib, pv b1, pv b2] W _
  have k1 := h1.kept g (by simp)
  have k2 := h2.kept g (by simp)
  have hb : b1 ≠ rb ∧ b2 ≠ rb ∧ b1 ≠ db ∧ b2 ≠ db := by have := h1.lt; have := h2.lt; omega
  cases hp : need L 16 with
  | none =>
    have ht : tk .salt (d, L, r) = none := by simp only [tk, hp]; rfl
    rw [ht]
    refine (fixed1_no 101 7 16 db ib rb B b1 b2 d.cells L r W p101 k1 k2 hb td (by rw [cells_len]; decide) tn ti hp).mono ?_
    rintro e w' ⟨rfl, g'⟩
    exact ⟨rfl, Fr.ofNone g'⟩
  | some p =>
    have ht : tk .salt (d, L, r) = some ({ d with salt := ba p.1 }, p.2, r) := by simp only [tk, hp]; rfl
    rw [ht]
    refine (fixed1_ok 101 7 16 db ib rb B b1 b2 d.cells L r W p101 k1 k2 hb td (by rw [cells_len]; decide) tn ti p hp).mono ?_
    rintro e w' ⟨rfl, hd', hi', hf'⟩
    exact ⟨⟨rfl, hd', hi', tn, Nat.le_trans (len_of hp) tl⟩, hf'.mono (fun i e => .inl (e.elim .inl (fun q => .inr (.inr q))))⟩
set_option maxHeartbeats 4000000 in
set_option maxRecDepth 100000 in
theorem tk_cookie (w : World) (b1 b2 : Nat) (h1 : Has w b1 [.int .i64 (32 : Nat)] 3) (h2 : Has w b2 [fv 90] 108) : TakeC w .cookie 118 #[pv b1, pv b2] := by
  refine ⟨en118, fun W db ib rb B s g l1 l2 l3 t => ?_⟩
  obtain ⟨d, L, r⟩ := s
  obtain ⟨td, ti, tn, tl⟩ := t
  dsimp only at td ti tl
  show Calls Tryz.prog 118 #[pv db, pv ib, pv b1, pv b2] W _
  have k1 := h1.kept g (by simp)
  have k2 := h2.kept g (by simp)
  have hb : b1 ≠ rb ∧ b2 ≠ rb ∧ b1 ≠ db ∧ b2 ≠ db := by have := h1.lt; have := h2.lt; omega
  cases hp : need L 32 with
  | none =>
    have ht : tk .cookie (d, L, r) = none := by simp only [tk, hp]; rfl
    rw [ht]
    refine (fixed1_no 90 3 32 db ib rb B b1 b2 d.cells L r W p90 k1 k2 hb td (by rw [cells_len]; decide) tn ti hp).mono ?_
    rintro e w' ⟨rfl, g'⟩
    exact ⟨rfl, Fr.ofNone g'⟩
  | some p =>
    have ht : tk .cookie (d, L, r) = some ({ d with cookie := ba p.1 }, p.2, r) := by simp only [tk, hp]; rfl
    rw [ht]
    refine (fixed1_ok 90 3 32 db ib rb B b1 b2 d.cells L r W p90 k1 k2 hb td (by rw [cells_len]; decide) tn ti p hp).mono ?_
    rintro e w' ⟨rfl, hd', hi', hf'⟩
    exact ⟨⟨rfl, hd', hi', tn, Nat.le_trans (len_of hp) tl⟩, hf'.mono (fun i e => .inl (e.elim .inl (fun q => .inr (.inr q))))⟩
set_option maxHeartbeats 4000000 in
set_option maxRecDepth 100000 in
theorem tk_tag (w : World) (b1 b2 : Nat) (h1 : Has w b1 [.int .i64 (32 : Nat)] 3) (h2 : Has w b2 [fv 95] 108) : TakeC w .tag 118 #[pv b1, pv b2] := by
  refine ⟨en118, fun W db ib rb B s g l1 l2 l3 t => ?_⟩
  obtain ⟨d, L, r⟩ := s
  obtain ⟨td, ti, tn, tl⟩ := t
  dsimp only at td ti tl
  show Calls Tryz.prog 118 #[pv db, pv ib, pv b1, pv b2] W _
  have k1 := h1.kept g (by simp)
  have k2 := h2.kept g (by simp)
  have hb : b1 ≠ rb ∧ b2 ≠ rb ∧ b1 ≠ db ∧ b2 ≠ db := by have := h1.lt; have := h2.lt; omega
  cases hp : need L 32 with
  | none =>
    have ht : tk .tag (d, L, r) = none := by simp only [tk, hp]; rfl
    rw [ht]
    refine (fixed1_no 95 14 32 db ib rb B b1 b2 d.cells L r W p95 k1 k2 hb td (by rw [cells_len]; decide) tn ti hp).mono ?_
    rintro e w' ⟨rfl, g'⟩
    exact ⟨rfl, Fr.ofNone g'⟩
  | some p =>
    have ht : tk .tag (d, L, r) = some ({ d with tag := ba p.1 }, p.2, r) := by simp only [tk, hp]; rfl
    rw [ht]
    refine (fixed1_ok 95 14 32 db ib rb B b1 b2 d.cells L r W p95 k1 k2 hb td (by rw [cells_len]; decide) tn ti p hp).mono ?_
    rintro e w' ⟨rfl, hd', hi', hf'⟩
    exact ⟨⟨rfl, hd', hi', tn, Nat.le_trans (len_of hp) tl⟩, hf'.mono (fun i e => .inl (e.elim .inl (fun q => .inr (.inr q))))⟩
set_option maxHeartbeats 4000000 in
set_option maxRecDepth 100000 in
theorem tk_epoch (w : World) (b1 : Nat) (h1 : Has w b1 [fv 89] 113) : TakeC w .epoch 123 #[pv b1] := by
  refine ⟨en123, fun W db ib rb B s g l1 l2 l3 t => ?_⟩
  obtain ⟨d, L, r⟩ := s
  obtain ⟨td, ti, tn, tl⟩ := t
  dsimp only at td ti tl
  show Calls Tryz.prog 123 #[pv db, pv ib, pv b1] W _
  have k1 := h1.kept g (by simp)
  cases hp : need L 8 with
  | none =>
    have ht : tk .epoch (d, L, r) = none := by simp only [tk, hp]; rfl
    rw [ht]
    refine (long1_no 89 2 db ib rb B b1 L r W p89 k1 ti hp).mono ?_
    rintro e w' ⟨rfl, g'⟩
    exact ⟨rfl, Fr.ofNone g'⟩
  | some p =>
    have ht : tk .epoch (d, L, r) = some ({ d with epoch := val p.1 }, p.2, r) := by simp only [tk, hp]; rfl
    rw [ht]
    refine (long1_ok 89 2 db ib rb B b1 d.cells L r W p89 k1 td (by rw [cells_len]; decide) tn ti p hp).mono ?_
    rintro e w' ⟨rfl, hd', hi', hf'⟩
    exact ⟨⟨rfl, hd', hi', tn, Nat.le_trans (len_of hp) tl⟩, hf'.mono (fun i e => .inl (e.elim .inl (fun q => .inr (.inr q))))⟩
set_option maxHeartbeats 4000000 in
set_option maxRecDepth 100000 in
theorem tk_session (w : World) (b1 : Nat) (h1 : Has w b1 [fv 96] 113) : TakeC w .session 123 #[pv b1] := by
  refine ⟨en123, fun W db ib rb B s g l1 l2 l3 t => ?_⟩
  obtain ⟨d, L, r⟩ := s
  obtain ⟨td, ti, tn, tl⟩ := t
  dsimp only at td ti tl
  show Calls Tryz.prog 123 #[pv db, pv ib, pv b1] W _
  have k1 := h1.kept g (by simp)
  cases hp : need L 8 with
  | none =>
    have ht : tk .session (d, L, r) = none := by simp only [tk, hp]; rfl
    rw [ht]
    refine (long1_no 96 5 db ib rb B b1 L r W p96 k1 ti hp).mono ?_
    rintro e w' ⟨rfl, g'⟩
    exact ⟨rfl, Fr.ofNone g'⟩
  | some p =>
    have ht : tk .session (d, L, r) = some ({ d with session := val p.1 }, p.2, r) := by simp only [tk, hp]; rfl
    rw [ht]
    refine (long1_ok 96 5 db ib rb B b1 d.cells L r W p96 k1 td (by rw [cells_len]; decide) tn ti p hp).mono ?_
    rintro e w' ⟨rfl, hd', hi', hf'⟩
    exact ⟨⟨rfl, hd', hi', tn, Nat.le_trans (len_of hp) tl⟩, hf'.mono (fun i e => .inl (e.elim .inl (fun q => .inr (.inr q))))⟩
set_option maxHeartbeats 4000000 in
set_option maxRecDepth 100000 in
theorem tk_seq (w : World) (b1 : Nat) (h1 : Has w b1 [fv 102] 113) : TakeC w .seq 123 #[pv b1] := by
  refine ⟨en123, fun W db ib rb B s g l1 l2 l3 t => ?_⟩
  obtain ⟨d, L, r⟩ := s
  obtain ⟨td, ti, tn, tl⟩ := t
  dsimp only at td ti tl
  show Calls Tryz.prog 123 #[pv db, pv ib, pv b1] W _
  have k1 := h1.kept g (by simp)
  cases hp : need L 8 with
  | none =>
    have ht : tk .seq (d, L, r) = none := by simp only [tk, hp]; rfl
    rw [ht]
    refine (long1_no 102 8 db ib rb B b1 L r W p102 k1 ti hp).mono ?_
    rintro e w' ⟨rfl, g'⟩
    exact ⟨rfl, Fr.ofNone g'⟩
  | some p =>
    have ht : tk .seq (d, L, r) = some ({ d with seq := val p.1 }, p.2, r) := by simp only [tk, hp]; rfl
    rw [ht]
    refine (long1_ok 102 8 db ib rb B b1 d.cells L r W p102 k1 td (by rw [cells_len]; decide) tn ti p hp).mono ?_
    rintro e w' ⟨rfl, hd', hi', hf'⟩
    exact ⟨⟨rfl, hd', hi', tn, Nat.le_trans (len_of hp) tl⟩, hf'.mono (fun i e => .inl (e.elim .inl (fun q => .inr (.inr q))))⟩
set_option maxHeartbeats 4000000 in
set_option maxRecDepth 100000 in
theorem tk_thr (w : World) (b1 : Nat) (h1 : Has w b1 [fv 104] 118) : TakeC w .thr 128 #[pv b1] := by
  refine ⟨en128, fun W db ib rb B s g l1 l2 l3 t => ?_⟩
  obtain ⟨d, L, r⟩ := s
  obtain ⟨td, ti, tn, tl⟩ := t
  dsimp only at td ti tl
  show Calls Tryz.prog 128 #[pv db, pv ib, pv b1] W _
  have k1 := h1.kept g (by simp)
  cases hp : need L 1 with
  | none =>
    have ht : tk .thr (d, L, r) = none := by simp only [tk, hp]; rfl
    rw [ht]
    refine (lever1_no 104 9 db ib rb B b1 L r W p104 k1 ti hp).mono ?_
    rintro e w' ⟨rfl, g'⟩
    exact ⟨rfl, Fr.ofNone g'⟩
  | some p =>
    have ht : tk .thr (d, L, r) = some ({ d with thr := sval p.1 }, p.2, r) := by simp only [tk, hp]; rfl
    rw [ht]
    refine (lever1_ok 104 9 db ib rb B b1 d.cells L r W p104 k1 td (by rw [cells_len]; decide) tn ti p hp).mono ?_
    rintro e w' ⟨rfl, hd', hi', hf'⟩
    exact ⟨⟨rfl, hd', hi', tn, Nat.le_trans (len_of hp) tl⟩, hf'.mono (fun i e => .inl (e.elim .inl (fun q => .inr (.inr q))))⟩
set_option maxHeartbeats 4000000 in
set_option maxRecDepth 100000 in
theorem tk_turn (w : World) (b1 : Nat) (h1 : Has w b1 [fv 105] 118) : TakeC w .turn 128 #[pv b1] := by
  refine ⟨en128, fun W db ib rb B s g l1 l2 l3 t => ?_⟩
  obtain ⟨d, L, r⟩ := s
  obtain ⟨td, ti, tn, tl⟩ := t
  dsimp only at td ti tl
  show Calls Tryz.prog 128 #[pv db, pv ib, pv b1] W _
  have k1 := h1.kept g (by simp)
  cases hp : need L 1 with
  | none =>
    have ht : tk .turn (d, L, r) = none := by simp only [tk, hp]; rfl
    rw [ht]
    refine (lever1_no 105 10 db ib rb B b1 L r W p105 k1 ti hp).mono ?_
    rintro e w' ⟨rfl, g'⟩
    exact ⟨rfl, Fr.ofNone g'⟩
  | some p =>
    have ht : tk .turn (d, L, r) = some ({ d with turn := sval p.1 }, p.2, r) := by simp only [tk, hp]; rfl
    rw [ht]
    refine (lever1_ok 105 10 db ib rb B b1 d.cells L r W p105 k1 td (by rw [cells_len]; decide) tn ti p hp).mono ?_
    rintro e w' ⟨rfl, hd', hi', hf'⟩
    exact ⟨⟨rfl, hd', hi', tn, Nat.le_trans (len_of hp) tl⟩, hf'.mono (fun i e => .inl (e.elim .inl (fun q => .inr (.inr q))))⟩
set_option maxHeartbeats 4000000 in
set_option maxRecDepth 100000 in
theorem tk_player (w : World) : TakeC w .player 97 #[] := by
  refine ⟨en97, fun W db ib rb B s g l1 l2 l3 t => ?_⟩
  obtain ⟨d, L, r⟩ := s
  obtain ⟨td, ti, tn, tl⟩ := t
  dsimp only at td ti tl
  show Calls Tryz.prog 97 #[pv db, pv ib] W _
  cases hp : need L 1 with
  | none =>
    have ht : tk .player (d, L, r) = none := by simp only [tk, hp]; rfl
    rw [ht]
    refine (player1_no db ib rb B L r W ti hp).mono ?_
    rintro e w' ⟨rfl, g'⟩
    exact ⟨rfl, Fr.ofNone g'⟩
  | some p =>
    have ht : tk .player (d, L, r) = some ({ d with player := (val p.1 : Nat) }, p.2, r) := by simp only [tk, hp]; rfl
    rw [ht]
    refine (player1_ok db ib rb B d.cells L r W td rfl tn ti p hp).mono ?_
    rintro e w' ⟨rfl, hd', hi', hf'⟩
    exact ⟨⟨rfl, hd', hi', tn, Nat.le_trans (len_of hp) tl⟩, hf'.mono (fun i e => .inl (e.elim .inl (fun q => .inr (.inr q))))⟩
set_option maxHeartbeats 4000000 in
set_option maxRecDepth 100000 in
theorem tk_view (w : World) : TakeC w .view 108 #[] := by
  refine ⟨en108, fun W db ib rb B s g l1 l2 l3 t => ?_⟩
  obtain ⟨d, L, r⟩ := s
  obtain ⟨td, ti, tn, tl⟩ := t
  dsimp only at td ti tl
  show Calls Tryz.prog 108 #[pv db, pv ib] W _
  cases hp : need L ((L.length : Int) - 32) with
  | none =>
    have ht : tk .view (d, L, r) = none := by simp only [tk, hp]; rfl
    rw [ht]
    refine (view1_no db ib rb B L r W ti tl hp).mono ?_
    rintro e w' ⟨rfl, g'⟩
    exact ⟨rfl, Fr.ofNone g'⟩
  | some p =>
    have ht : tk .view (d, L, r) = some ({ d with data := ba p.1 }, p.2, r) := by simp only [tk, hp]; rfl
    rw [ht]
    refine (view1_ok db ib rb B d.cells L r W td rfl tn ti tl p hp).mono ?_
    rintro e w' ⟨rfl, hd', hi', hf'⟩
    exact ⟨⟨rfl, hd', hi', tn, Nat.le_trans (len_of hp) tl⟩, hf'.mono (fun i e => .inl (e.elim .inl (fun q => .inr (.inr q))))⟩
set_option maxHeartbeats 4000000 in
set_option maxRecDepth 100000 in
theorem tk_flags (w : World) : TakeC w .flags 106 #[] := by
  refine ⟨en106, fun W db ib rb B s g l1 l2 l3 t => ?_⟩
  obtain ⟨d, L, r⟩ := s
  obtain ⟨td, ti, tn, tl⟩ := t
  dsimp only at td ti tl
  show Calls Tryz.prog 106 #[pv db, pv ib] W _
  cases hp : need L 1 with
  | none =>
    have ht : tk .flags (d, L, r) = none := by simp only [tk, hp]; rfl
    rw [ht]
    refine (flags1_no db ib rb B L r W ti hp).mono ?_
    rintro e w' ⟨rfl, g'⟩
    exact ⟨rfl, Fr.ofNone g'⟩
  | some p =>
    have ht : tk .flags (d, L, r) = some ({ d with fire := decide (val p.1 % 2 = 1), boost := decide (val p.1 / 2 % 2 = 1) }, p.2, r || !decide (val p.1 ≤ 3)) := by simp only [tk, hp]; rfl
    rw [ht]
    refine (flags1_ok db ib rb B d.cells L r W td rfl tn ti p hp).mono ?_
    rintro e w' ⟨rfl, hd', hi', hf'⟩
    exact ⟨⟨rfl, hd', hi', tn, Nat.le_trans (len_of hp) tl⟩, hf'.mono (fun i e => .inl e)⟩
set_option maxHeartbeats 4000000 in
set_option maxRecDepth 100000 in
theorem tk_zeros (w : World) (zb : Nat) (hz : Has w zb [.string (ba zero76)] 9) : TakeC w .zeros 84 #[pv zb] := by
  refine ⟨en84, fun W db ib rb B s g l1 l2 l3 t => ?_⟩
  obtain ⟨d, L, r⟩ := s
  obtain ⟨td, ti, tn, tl⟩ := t
  dsimp only at td ti tl
  show Calls Tryz.prog 84 #[pv db, pv ib, pv zb] W _
  have k1 := hz.kept g (by simp)
  have hb : zb ≠ rb ∧ zb ≠ ib := by have := hz.lt; omega
  have hzd : zb ≠ db := by have := hz.lt; omega
  cases hp : need L 76 with
  | none =>
    have ht : tk .zeros (d, L, r) = none := by simp only [tk, hp]; rfl
    rw [ht]
    refine (zeros1_no db ib rb B zb L r W k1 hb ti hp).mono ?_
    rintro e w' ⟨rfl, g'⟩
    exact ⟨rfl, Fr.ofNone g'⟩
  | some p =>
    have ht : tk .zeros (d, L, r) = some (d, p.2, r || !decide (p.1 = zero76)) := by simp only [tk, hp]; rfl
    rw [ht]
    refine (zeros1_ok db ib rb B zb L r W k1 hb ti p hp).mono ?_
    rintro e w' ⟨rfl, hi', hf'⟩
    have hd' := td.fr hf' (by simp; omega)
    exact ⟨⟨rfl, hd', hi', tn, Nat.le_trans (len_of hp) tl⟩, hf'.mono (fun i e => .inl (.inr e))⟩
set_option maxHeartbeats 4000000 in
set_option maxRecDepth 100000 in
theorem tk_name (w : World) : TakeC w .name 91 #[] := by
  refine ⟨en91, fun W db ib rb B s g l1 l2 l3 t => ?_⟩
  obtain ⟨d, L, r⟩ := s
  obtain ⟨td, ti, tn, tl⟩ := t
  dsimp only at td ti tl
  show Calls Tryz.prog 91 #[pv db, pv ib] W _
  cases hb : ((need L 1).bind fun p => need p.2 (val p.1 : Nat)) with
  | none =>
    have ht : tk .name (d, L, r) = none := by
      simp only [tk]
      cases hp : need L 1 with
      | none => rfl
      | some p =>
        rw [hp] at hb
        simp only [Option.bind_some] at hb ⊢
        rw [hb]; rfl
    rw [ht]
    refine (name1_no db ib rb B L r W ti hb).mono ?_
    rintro e w' ⟨rfl, g'⟩
    exact ⟨rfl, g'.mono (fun i e => .inl (.inr (.inr e)))⟩
  | some q =>
    obtain ⟨p, hp, hq⟩ := Option.bind_eq_some_iff.1 hb
    have ht : tk .name (d, L, r) = some ({ d with name := ba q.1 }, q.2, r) := by simp only [tk, hp, Option.bind_some, hq]; rfl
    rw [ht]
    refine (name1_ok db ib rb B d.cells L r W td rfl tn ti p q hp hq).mono ?_
    rintro e w' ⟨rfl, hd', hi', hf'⟩
    exact ⟨⟨rfl, hd', hi', tn, Nat.le_trans (len_of hq) (Nat.le_trans (len_of hp) tl)⟩, hf'.mono (fun i e => .inl (e.elim .inl (fun q => .inr (.inr q))))⟩
end Go.Proofs.YtiphnlfbgbemfaaGreatDoor.Pk

/- frame.output, and how the fields are laid -/
namespace Go.Proofs.YtiphnlfbgbemfaaGreatDoor.Pk
open Go Go.RowKit

/-- where an output stands -/
structure Ot (w : World) (ob wb : Nat) (v : Value) (st : WS) (r : Bool) : Prop where
  h : Has w ob [pv wb, .bool r] 91
  a : WAt w wb v st
  n1 : ob ≠ wb
  n2 : v.ownBlock ≠ some ob
def OF (ob wb : Nat) (v : Value) (i : Nat) : Prop := i = ob ∨ WF wb v i
theorem Ot.fr {S : Nat → Prop} {w w' : World} {ob wb : Nat} {v : Value} {st : WS} {r : Bool} (h : Ot w ob wb v st r) (f : Fr S w w') (hs : ∀ i, OF ob wb v i → ¬ S i) : Ot w' ob wb v st r :=
  ⟨h.h.fr f (hs _ (.inl rfl)), h.a.fr f (fun i hi => hs i (.inr hi)), h.n1, h.n2⟩
theorem Ot.kept {w w' : World} {ob wb : Nat} {v : Value} {st : WS} {r : Bool} (h : Ot w ob wb v st r) (hg : w.grownBy w' none) : Ot w' ob wb v st r :=
  h.fr (S := fun _ => False) (Fr.ofNone hg) (fun _ _ e => e)
/-- what became of it -/
structure OD (w w' : World) (ob wb : Nat) (v : Value) (st : WS) (r : Bool) (v' : Value) : Prop where
  a : Ot w' ob wb v' st r
  f : Fr (OF ob wb v) w w'
  n : ∀ k, v'.ownBlock = some k → v.ownBlock = some k ∨ w.heap.size ≤ k
theorem Ot.did {w w' : World} {ob wb : Nat} {v v' : Value} {st st' : WS} {r : Bool} (h : Ot w ob wb v st r) (d : WDid w w' wb v st' v') : OD w w' ob wb v st' r v' :=
  ⟨⟨h.h.fr d.f (fun e => e.elim h.n1 h.n2), d.a, h.n1, fun e => by
    rcases d.n _ e with q | q
    · exact h.n2 q
    · have := h.h.lt; omega⟩, d.f.mono (fun i e => .inl (.inr e)), d.n⟩
theorem OD.ahead {w w1 w2 : World} {ob wb : Nat} {v v1 : Value} {st : WS} {r : Bool} (hg : w.grownBy w1 none) (h : OD w1 w2 ob wb v st r v1) : OD w w2 ob wb v st r v1 :=
  ⟨h.a, (Fr.ofNone hg).trans h.f, fun k e => (h.n k e).imp_right (fun q => Nat.le_trans hg.size q)⟩
theorem OD.trans {w w1 w2 : World} {ob wb : Nat} {v v1 v2 : Value} {st st2 : WS} {r r2 : Bool} (h : OD w w1 ob wb v st r v1) (k : OD w1 w2 ob wb v1 st2 r2 v2) : OD w w2 ob wb v st2 r2 v2 := by
  have hs := h.f.size
  refine ⟨k.a, h.f.then k.f (fun i hi => ?_), fun i e => ?_⟩
  · rcases hi with e | e | e
    · exact .inl (.inl e)
    · exact .inl (.inr (.inl e))
    · exact (h.n i e).imp_left (fun q => .inr (.inr q))
  · rcases k.n i e with q | q
    · exact h.n i q
    · exact .inr (by omega)
set_option maxHeartbeats 8000000 in
set_option maxRecDepth 100000 in
theorem oallow_c (ob wb : Nat) (v : Value) (st : WS) (r ok : Bool) (w : World) (h : Ot w ob wb v st r) :
    Calls Tryz.prog 120 #[pv ob, .bool ok] w fun e w' => e = .returned (.tuple #[]) ∧ OD w w' ob wb v st (r || !ok) v := by
  have c1 : w.cell? ⟨ob, 1, none⟩ = some (.bool r) := h.h.cellv 1 _ rfl
  have z1 : w.frozen? ⟨ob, 1, none⟩ = false := h.h.frozen 1
  have HA : Keep (∀ x, OD w (w.setCell ⟨ob, 1, none⟩ (.bool x)) ob wb v st x v) := ⟨fun x => by
    have f : Fr (fun i => i = ob) w (w.setCell ⟨ob, 1, none⟩ (.bool x)) := Fr.ofSome (gr_set w ob 1 (.bool x)) rfl
    exact ⟨⟨h.h.setCell 1 (.bool x), h.a.fr f (fun i hi e => hi.elim (fun q => h.n1 (e.symm.trans q)) (fun q => h.n2 (e ▸ q))), h.n1, h.n2⟩, f.mono (fun i e => .inl (.inl e)), fun k e => .inl e⟩⟩
  clear h
  cases r
  all_goals
    go_enter Tryz.func120, Tryz.ntmps120
    go_wp2
    go_end0
    exact ⟨rfl, by simpa using HA.out _⟩
/-- what is asked of the datagram that is laid -/
structure Lay (w : World) (db ob wb : Nat) (v : Value) (D : List Value) (st : WS) (r : Bool) : Prop where
  d : Has w db D 26
  o : Ot w ob wb v st r
  n : ¬ OF ob wb v db
  l : (st.getD []).length ≤ 8796093022208
theorem Lay.drew {w : World} {db ob wb : Nat} {v : Value} {D : List Value} {st : WS} {r : Bool} (h : Lay w db ob wb v D st r) : Lay w.drew db ob wb v D st r := ⟨h.d.kept (gr_drew _ none) (by simp), h.o.kept (gr_drew _ _), h.n, h.l⟩
set_option maxHeartbeats 8000000 in
set_option maxRecDepth 100000 in
theorem long2_c (f k db ob wb b1 : Nat) (v : Value) (D : List Value) (st : WS) (r : Bool) (x : Nat) (hx : x < 18446744073709551616) (w : World) (hf : Place f k) (h1 : Has w b1 [fv f] 113) (hb : ¬ OF ob wb v b1) (h : Lay w db ob wb v D st r) (hk : D[k]? = some (.int .u64 (x : Nat))) :
    Calls Tryz.prog 124 #[pv db, pv ob, pv b1] w fun e w' => e = .returned (.tuple #[]) ∧ ∃ v', OD w w' ob wb v (wNum st x 8) r v' := by
  obtain ⟨hcf, hf⟩ := hf
  have HA : Keep (Lay w.drew db ob wb v D st r ∧ x < 18446744073709551616) := ⟨h.drew, hx⟩
  have HH : Keep (Has w.drew b1 [fv f] 113 ∧ Has w.drew db D 26 ∧ Has w.drew ob [pv wb, .bool r] 91) := ⟨h1.kept (gr_drew _ none) (by simp), h.drew.d, h.drew.o.h⟩
  have HDK : Keep (D[k]? = some (.int .u64 (x : Nat))) := ⟨hk⟩
  clear h h1 hx hk
  go_enter Tryz.func124, Tryz.ntmps124
  go_wp2_with fail
  refine wp_region_held_drew (S := fun w' => Has w' b1 [fv f] 113 ∧ Has w' db D 26 ∧ Has w' ob [pv wb, .bool r] 91) (by kernel_rfl) HH.out (fun hHeld => ?_)
  refine wpAnyH_take (i := 0) (oi := _) (v := ?_) rfl (by kernel_rfl) (by kernel_rfl) (by kernel_rfl) (fun _ _ _ h => h) (Or.inl ⟨by rfl, ?_⟩) (by assumption) ?_
  rotate_left
  · (intro w hSw; go_simp; first | done | (with_reducible rfl))
  simp only [Act.put, List.getElem_toArray, List.getElem_cons_zero, List.setIfInBounds_toArray, List.set_cons_zero, List.set_cons_succ]
  refine wpAnyH_take (i := 1) (oi := _) (v := ?_) rfl (by kernel_rfl) (by kernel_rfl) (by kernel_rfl) (fun _ _ _ h => h) (Or.inl ⟨by rfl, ?_⟩) (by assumption) ?_
  rotate_left
  · (intro w hSw; go_simp; first | done | (with_reducible rfl))
  simp only [Act.put, List.getElem_toArray, List.getElem_cons_succ, List.getElem_cons_zero, List.setIfInBounds_toArray, List.set_cons_zero, List.set_cons_succ]
  refine wpAnyH_take (i := 2) (oi := _) (v := ?_) rfl (by kernel_rfl) (by kernel_rfl) (by kernel_rfl) (fun _ _ _ h => h) (Or.inl ⟨by rfl, ?_⟩) (by assumption) ?_
  rotate_left
  · (intro w hSw; go_simp; first | done | (with_reducible rfl))
  simp only [Act.put, List.getElem_toArray, List.getElem_cons_succ, List.getElem_cons_zero, List.setIfInBounds_toArray, List.set_cons_zero, List.set_cons_succ]
  refine wpAnyH_take (i := 3) (oi := _) (v := ?_) rfl (by kernel_rfl) (by kernel_rfl) (by kernel_rfl) (fun _ _ _ h => h) (Or.inl ⟨by rfl, ?_⟩) (by assumption) ?_
  rotate_left
  · (intro w hSw; have x1 := hSw.2.2.cellv 0 _ rfl; clear hSw; go_simp; first | done | (with_reducible rfl))
  simp only [Act.put, List.getElem_toArray, List.getElem_cons_succ, List.getElem_cons_zero, List.setIfInBounds_toArray, List.set_cons_zero, List.set_cons_succ]
  refine wpAnyH_take (i := 4) (oi := _) (v := ?_) rfl (by kernel_rfl) (by kernel_rfl) (by kernel_rfl) (fun _ _ _ h => h) (Or.inl ⟨by rfl, ?_⟩) (by assumption) ?_
  rotate_left
  · (intro w hSw; have x1 := hSw.1.cellv 0 _ rfl; clear hSw; go_simp; first | done | (with_reducible rfl))
  simp only [Act.put, List.getElem_toArray, List.getElem_cons_succ, List.getElem_cons_zero, List.setIfInBounds_toArray, List.set_cons_zero, List.set_cons_succ]
  refine wpAnyH_take (i := 5) (oi := _) (v := ?_) rfl (by kernel_rfl) (by kernel_rfl) (by kernel_rfl) (fun _ _ _ h => h) (Or.inl ⟨by rfl, ?_⟩) (by assumption) ?_
  rotate_left
  · (intro w hSw; go_simp; first | done | (with_reducible rfl))
  simp only [Act.put, List.getElem_toArray, List.getElem_cons_succ, List.getElem_cons_zero, List.setIfInBounds_toArray, List.set_cons_zero, List.set_cons_succ]
  refine wpAnyH_ready (rs := [6]) (by kernel_rfl) (by simp) ?_
  refine AllReadyH.cons rfl (fun K hK => ?_) AllReadyH.nil
  go_simp
  refine (hf db _).mono ?_
  rintro e w1 ⟨rfl, hw1⟩
  subst hw1
  refine hK.out _ _ HH.out (fun hHeld => ?_)
  clear hK K
  refine wpAnyH_take (i := 7) (oi := _) (v := ?_) rfl (by kernel_rfl) (by kernel_rfl) (by kernel_rfl) (fun _ _ _ h => h) (Or.inl ⟨by rfl, ?_⟩) (by assumption) ?_
  rotate_left
  · (intro w hSw; go_simp; first | done | (with_reducible rfl))
  simp only [Act.put, List.getElem_toArray, List.getElem_cons_succ, List.getElem_cons_zero, List.setIfInBounds_toArray, List.set_cons_zero, List.set_cons_succ]
  refine wpAnyH_take (i := 8) (oi := _) (v := ?_) rfl (by kernel_rfl) (by kernel_rfl) (by kernel_rfl) (fun _ _ _ h => h) (Or.inl ⟨by rfl, ?_⟩) (by assumption) ?_
  rotate_left
  · (intro w hSw; have x1 := hSw.2.1.cellv k _ HDK.out; clear hSw; go_simp; first | done | (with_reducible rfl))
  simp only [Act.put, List.getElem_toArray, List.getElem_cons_succ, List.getElem_cons_zero, List.setIfInBounds_toArray, List.set_cons_zero, List.set_cons_succ]
  refine wpAnyH_ready (rs := [9]) (by kernel_rfl) (by simp) ?_
  refine AllReadyH.cons rfl (fun K hK => ?_) AllReadyH.nil
  go_simp
  refine (wNumber_c wb v st x 8 _ HA.out.1.o.a HA.out.2 (by have := HA.out.1.l; omega)).mono ?_
  rintro e w2 ⟨rfl, v', d2⟩
  have HD : Keep (OD w w2 ob wb v (wNum st x 8) r v') := ⟨(HA.out.1.o.did d2).ahead (gr_drew _ _)⟩
  have f2 : Fr (OF ob wb v) w.drew w2 := (HA.out.1.o.did d2).f
  refine hK.out _ _ ⟨HH.out.1.fr f2 hb, HH.out.2.1.fr f2 HA.out.1.n, HD.out.a.h⟩ (fun hHeld => ?_)
  refine wpAnyH_done (by kernel_rfl) ?_ _
  clear hK K
  go_wp2_with fail
  go_end0
  exact ⟨rfl, v', HD.out⟩
set_option maxHeartbeats 8000000 in
set_option maxRecDepth 100000 in
theorem lever2_c (f k db ob wb b1 : Nat) (v : Value) (D : List Value) (st : WS) (r : Bool) (x : Int) (hx : -9223372036854775808 ≤ x ∧ x < 9223372036854775808) (w : World) (hf : Place f k) (h1 : Has w b1 [fv f] 118) (hb : ¬ OF ob wb v b1) (h : Lay w db ob wb v D st r) (hk : D[k]? = some (.int .i64 x)) :
    Calls Tryz.prog 130 #[pv db, pv ob, pv b1] w fun e w' => e = .returned (.tuple #[]) ∧ ∃ v', OD w w' ob wb v (wSig st x 1) r v' := by
  obtain ⟨hcf, hf⟩ := hf
  have HA : Keep (Lay w.drew db ob wb v D st r ∧ -9223372036854775808 ≤ x ∧ x < 9223372036854775808) := ⟨h.drew, hx⟩
  have HH : Keep (Has w.drew b1 [fv f] 118 ∧ Has w.drew db D 26 ∧ Has w.drew ob [pv wb, .bool r] 91) := ⟨h1.kept (gr_drew _ none) (by simp), h.drew.d, h.drew.o.h⟩
  have HDK : Keep (D[k]? = some (.int .i64 x)) := ⟨hk⟩
  clear h h1 hx hk
  go_enter Tryz.func130, Tryz.ntmps130
  go_wp2_with fail
  refine wp_region_held_drew (S := fun w' => Has w' b1 [fv f] 118 ∧ Has w' db D 26 ∧ Has w' ob [pv wb, .bool r] 91) (by kernel_rfl) HH.out (fun hHeld => ?_)
  refine wpAnyH_take (i := 0) (oi := _) (v := ?_) rfl (by kernel_rfl) (by kernel_rfl) (by kernel_rfl) (fun _ _ _ h => h) (Or.inl ⟨by rfl, ?_⟩) (by assumption) ?_
  rotate_left
  · (intro w hSw; go_simp; first | done | (with_reducible rfl))
  simp only [Act.put, List.getElem_toArray, List.getElem_cons_zero, List.setIfInBounds_toArray, List.set_cons_zero, List.set_cons_succ]
  refine wpAnyH_take (i := 1) (oi := _) (v := ?_) rfl (by kernel_rfl) (by kernel_rfl) (by kernel_rfl) (fun _ _ _ h => h) (Or.inl ⟨by rfl, ?_⟩) (by assumption) ?_
  rotate_left
  · (intro w hSw; go_simp; first | done | (with_reducible rfl))
  simp only [Act.put, List.getElem_toArray, List.getElem_cons_succ, List.getElem_cons_zero, List.setIfInBounds_toArray, List.set_cons_zero, List.set_cons_succ]
  refine wpAnyH_take (i := 2) (oi := _) (v := ?_) rfl (by kernel_rfl) (by kernel_rfl) (by kernel_rfl) (fun _ _ _ h => h) (Or.inl ⟨by rfl, ?_⟩) (by assumption) ?_
  rotate_left
  · (intro w hSw; go_simp; first | done | (with_reducible rfl))
  simp only [Act.put, List.getElem_toArray, List.getElem_cons_succ, List.getElem_cons_zero, List.setIfInBounds_toArray, List.set_cons_zero, List.set_cons_succ]
  refine wpAnyH_take (i := 3) (oi := _) (v := ?_) rfl (by kernel_rfl) (by kernel_rfl) (by kernel_rfl) (fun _ _ _ h => h) (Or.inl ⟨by rfl, ?_⟩) (by assumption) ?_
  rotate_left
  · (intro w hSw; have x1 := hSw.2.2.cellv 0 _ rfl; clear hSw; go_simp; first | done | (with_reducible rfl))
  simp only [Act.put, List.getElem_toArray, List.getElem_cons_succ, List.getElem_cons_zero, List.setIfInBounds_toArray, List.set_cons_zero, List.set_cons_succ]
  refine wpAnyH_take (i := 4) (oi := _) (v := ?_) rfl (by kernel_rfl) (by kernel_rfl) (by kernel_rfl) (fun _ _ _ h => h) (Or.inl ⟨by rfl, ?_⟩) (by assumption) ?_
  rotate_left
  · (intro w hSw; have x1 := hSw.1.cellv 0 _ rfl; clear hSw; go_simp; first | done | (with_reducible rfl))
  simp only [Act.put, List.getElem_toArray, List.getElem_cons_succ, List.getElem_cons_zero, List.setIfInBounds_toArray, List.set_cons_zero, List.set_cons_succ]
  refine wpAnyH_take (i := 5) (oi := _) (v := ?_) rfl (by kernel_rfl) (by kernel_rfl) (by kernel_rfl) (fun _ _ _ h => h) (Or.inl ⟨by rfl, ?_⟩) (by assumption) ?_
  rotate_left
  · (intro w hSw; go_simp; first | done | (with_reducible rfl))
  simp only [Act.put, List.getElem_toArray, List.getElem_cons_succ, List.getElem_cons_zero, List.setIfInBounds_toArray, List.set_cons_zero, List.set_cons_succ]
  refine wpAnyH_ready (rs := [6]) (by kernel_rfl) (by simp) ?_
  refine AllReadyH.cons rfl (fun K hK => ?_) AllReadyH.nil
  go_simp
  refine (hf db _).mono ?_
  rintro e w1 ⟨rfl, hw1⟩
  subst hw1
  refine hK.out _ _ HH.out (fun hHeld => ?_)
  clear hK K
  refine wpAnyH_take (i := 7) (oi := _) (v := ?_) rfl (by kernel_rfl) (by kernel_rfl) (by kernel_rfl) (fun _ _ _ h => h) (Or.inl ⟨by rfl, ?_⟩) (by assumption) ?_
  rotate_left
  · (intro w hSw; go_simp; first | done | (with_reducible rfl))
  simp only [Act.put, List.getElem_toArray, List.getElem_cons_succ, List.getElem_cons_zero, List.setIfInBounds_toArray, List.set_cons_zero, List.set_cons_succ]
  refine wpAnyH_take (i := 8) (oi := _) (v := ?_) rfl (by kernel_rfl) (by kernel_rfl) (by kernel_rfl) (fun _ _ _ h => h) (Or.inl ⟨by rfl, ?_⟩) (by assumption) ?_
  rotate_left
  · (intro w hSw; have x1 := hSw.2.1.cellv k _ HDK.out; clear hSw; go_simp; first | done | (with_reducible rfl))
  simp only [Act.put, List.getElem_toArray, List.getElem_cons_succ, List.getElem_cons_zero, List.setIfInBounds_toArray, List.set_cons_zero, List.set_cons_succ]
  refine wpAnyH_ready (rs := [9]) (by kernel_rfl) (by simp) ?_
  refine AllReadyH.cons rfl (fun K hK => ?_) AllReadyH.nil
  go_simp
  refine (wSigned_c wb v st x 1 _ HA.out.1.o.a HA.out.2 (by have := HA.out.1.l; omega)).mono ?_
  rintro e w2 ⟨rfl, v', d2⟩
  have HD : Keep (OD w w2 ob wb v (wSig st x 1) r v') := ⟨(HA.out.1.o.did d2).ahead (gr_drew _ _)⟩
  have f2 : Fr (OF ob wb v) w.drew w2 := (HA.out.1.o.did d2).f
  refine hK.out _ _ ⟨HH.out.1.fr f2 hb, HH.out.2.1.fr f2 HA.out.1.n, HD.out.a.h⟩ (fun hHeld => ?_)
  refine wpAnyH_done (by kernel_rfl) ?_ _
  clear hK K
  go_wp2_with fail
  go_end0
  exact ⟨rfl, v', HD.out⟩
set_option maxHeartbeats 8000000 in
set_option maxRecDepth 100000 in
theorem player2_c (db ob wb : Nat) (v : Value) (D : List Value) (st : WS) (r : Bool) (x : Int) (hx : -9223372036854775808 ≤ x ∧ x < 9223372036854775808) (w : World) (h : Lay w db ob wb v D st r) (hk : D[6]? = some (.int .i64 x)) :
    Calls Tryz.prog 99 #[pv db, pv ob] w fun e w' => e = .returned (.tuple #[]) ∧ ∃ v', OD w w' ob wb v (wNum st (u64 x) 1) r v' := by
  have HA : Keep (Lay w.drew db ob wb v D st r ∧ -9223372036854775808 ≤ x ∧ x < 9223372036854775808) := ⟨h.drew, hx⟩
  have HH : Keep (Has w.drew db D 26 ∧ Has w.drew ob [pv wb, .bool r] 91) := ⟨h.drew.d, h.drew.o.h⟩
  have HDK : Keep (D[6]? = some (.int .i64 x)) := ⟨hk⟩
  clear h hk
  have hu : IntKind.u64.wrap x = (u64 x : Nat) := by rw [wu]; unfold u64; omega
  go_enter Tryz.func99, Tryz.ntmps99
  go_wp2_with fail
  refine wp_region_held_drew (S := fun w' => Has w' db D 26 ∧ Has w' ob [pv wb, .bool r] 91) (by kernel_rfl) HH.out (fun hHeld => ?_)
  refine wpAnyH_take (i := 0) (oi := _) (v := ?_) rfl (by kernel_rfl) (by kernel_rfl) (by kernel_rfl) (fun _ _ _ h => h) (Or.inl ⟨by rfl, ?_⟩) (by assumption) ?_
  rotate_left
  · (intro w hSw; go_simp; first | done | (with_reducible rfl))
  simp only [Act.put, List.getElem_toArray, List.getElem_cons_zero, List.setIfInBounds_toArray, List.set_cons_zero, List.set_cons_succ]
  refine wpAnyH_take (i := 1) (oi := _) (v := ?_) rfl (by kernel_rfl) (by kernel_rfl) (by kernel_rfl) (fun _ _ _ h => h) (Or.inl ⟨by rfl, ?_⟩) (by assumption) ?_
  rotate_left
  · (intro w hSw; go_simp; first | done | (with_reducible rfl))
  simp only [Act.put, List.getElem_toArray, List.getElem_cons_succ, List.getElem_cons_zero, List.setIfInBounds_toArray, List.set_cons_zero, List.set_cons_succ]
  refine wpAnyH_take (i := 2) (oi := _) (v := ?_) rfl (by kernel_rfl) (by kernel_rfl) (by kernel_rfl) (fun _ _ _ h => h) (Or.inl ⟨by rfl, ?_⟩) (by assumption) ?_
  rotate_left
  · (intro w hSw; go_simp; first | done | (with_reducible rfl))
  simp only [Act.put, List.getElem_toArray, List.getElem_cons_succ, List.getElem_cons_zero, List.setIfInBounds_toArray, List.set_cons_zero, List.set_cons_succ]
  refine wpAnyH_take (i := 3) (oi := _) (v := ?_) rfl (by kernel_rfl) (by kernel_rfl) (by kernel_rfl) (fun _ _ _ h => h) (Or.inl ⟨by rfl, ?_⟩) (by assumption) ?_
  rotate_left
  · (intro w hSw; have x1 := hSw.2.cellv 0 _ rfl; clear hSw; go_simp; first | done | (with_reducible rfl))
  simp only [Act.put, List.getElem_toArray, List.getElem_cons_succ, List.getElem_cons_zero, List.setIfInBounds_toArray, List.set_cons_zero, List.set_cons_succ]
  refine wpAnyH_take (i := 4) (oi := _) (v := ?_) rfl (by kernel_rfl) (by kernel_rfl) (by kernel_rfl) (fun _ _ _ h => h) (Or.inl ⟨by rfl, ?_⟩) (by assumption) ?_
  rotate_left
  · (intro w hSw; go_simp; first | done | (with_reducible rfl))
  simp only [Act.put, List.getElem_toArray, List.getElem_cons_succ, List.getElem_cons_zero, List.setIfInBounds_toArray, List.set_cons_zero, List.set_cons_succ]
  refine wpAnyH_take (i := 5) (oi := _) (v := ?_) rfl (by kernel_rfl) (by kernel_rfl) (by kernel_rfl) (fun _ _ _ h => h) (Or.inl ⟨by rfl, ?_⟩) (by assumption) ?_
  rotate_left
  · (intro w hSw; go_simp; first | done | (with_reducible rfl))
  simp only [Act.put, List.getElem_toArray, List.getElem_cons_succ, List.getElem_cons_zero, List.setIfInBounds_toArray, List.set_cons_zero, List.set_cons_succ]
  refine wpAnyH_take (i := 6) (oi := _) (v := ?_) rfl (by kernel_rfl) (by kernel_rfl) (by kernel_rfl) (fun _ _ _ h => h) (Or.inl ⟨by rfl, ?_⟩) (by assumption) ?_
  rotate_left
  · (intro w hSw; go_simp; first | done | (with_reducible rfl))
  simp only [Act.put, List.getElem_toArray, List.getElem_cons_succ, List.getElem_cons_zero, List.setIfInBounds_toArray, List.set_cons_zero, List.set_cons_succ]
  refine wpAnyH_take (i := 7) (oi := _) (v := ?_) rfl (by kernel_rfl) (by kernel_rfl) (by kernel_rfl) (fun _ _ _ h => h) (Or.inl ⟨by rfl, ?_⟩) (by assumption) ?_
  rotate_left
  · (intro w hSw; have x1 := hSw.1.cellv 6 _ HDK.out; clear hSw; go_simp; first | done | (with_reducible rfl))
  simp only [Act.put, List.getElem_toArray, List.getElem_cons_succ, List.getElem_cons_zero, List.setIfInBounds_toArray, List.set_cons_zero, List.set_cons_succ]
  refine wpAnyH_take (i := 8) (oi := _) (v := ?_) rfl (by kernel_rfl) (by kernel_rfl) (by kernel_rfl) (fun _ _ _ h => h) (Or.inl ⟨by rfl, ?_⟩) (by assumption) ?_
  rotate_left
  · (intro w hSw; go_simp; first | done | (with_reducible rfl))
  simp only [Act.put, List.getElem_toArray, List.getElem_cons_succ, List.getElem_cons_zero, List.setIfInBounds_toArray, List.set_cons_zero, List.set_cons_succ]
  refine wpAnyH_ready (rs := [9]) (by kernel_rfl) (by simp) ?_
  refine AllReadyH.cons rfl (fun K hK => ?_) AllReadyH.nil
  go_simp
  refine (wNumber_c wb v st (u64 x) 1 _ HA.out.1.o.a (u64_lt x) (by have := HA.out.1.l; omega)).mono ?_
  rintro e w2 ⟨rfl, v', d2⟩
  have HD : Keep (OD w w2 ob wb v (wNum st (u64 x) 1) r v') := ⟨(HA.out.1.o.did d2).ahead (gr_drew _ _)⟩
  have f2 : Fr (OF ob wb v) w.drew w2 := (HA.out.1.o.did d2).f
  refine hK.out _ _ ⟨HH.out.1.fr f2 HA.out.1.n, HD.out.a.h⟩ (fun hHeld => ?_)
  refine wpAnyH_done (by kernel_rfl) ?_ _
  clear hK K
  go_wp2_with fail
  go_end0
  exact ⟨rfl, v', HD.out⟩
set_option maxHeartbeats 8000000 in
set_option maxRecDepth 100000 in
theorem name2_c (db ob wb : Nat) (v : Value) (D : List Value) (st : WS) (r : Bool) (x : ByteArray) (hx : x.size ≤ 1099511627776) (w : World) (h : Lay w db ob wb v D st r) (hk : D[4]? = some (.string x)) :
    Calls Tryz.prog 93 #[pv db, pv ob] w fun e w' => e = .returned (.tuple #[]) ∧ ∃ v', OD w w' ob wb v (wText st (sl x)) r v' := by
  have HA : Keep (Lay w.drew db ob wb v D st r ∧ x.size ≤ 1099511627776) := ⟨h.drew, hx⟩
  have HH : Keep (Has w.drew db D 26 ∧ Has w.drew ob [pv wb, .bool r] 91) := ⟨h.drew.d, h.drew.o.h⟩
  have HDK : Keep (D[4]? = some (.string x)) := ⟨hk⟩
  clear h hx hk
  go_enter Tryz.func93, Tryz.ntmps93
  go_wp2_with fail
  refine wp_region_held_drew (S := fun w' => Has w' db D 26 ∧ Has w' ob [pv wb, .bool r] 91) (by kernel_rfl) HH.out (fun hHeld => ?_)
  refine wpAnyH_take (i := 0) (oi := _) (v := ?_) rfl (by kernel_rfl) (by kernel_rfl) (by kernel_rfl) (fun _ _ _ h => h) (Or.inl ⟨by rfl, ?_⟩) (by assumption) ?_
  rotate_left
  · (intro w hSw; go_simp; first | done | (with_reducible rfl))
  simp only [Act.put, List.getElem_toArray, List.getElem_cons_zero, List.setIfInBounds_toArray, List.set_cons_zero, List.set_cons_succ]
  refine wpAnyH_take (i := 1) (oi := _) (v := ?_) rfl (by kernel_rfl) (by kernel_rfl) (by kernel_rfl) (fun _ _ _ h => h) (Or.inl ⟨by rfl, ?_⟩) (by assumption) ?_
  rotate_left
  · (intro w hSw; go_simp; first | done | (with_reducible rfl))
  simp only [Act.put, List.getElem_toArray, List.getElem_cons_succ, List.getElem_cons_zero, List.setIfInBounds_toArray, List.set_cons_zero, List.set_cons_succ]
  refine wpAnyH_take (i := 2) (oi := _) (v := ?_) rfl (by kernel_rfl) (by kernel_rfl) (by kernel_rfl) (fun _ _ _ h => h) (Or.inl ⟨by rfl, ?_⟩) (by assumption) ?_
  rotate_left
  · (intro w hSw; go_simp; first | done | (with_reducible rfl))
  simp only [Act.put, List.getElem_toArray, List.getElem_cons_succ, List.getElem_cons_zero, List.setIfInBounds_toArray, List.set_cons_zero, List.set_cons_succ]
  refine wpAnyH_take (i := 3) (oi := _) (v := ?_) rfl (by kernel_rfl) (by kernel_rfl) (by kernel_rfl) (fun _ _ _ h => h) (Or.inl ⟨by rfl, ?_⟩) (by assumption) ?_
  rotate_left
  · (intro w hSw; have x1 := hSw.2.cellv 0 _ rfl; clear hSw; go_simp; first | done | (with_reducible rfl))
  simp only [Act.put, List.getElem_toArray, List.getElem_cons_succ, List.getElem_cons_zero, List.setIfInBounds_toArray, List.set_cons_zero, List.set_cons_succ]
  refine wpAnyH_take (i := 4) (oi := _) (v := ?_) rfl (by kernel_rfl) (by kernel_rfl) (by kernel_rfl) (fun _ _ _ h => h) (Or.inl ⟨by rfl, ?_⟩) (by assumption) ?_
  rotate_left
  · (intro w hSw; go_simp; first | done | (with_reducible rfl))
  simp only [Act.put, List.getElem_toArray, List.getElem_cons_succ, List.getElem_cons_zero, List.setIfInBounds_toArray, List.set_cons_zero, List.set_cons_succ]
  refine wpAnyH_take (i := 5) (oi := _) (v := ?_) rfl (by kernel_rfl) (by kernel_rfl) (by kernel_rfl) (fun _ _ _ h => h) (Or.inl ⟨by rfl, ?_⟩) (by assumption) ?_
  rotate_left
  · (intro w hSw; go_simp; first | done | (with_reducible rfl))
  simp only [Act.put, List.getElem_toArray, List.getElem_cons_succ, List.getElem_cons_zero, List.setIfInBounds_toArray, List.set_cons_zero, List.set_cons_succ]
  refine wpAnyH_take (i := 6) (oi := _) (v := ?_) rfl (by kernel_rfl) (by kernel_rfl) (by kernel_rfl) (fun _ _ _ h => h) (Or.inl ⟨by rfl, ?_⟩) (by assumption) ?_
  rotate_left
  · (intro w hSw; go_simp; first | done | (with_reducible rfl))
  simp only [Act.put, List.getElem_toArray, List.getElem_cons_succ, List.getElem_cons_zero, List.setIfInBounds_toArray, List.set_cons_zero, List.set_cons_succ]
  refine wpAnyH_take (i := 7) (oi := _) (v := ?_) rfl (by kernel_rfl) (by kernel_rfl) (by kernel_rfl) (fun _ _ _ h => h) (Or.inl ⟨by rfl, ?_⟩) (by assumption) ?_
  rotate_left
  · (intro w hSw; have x1 := hSw.1.cellv 4 _ HDK.out; clear hSw; go_simp; first | done | (with_reducible rfl))
  simp only [Act.put, List.getElem_toArray, List.getElem_cons_succ, List.getElem_cons_zero, List.setIfInBounds_toArray, List.set_cons_zero, List.set_cons_succ]
  refine wpAnyH_ready (rs := [8]) (by kernel_rfl) (by simp) ?_
  refine AllReadyH.cons rfl (fun K hK => ?_) AllReadyH.nil
  go_simp
  refine (wText_c wb v st x _ HA.out.1.o.a (by have := HA.out.1.l; have := HA.out.2; omega)).mono ?_
  rintro e w2 ⟨rfl, v', d2⟩
  have HD : Keep (OD w w2 ob wb v (wText st (sl x)) r v') := ⟨(HA.out.1.o.did d2).ahead (gr_drew _ _)⟩
  have f2 : Fr (OF ob wb v) w.drew w2 := (HA.out.1.o.did d2).f
  refine hK.out _ _ ⟨HH.out.1.fr f2 HA.out.1.n, HD.out.a.h⟩ (fun hHeld => ?_)
  refine wpAnyH_done (by kernel_rfl) ?_ _
  clear hK K
  go_wp2_with fail
  go_end0
  exact ⟨rfl, v', HD.out⟩
set_option maxHeartbeats 8000000 in
set_option maxRecDepth 100000 in
theorem view2_c (db ob wb : Nat) (v : Value) (D : List Value) (st : WS) (r : Bool) (x : ByteArray) (hx : x.size ≤ 1099511627776) (w : World) (h : Lay w db ob wb v D st r) (hk : D[13]? = some (.string x)) :
    Calls Tryz.prog 110 #[pv db, pv ob] w fun e w' => e = .returned (.tuple #[]) ∧ ∃ v', OD w w' ob wb v (wBytes st (sl x)) r v' := by
  have HA : Keep (Lay w.drew db ob wb v D st r ∧ x.size ≤ 1099511627776) := ⟨h.drew, hx⟩
  have HH : Keep (Has w.drew db D 26 ∧ Has w.drew ob [pv wb, .bool r] 91) := ⟨h.drew.d, h.drew.o.h⟩
  have HDK : Keep (D[13]? = some (.string x)) := ⟨hk⟩
  clear h hx hk
  go_enter Tryz.func110, Tryz.ntmps110
  go_wp2_with fail
  refine wp_region_held_drew (S := fun w' => Has w' db D 26 ∧ Has w' ob [pv wb, .bool r] 91) (by kernel_rfl) HH.out (fun hHeld => ?_)
  refine wpAnyH_take (i := 0) (oi := _) (v := ?_) rfl (by kernel_rfl) (by kernel_rfl) (by kernel_rfl) (fun _ _ _ h => h) (Or.inl ⟨by rfl, ?_⟩) (by assumption) ?_
  rotate_left
  · (intro w hSw; go_simp; first | done | (with_reducible rfl))
  simp only [Act.put, List.getElem_toArray, List.getElem_cons_zero, List.setIfInBounds_toArray, List.set_cons_zero, List.set_cons_succ]
  refine wpAnyH_take (i := 1) (oi := _) (v := ?_) rfl (by kernel_rfl) (by kernel_rfl) (by kernel_rfl) (fun _ _ _ h => h) (Or.inl ⟨by rfl, ?_⟩) (by assumption) ?_
  rotate_left
  · (intro w hSw; go_simp; first | done | (with_reducible rfl))
  simp only [Act.put, List.getElem_toArray, List.getElem_cons_succ, List.getElem_cons_zero, List.setIfInBounds_toArray, List.set_cons_zero, List.set_cons_succ]
  refine wpAnyH_take (i := 2) (oi := _) (v := ?_) rfl (by kernel_rfl) (by kernel_rfl) (by kernel_rfl) (fun _ _ _ h => h) (Or.inl ⟨by rfl, ?_⟩) (by assumption) ?_
  rotate_left
  · (intro w hSw; go_simp; first | done | (with_reducible rfl))
  simp only [Act.put, List.getElem_toArray, List.getElem_cons_succ, List.getElem_cons_zero, List.setIfInBounds_toArray, List.set_cons_zero, List.set_cons_succ]
  refine wpAnyH_take (i := 3) (oi := _) (v := ?_) rfl (by kernel_rfl) (by kernel_rfl) (by kernel_rfl) (fun _ _ _ h => h) (Or.inl ⟨by rfl, ?_⟩) (by assumption) ?_
  rotate_left
  · (intro w hSw; have x1 := hSw.2.cellv 0 _ rfl; clear hSw; go_simp; first | done | (with_reducible rfl))
  simp only [Act.put, List.getElem_toArray, List.getElem_cons_succ, List.getElem_cons_zero, List.setIfInBounds_toArray, List.set_cons_zero, List.set_cons_succ]
  refine wpAnyH_take (i := 4) (oi := _) (v := ?_) rfl (by kernel_rfl) (by kernel_rfl) (by kernel_rfl) (fun _ _ _ h => h) (Or.inl ⟨by rfl, ?_⟩) (by assumption) ?_
  rotate_left
  · (intro w hSw; go_simp; first | done | (with_reducible rfl))
  simp only [Act.put, List.getElem_toArray, List.getElem_cons_succ, List.getElem_cons_zero, List.setIfInBounds_toArray, List.set_cons_zero, List.set_cons_succ]
  refine wpAnyH_take (i := 5) (oi := _) (v := ?_) rfl (by kernel_rfl) (by kernel_rfl) (by kernel_rfl) (fun _ _ _ h => h) (Or.inl ⟨by rfl, ?_⟩) (by assumption) ?_
  rotate_left
  · (intro w hSw; go_simp; first | done | (with_reducible rfl))
  simp only [Act.put, List.getElem_toArray, List.getElem_cons_succ, List.getElem_cons_zero, List.setIfInBounds_toArray, List.set_cons_zero, List.set_cons_succ]
  refine wpAnyH_take (i := 6) (oi := _) (v := ?_) rfl (by kernel_rfl) (by kernel_rfl) (by kernel_rfl) (fun _ _ _ h => h) (Or.inl ⟨by rfl, ?_⟩) (by assumption) ?_
  rotate_left
  · (intro w hSw; go_simp; first | done | (with_reducible rfl))
  simp only [Act.put, List.getElem_toArray, List.getElem_cons_succ, List.getElem_cons_zero, List.setIfInBounds_toArray, List.set_cons_zero, List.set_cons_succ]
  refine wpAnyH_take (i := 7) (oi := _) (v := ?_) rfl (by kernel_rfl) (by kernel_rfl) (by kernel_rfl) (fun _ _ _ h => h) (Or.inl ⟨by rfl, ?_⟩) (by assumption) ?_
  rotate_left
  · (intro w hSw; have x1 := hSw.1.cellv 13 _ HDK.out; clear hSw; go_simp; first | done | (with_reducible rfl))
  simp only [Act.put, List.getElem_toArray, List.getElem_cons_succ, List.getElem_cons_zero, List.setIfInBounds_toArray, List.set_cons_zero, List.set_cons_succ]
  refine wpAnyH_ready (rs := [8]) (by kernel_rfl) (by simp) ?_
  refine AllReadyH.cons rfl (fun K hK => ?_) AllReadyH.nil
  go_simp
  refine (wBytes_c wb v st x _ HA.out.1.o.a (by have := HA.out.1.l; have := HA.out.2; omega)).mono ?_
  rintro e w2 ⟨rfl, v', d2⟩
  have HD : Keep (OD w w2 ob wb v (wBytes st (sl x)) r v') := ⟨(HA.out.1.o.did d2).ahead (gr_drew _ _)⟩
  have f2 : Fr (OF ob wb v) w.drew w2 := (HA.out.1.o.did d2).f
  refine hK.out _ _ ⟨HH.out.1.fr f2 HA.out.1.n, HD.out.a.h⟩ (fun hHeld => ?_)
  refine wpAnyH_done (by kernel_rfl) ?_ _
  clear hK K
  go_wp2_with fail
  go_end0
  exact ⟨rfl, v', HD.out⟩
end Go.Proofs.YtiphnlfbgbemfaaGreatDoor.Pk

