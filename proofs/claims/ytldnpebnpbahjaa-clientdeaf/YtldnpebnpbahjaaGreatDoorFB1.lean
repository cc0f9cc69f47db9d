import Derived.Test.YtldnpebnpbahjaaGreatDoorFA4
/- frame.output, and how the fields are laid -/
namespace Go.Proofs.YtldnpebnpbahjaaGreatDoor.Pk
open Go Go.RowKit

/-- where an output stands -/
structure Ot (w : World) (ob wb : Nat) (v : Value) (st : WS) (r : Bool) : Prop where
  h : Has w ob [pv wb, .bool r] 174
  a : WAt w wb v st
  n1 : ob ≠ wb
  n2 : v.ownBlock ≠ some ob
def OF (ob wb : Nat) (v : Value) (i : Nat) : Prop := i = ob ∨ WF wb v i
set_option maxRecDepth 100000 in
theorem Ot.fr {S : Nat → Prop} {w w' : World} {ob wb : Nat} {v : Value} {st : WS} {r : Bool} (h : Ot w ob wb v st r) (f : Fr S w w') (hs : ∀ i, OF ob wb v i → ¬ S i) : Ot w' ob wb v st r :=
  ⟨h.h.fr f (hs _ (.inl rfl)), h.a.fr f (fun i hi => hs i (.inr hi)), h.n1, h.n2⟩
set_option maxRecDepth 100000 in
theorem Ot.kept {w w' : World} {ob wb : Nat} {v : Value} {st : WS} {r : Bool} (h : Ot w ob wb v st r) (hg : w.grownBy w' none) : Ot w' ob wb v st r :=
  h.fr (S := fun _ => False) (Fr.ofNone hg) (fun _ _ e => e)
/-- what became of it -/
structure OD (w w' : World) (ob wb : Nat) (v : Value) (st : WS) (r : Bool) (v' : Value) : Prop where
  a : Ot w' ob wb v' st r
  f : Fr (OF ob wb v) w w'
  n : ∀ k, v'.ownBlock = some k → v.ownBlock = some k ∨ w.heap.size ≤ k
set_option maxRecDepth 100000 in
theorem Ot.did {w w' : World} {ob wb : Nat} {v v' : Value} {st st' : WS} {r : Bool} (h : Ot w ob wb v st r) (d : WDid w w' wb v st' v') : OD w w' ob wb v st' r v' :=
  ⟨⟨h.h.fr d.f (fun e => e.elim h.n1 h.n2), d.a, h.n1, fun e => by
    rcases d.n _ e with q | q
    · exact h.n2 q
    · have := h.h.lt; omega⟩, d.f.mono (fun i e => .inl (.inr e)), d.n⟩
set_option maxRecDepth 100000 in
theorem OD.ahead {w w1 w2 : World} {ob wb : Nat} {v v1 : Value} {st : WS} {r : Bool} (hg : w.grownBy w1 none) (h : OD w1 w2 ob wb v st r v1) : OD w w2 ob wb v st r v1 :=
  ⟨h.a, (Fr.ofNone hg).trans h.f, fun k e => (h.n k e).imp_right (fun q => Nat.le_trans hg.size q)⟩
set_option maxRecDepth 100000 in
theorem OD.trans {w w1 w2 : World} {ob wb : Nat} {v v1 v2 : Value} {st st2 : WS} {r r2 : Bool} (h : OD w w1 ob wb v st r v1) (k : OD w1 w2 ob wb v1 st2 r2 v2) : OD w w2 ob wb v st2 r2 v2 := by
  have hs := h.f.size
  refine ⟨k.a, h.f.then k.f (fun i hi => ?_), fun i e => ?_⟩
  · rcases hi with e | e | e
    · exact .inl (.inl e)
    · exact .inl (.inr (.inl e))
    · exact (h.n i e).imp_left (fun q => .inr (.inr q))
  · rcases k.n i e with q | q
    · exact h.n i q
    · exact .inr (by omega)
set_option maxHeartbeats 8000000 in
set_option maxRecDepth 100000 in
theorem oallow_c (ob wb : Nat) (v : Value) (st : WS) (r ok : Bool) (w : World) (h : Ot w ob wb v st r) :
    Calls Tryz.prog 182 #[pv ob, .bool ok] w fun e w' => e = .returned (.tuple #[]) ∧ OD w w' ob wb v st (r || !ok) v := by
  have c1 : w.cell? ⟨ob, 1, none⟩ = some (.bool r) := h.h.cellv 1 _ rfl
  have z1 : w.frozen? ⟨ob, 1, none⟩ = false := h.h.frozen 1
  have HA : Keep (∀ x, OD w (w.setCell ⟨ob, 1, none⟩ (.bool x)) ob wb v st x v) := ⟨fun x => by
    have f : Fr (fun i => i = ob) w (w.setCell ⟨ob, 1, none⟩ (.bool x)) := Fr.ofSome (gr_set w ob 1 (.bool x)) rfl
    exact ⟨⟨h.h.setCell 1 (.bool x), h.a.fr f (fun i hi e => hi.elim (fun q => h.n1 (e.symm.trans q)) (fun q => h.n2 (e ▸ q))), h.n1, h.n2⟩, f.mono (fun i e => .inl (.inl e)), fun k e => .inl e⟩⟩
  clear h
  cases r
  all_goals
    go_enter Tryz.func182, Tryz.ntmps182
    go_wp2
    go_end0
    exact ⟨rfl, by simpa using HA.out _⟩
/-- what is asked of the datagram that is laid -/
structure Lay (w : World) (db ob wb : Nat) (v : Value) (D : List Value) (st : WS) (r : Bool) : Prop where
  d : Has w db D 34
  o : Ot w ob wb v st r
  n : ¬ OF ob wb v db
  l : (st.getD []).length ≤ 8796093022208
set_option maxRecDepth 100000 in
theorem Lay.drew {w : World} {db ob wb : Nat} {v : Value} {D : List Value} {st : WS} {r : Bool} (h : Lay w db ob wb v D st r) : Lay w.drew db ob wb v D st r := ⟨h.d.kept (gr_drew _ none) (by simp), h.o.kept (gr_drew _ _), h.n, h.l⟩
set_option maxHeartbeats 8000000 in
set_option maxRecDepth 100000 in
theorem long2_c (f k db ob wb b1 : Nat) (v : Value) (D : List Value) (st : WS) (r : Bool) (x : Nat) (hx : x < 18446744073709551616) (w : World) (hf : Place f k) (h1 : Has w b1 [fv f] 191) (hb : ¬ OF ob wb v b1) (h : Lay w db ob wb v D st r) (hk : D[k]? = some (.int .u64 (x : Nat))) :
    Calls Tryz.prog 186 #[pv db, pv ob, pv b1] w fun e w' => e = .returned (.tuple #[]) ∧ ∃ v', OD w w' ob wb v (wNum st x 8) r v' := by
  obtain ⟨hcf, hf⟩ := hf
  have HA : Keep (Lay w.drew db ob wb v D st r ∧ x < 18446744073709551616) := ⟨h.drew, hx⟩
  have HH : Keep (Has w.drew b1 [fv f] 191 ∧ Has w.drew db D 34 ∧ Has w.drew ob [pv wb, .bool r] 174) := ⟨h1.kept (gr_drew _ none) (by simp), h.drew.d, h.drew.o.h⟩
  have HDK : Keep (D[k]? = some (.int .u64 (x : Nat))) := ⟨hk⟩
  clear h h1 hx hk
  go_enter Tryz.func186, Tryz.ntmps186
  go_wp2_with fail
  refine wp_region_held_drew (S := fun w' => Has w' b1 [fv f] 191 ∧ Has w' db D 34 ∧ Has w' ob [pv wb, .bool r] 174) (by kernel_rfl) HH.out (fun hHeld => ?_)
  refine wpAnyH_take (i := 0) (oi := _) (v := ?_) rfl (by kernel_rfl) (by kernel_rfl) (by kernel_rfl) (fun _ _ _ h => h) (Or.inl ⟨by rfl, ?_⟩) (by assumption) ?_
  rotate_left
  · (intro w hSw; go_simp; first | done | (with_reducible rfl))
  simp only [Act.put, List.getElem_toArray, List.getElem_cons_zero, List.setIfInBounds_toArray, List.set_cons_zero, List.set_cons_succ]
  refine wpAnyH_take (i := 1) (oi := _) (v := ?_) rfl (by kernel_rfl) (by kernel_rfl) (by kernel_rfl) (fun _ _ _ h => h) (Or.inl ⟨by rfl, ?_⟩) (by assumption) ?_
  rotate_left
  · (intro w hSw; go_simp; first | done | (with_reducible rfl))
  simp only [Act.put, List.getElem_toArray, List.getElem_cons_succ, List.getElem_cons_zero, List.setIfInBounds_toArray, List.set_cons_zero, List.set_cons_succ]
  refine wpAnyH_take (i := 2) (oi := _) (v := ?_) rfl (by kernel_rfl) (by kernel_rfl) (by kernel_rfl) (fun _ _ _ h => h) (Or.inl ⟨by rfl, ?_⟩) (by assumption) ?_
  rotate_left
  · (intro w hSw; go_simp; first | done | (with_reducible rfl))
  simp only [Act.put, List.getElem_toArray, List.getElem_cons_succ, List.getElem_cons_zero, List.setIfInBounds_toArray, List.set_cons_zero, List.set_cons_succ]
  refine wpAnyH_take (i := 3) (oi := _) (v := ?_) rfl (by kernel_rfl) (by kernel_rfl) (by kernel_rfl) (fun _ _ _ h => h) (Or.inl ⟨by rfl, ?_⟩) (by assumption) ?_
  rotate_left
  · (intro w hSw; have x1 := hSw.2.2.cellv 0 _ rfl; clear hSw; go_simp; first | done | (with_reducible rfl))
  simp only [Act.put, List.getElem_toArray, List.getElem_cons_succ, List.getElem_cons_zero, List.setIfInBounds_toArray, List.set_cons_zero, List.set_cons_succ]
  refine wpAnyH_take (i := 4) (oi := _) (v := ?_) rfl (by kernel_rfl) (by kernel_rfl) (by kernel_rfl) (fun _ _ _ h => h) (Or.inl ⟨by rfl, ?_⟩) (by assumption) ?_
  rotate_left
  · (intro w hSw; have x1 := hSw.1.cellv 0 _ rfl; clear hSw; go_simp; first | done | (with_reducible rfl))
  simp only [Act.put, List.getElem_toArray, List.getElem_cons_succ, List.getElem_cons_zero, List.setIfInBounds_toArray, List.set_cons_zero, List.set_cons_succ]
  refine wpAnyH_take (i := 5) (oi := _) (v := ?_) rfl (by kernel_rfl) (by kernel_rfl) (by kernel_rfl) (fun _ _ _ h => h) (Or.inl ⟨by rfl, ?_⟩) (by assumption) ?_
  rotate_left
  · (intro w hSw; go_simp; first | done | (with_reducible rfl))
  simp only [Act.put, List.getElem_toArray, List.getElem_cons_succ, List.getElem_cons_zero, List.setIfInBounds_toArray, List.set_cons_zero, List.set_cons_succ]
  refine wpAnyH_ready (rs := [6]) (by kernel_rfl) (by simp) ?_
  refine AllReadyH.cons rfl (fun K hK => ?_) AllReadyH.nil
  go_simp
  refine (hf db _).mono ?_
  rintro e w1 ⟨rfl, hw1⟩
  subst hw1
  refine hK.out _ _ HH.out (fun hHeld => ?_)
  clear hK K
  refine wpAnyH_take (i := 7) (oi := _) (v := ?_) rfl (by kernel_rfl) (by kernel_rfl) (by kernel_rfl) (fun _ _ _ h => h) (Or.inl ⟨by rfl, ?_⟩) (by assumption) ?_
  rotate_left
  · (intro w hSw; go_simp; first | done | (with_reducible rfl))
  simp only [Act.put, List.getElem_toArray, List.getElem_cons_succ, List.getElem_cons_zero, List.setIfInBounds_toArray, List.set_cons_zero, List.set_cons_succ]
  refine wpAnyH_take (i := 8) (oi := _) (v := ?_) rfl (by kernel_rfl) (by kernel_rfl) (by kernel_rfl) (fun _ _ _ h => h) (Or.inl ⟨by rfl, ?_⟩) (by assumption) ?_
  rotate_left
  · (intro w hSw; have x1 := hSw.2.1.cellv k _ HDK.out; clear hSw; go_simp; first | done | (with_reducible rfl))
  simp only [Act.put, List.getElem_toArray, List.getElem_cons_succ, List.getElem_cons_zero, List.setIfInBounds_toArray, List.set_cons_zero, List.set_cons_succ]
  refine wpAnyH_ready (rs := [9]) (by kernel_rfl) (by simp) ?_
  refine AllReadyH.cons rfl (fun K hK => ?_) AllReadyH.nil
  go_simp
  refine (wNumber_c wb v st x 8 _ HA.out.1.o.a HA.out.2 (by have := HA.out.1.l; omega)).mono ?_
  rintro e w2 ⟨rfl, v', d2⟩
  have HD : Keep (OD w w2 ob wb v (wNum st x 8) r v') := ⟨(HA.out.1.o.did d2).ahead (gr_drew _ _)⟩
  have f2 : Fr (OF ob wb v) w.drew w2 := (HA.out.1.o.did d2).f
  refine hK.out _ _ ⟨HH.out.1.fr f2 hb, HH.out.2.1.fr f2 HA.out.1.n, HD.out.a.h⟩ (fun hHeld => ?_)
  refine wpAnyH_done (by kernel_rfl) ?_ _
  clear hK K
  go_wp2_with fail
  go_end0
  exact ⟨rfl, v', HD.out⟩
set_option maxHeartbeats 8000000 in
set_option maxRecDepth 100000 in
theorem lever2_c (f k db ob wb b1 : Nat) (v : Value) (D : List Value) (st : WS) (r : Bool) (x : Int) (hx : -9223372036854775808 ≤ x ∧ x < 9223372036854775808) (w : World) (hf : Place f k) (h1 : Has w b1 [fv f] 194) (hb : ¬ OF ob wb v b1) (h : Lay w db ob wb v D st r) (hk : D[k]? = some (.int .i64 x)) :
    Calls Tryz.prog 192 #[pv db, pv ob, pv b1] w fun e w' => e = .returned (.tuple #[]) ∧ ∃ v', OD w w' ob wb v (wSig st x 1) r v' := by
  obtain ⟨hcf, hf⟩ := hf
  have HA : Keep (Lay w.drew db ob wb v D st r ∧ -9223372036854775808 ≤ x ∧ x < 9223372036854775808) := ⟨h.drew, hx⟩
  have HH : Keep (Has w.drew b1 [fv f] 194 ∧ Has w.drew db D 34 ∧ Has w.drew ob [pv wb, .bool r] 174) := ⟨h1.kept (gr_drew _ none) (by simp), h.drew.d, h.drew.o.h⟩
  have HDK : Keep (D[k]? = some (.int .i64 x)) := ⟨hk⟩
  clear h h1 hx hk
  go_enter Tryz.func192, Tryz.ntmps192
  go_wp2_with fail
  refine wp_region_held_drew (S := fun w' => Has w' b1 [fv f] 194 ∧ Has w' db D 34 ∧ Has w' ob [pv wb, .bool r] 174) (by kernel_rfl) HH.out (fun hHeld => ?_)
  refine wpAnyH_take (i := 0) (oi := _) (v := ?_) rfl (by kernel_rfl) (by kernel_rfl) (by kernel_rfl) (fun _ _ _ h => h) (Or.inl ⟨by rfl, ?_⟩) (by assumption) ?_
  rotate_left
  · (intro w hSw; go_simp; first | done | (with_reducible rfl))
  simp only [Act.put, List.getElem_toArray, List.getElem_cons_zero, List.setIfInBounds_toArray, List.set_cons_zero, List.set_cons_succ]
  refine wpAnyH_take (i := 1) (oi := _) (v := ?_) rfl (by kernel_rfl) (by kernel_rfl) (by kernel_rfl) (fun _ _ _ h => h) (Or.inl ⟨by rfl, ?_⟩) (by assumption) ?_
  rotate_left
  · (intro w hSw; go_simp; first | done | (with_reducible rfl))
  simp only [Act.put, List.getElem_toArray, List.getElem_cons_succ, List.getElem_cons_zero, List.setIfInBounds_toArray, List.set_cons_zero, List.set_cons_succ]
  refine wpAnyH_take (i := 2) (oi := _) (v := ?_) rfl (by kernel_rfl) (by kernel_rfl) (by kernel_rfl) (fun _ _ _ h => h) (Or.inl ⟨by rfl, ?_⟩) (by assumption) ?_
  rotate_left
  · (intro w hSw; go_simp; first | done | (with_reducible rfl))
  simp only [Act.put, List.getElem_toArray, List.getElem_cons_succ, List.getElem_cons_zero, List.setIfInBounds_toArray, List.set_cons_zero, List.set_cons_succ]
  refine wpAnyH_take (i := 3) (oi := _) (v := ?_) rfl (by kernel_rfl) (by kernel_rfl) (by kernel_rfl) (fun _ _ _ h => h) (Or.inl ⟨by rfl, ?_⟩) (by assumption) ?_
  rotate_left
  · (intro w hSw; have x1 := hSw.2.2.cellv 0 _ rfl; clear hSw; go_simp; first | done | (with_reducible rfl))
  simp only [Act.put, List.getElem_toArray, List.getElem_cons_succ, List.getElem_cons_zero, List.setIfInBounds_toArray, List.set_cons_zero, List.set_cons_succ]
  refine wpAnyH_take (i := 4) (oi := _) (v := ?_) rfl (by kernel_rfl) (by kernel_rfl) (by kernel_rfl) (fun _ _ _ h => h) (Or.inl ⟨by rfl, ?_⟩) (by assumption) ?_
  rotate_left
  · (intro w hSw; have x1 := hSw.1.cellv 0 _ rfl; clear hSw; go_simp; first | done | (with_reducible rfl))
  simp only [Act.put, List.getElem_toArray, List.getElem_cons_succ, List.getElem_cons_zero, List.setIfInBounds_toArray, List.set_cons_zero, List.set_cons_succ]
  refine wpAnyH_take (i := 5) (oi := _) (v := ?_) rfl (by kernel_rfl) (by kernel_rfl) (by kernel_rfl) (fun _ _ _ h => h) (Or.inl ⟨by rfl, ?_⟩) (by assumption) ?_
  rotate_left
  · (intro w hSw; go_simp; first | done | (with_reducible rfl))
  simp only [Act.put, List.getElem_toArray, List.getElem_cons_succ, List.getElem_cons_zero, List.setIfInBounds_toArray, List.set_cons_zero, List.set_cons_succ]
  refine wpAnyH_ready (rs := [6]) (by kernel_rfl) (by simp) ?_
  refine AllReadyH.cons rfl (fun K hK => ?_) AllReadyH.nil
  go_simp
  refine (hf db _).mono ?_
  rintro e w1 ⟨rfl, hw1⟩
  subst hw1
  refine hK.out _ _ HH.out (fun hHeld => ?_)
  clear hK K
  refine wpAnyH_take (i := 7) (oi := _) (v := ?_) rfl (by kernel_rfl) (by kernel_rfl) (by kernel_rfl) (fun _ _ _ h => h) (Or.inl ⟨by rfl, ?_⟩) (by assumption) ?_
  rotate_left
  · (intro w hSw; go_simp; first | done | (with_reducible rfl))
  simp only [Act.put, List.getElem_toArray, List.getElem_cons_succ, List.getElem_cons_zero, List.setIfInBounds_toArray, List.set_cons_zero, List.set_cons_succ]
  refine wpAnyH_take (i := 8) (oi := _) (v := ?_) rfl (by kernel_rfl) (by kernel_rfl) (by kernel_rfl) (fun _ _ _ h => h) (Or.inl ⟨by rfl, ?_⟩) (by assumption) ?_
  rotate_left
  · (intro w hSw; have x1 := hSw.2.1.cellv k _ HDK.out; clear hSw; go_simp; first | done | (with_reducible rfl))
  simp only [Act.put, List.getElem_toArray, List.getElem_cons_succ, List.getElem_cons_zero, List.setIfInBounds_toArray, List.set_cons_zero, List.set_cons_succ]
  refine wpAnyH_ready (rs := [9]) (by kernel_rfl) (by simp) ?_
  refine AllReadyH.cons rfl (fun K hK => ?_) AllReadyH.nil
  go_simp
  refine (wSigned_c wb v st x 1 _ HA.out.1.o.a HA.out.2 (by have := HA.out.1.l; omega)).mono ?_
  rintro e w2 ⟨rfl, v', d2⟩
  have HD : Keep (OD w w2 ob wb v (wSig st x 1) r v') := ⟨(HA.out.1.o.did d2).ahead (gr_drew _ _)⟩
  have f2 : Fr (OF ob wb v) w.drew w2 := (HA.out.1.o.did d2).f
  refine hK.out _ _ ⟨HH.out.1.fr f2 hb, HH.out.2.1.fr f2 HA.out.1.n, HD.out.a.h⟩ (fun hHeld => ?_)
  refine wpAnyH_done (by kernel_rfl) ?_ _
  clear hK K
  go_wp2_with fail
  go_end0
  exact ⟨rfl, v', HD.out⟩
set_option maxHeartbeats 8000000 in
set_option maxRecDepth 100000 in
theorem player2_c (db ob wb : Nat) (v : Value) (D : List Value) (st : WS) (r : Bool) (x : Int) (hx : -9223372036854775808 ≤ x ∧ x < 9223372036854775808) (w : World) (h : Lay w db ob wb v D st r) (hk : D[6]? = some (.int .i64 x)) :
    Calls Tryz.prog 147 #[pv db, pv ob] w fun e w' => e = .returned (.tuple #[]) ∧ ∃ v', OD w w' ob wb v (wNum st (u64 x) 1) r v' := by
  have HA : Keep (Lay w.drew db ob wb v D st r ∧ -9223372036854775808 ≤ x ∧ x < 9223372036854775808) := ⟨h.drew, hx⟩
  have HH : Keep (Has w.drew db D 34 ∧ Has w.drew ob [pv wb, .bool r] 174) := ⟨h.drew.d, h.drew.o.h⟩
  have HDK : Keep (D[6]? = some (.int .i64 x)) := ⟨hk⟩
  clear h hk
  have hu : IntKind.u64.wrap x = (u64 x : Nat) := by rw [wu]; unfold u64; omega
  go_enter Tryz.func147, Tryz.ntmps147
  go_wp2_with fail
  refine wp_region_held_drew (S := fun w' => Has w' db D 34 ∧ Has w' ob [pv wb, .bool r] 174) (by kernel_rfl) HH.out (fun hHeld => ?_)
  refine wpAnyH_take (i := 0) (oi := _) (v := ?_) rfl (by kernel_rfl) (by kernel_rfl) (by kernel_rfl) (fun _ _ _ h => h) (Or.inl ⟨by rfl, ?_⟩) (by assumption) ?_
  rotate_left
  · (intro w hSw; go_simp; first | done | (with_reducible rfl))
  simp only [Act.put, List.getElem_toArray, List.getElem_cons_zero, List.setIfInBounds_toArray, List.set_cons_zero, List.set_cons_succ]
  refine wpAnyH_take (i := 1) (oi := _) (v := ?_) rfl (by kernel_rfl) (by kernel_rfl) (by kernel_rfl) (fun _ _ _ h => h) (Or.inl ⟨by rfl, ?_⟩) (by assumption) ?_
  rotate_left
  · (intro w hSw; go_simp; first | done | (with_reducible rfl))
  simp only [Act.put, List.getElem_toArray, List.getElem_cons_succ, List.getElem_cons_zero, List.setIfInBounds_toArray, List.set_cons_zero, List.set_cons_succ]
  refine wpAnyH_take (i := 2) (oi := _) (v := ?_) rfl (by kernel_rfl) (by kernel_rfl) (by kernel_rfl) (fun _ _ _ h => h) (Or.inl ⟨by rfl, ?_⟩) (by assumption) ?_
  rotate_left
  · (intro w hSw; go_simp; first | done | (with_reducible rfl))
  simp only [Act.put, List.getElem_toArray, List.getElem_cons_succ, List.getElem_cons_zero, List.setIfInBounds_toArray, List.set_cons_zero, List.set_cons_succ]
  refine wpAnyH_take (i := 3) (oi := _) (v := ?_) rfl (by kernel_rfl) (by kernel_rfl) (by kernel_rfl) (fun _ _ _ h => h) (Or.inl ⟨by rfl, ?_⟩) (by assumption) ?_
  rotate_left
  · (intro w hSw; have x1 := hSw.2.cellv 0 _ rfl; clear hSw; go_simp; first | done | (with_reducible rfl))
  simp only [Act.put, List.getElem_toArray, List.getElem_cons_succ, List.getElem_cons_zero, List.setIfInBounds_toArray, List.set_cons_zero, List.set_cons_succ]
  refine wpAnyH_take (i := 4) (oi := _) (v := ?_) rfl (by kernel_rfl) (by kernel_rfl) (by kernel_rfl) (fun _ _ _ h => h) (Or.inl ⟨by rfl, ?_⟩) (by assumption) ?_
  rotate_left
  · (intro w hSw; go_simp; first | done | (with_reducible rfl))
  simp only [Act.put, List.getElem_toArray, List.getElem_cons_succ, List.getElem_cons_zero, List.setIfInBounds_toArray, List.set_cons_zero, List.set_cons_succ]
  refine wpAnyH_take (i := 5) (oi := _) (v := ?_) rfl (by kernel_rfl) (by kernel_rfl) (by kernel_rfl) (fun _ _ _ h => h) (Or.inl ⟨by rfl, ?_⟩) (by assumption) ?_
  rotate_left
  · (intro w hSw; go_simp; first | done | (with_reducible rfl))
  simp only [Act.put, List.getElem_toArray, List.getElem_cons_succ, List.getElem_cons_zero, List.setIfInBounds_toArray, List.set_cons_zero, List.set_cons_succ]
  refine wpAnyH_take (i := 6) (oi := _) (v := ?_) rfl (by kernel_rfl) (by kernel_rfl) (by kernel_rfl) (fun _ _ _ h => h) (Or.inl ⟨by rfl, ?_⟩) (by assumption) ?_
  rotate_left
  · (intro w hSw; go_simp; first | done | (with_reducible rfl))
  simp only [Act.put, List.getElem_toArray, List.getElem_cons_succ, List.getElem_cons_zero, List.setIfInBounds_toArray, List.set_cons_zero, List.set_cons_succ]
  refine wpAnyH_take (i := 7) (oi := _) (v := ?_) rfl (by kernel_rfl) (by kernel_rfl) (by kernel_rfl) (fun _ _ _ h => h) (Or.inl ⟨by rfl, ?_⟩) (by assumption) ?_
  rotate_left
  · (intro w hSw; have x1 := hSw.1.cellv 6 _ HDK.out; clear hSw; go_simp; first | done | (with_reducible rfl))
  simp only [Act.put, List.getElem_toArray, List.getElem_cons_succ, List.getElem_cons_zero, List.setIfInBounds_toArray, List.set_cons_zero, List.set_cons_succ]
  refine wpAnyH_take (i := 8) (oi := _) (v := ?_) rfl (by kernel_rfl) (by kernel_rfl) (by kernel_rfl) (fun _ _ _ h => h) (Or.inl ⟨by rfl, ?_⟩) (by assumption) ?_
  rotate_left
  · (intro w hSw; go_simp; first | done | (with_reducible rfl))
  simp only [Act.put, List.getElem_toArray, List.getElem_cons_succ, List.getElem_cons_zero, List.setIfInBounds_toArray, List.set_cons_zero, List.set_cons_succ]
  refine wpAnyH_ready (rs := [9]) (by kernel_rfl) (by simp) ?_
  refine AllReadyH.cons rfl (fun K hK => ?_) AllReadyH.nil
  go_simp
  refine (wNumber_c wb v st (u64 x) 1 _ HA.out.1.o.a (u64_lt x) (by have := HA.out.1.l; omega)).mono ?_
  rintro e w2 ⟨rfl, v', d2⟩
  have HD : Keep (OD w w2 ob wb v (wNum st (u64 x) 1) r v') := ⟨(HA.out.1.o.did d2).ahead (gr_drew _ _)⟩
  have f2 : Fr (OF ob wb v) w.drew w2 := (HA.out.1.o.did d2).f
  refine hK.out _ _ ⟨HH.out.1.fr f2 HA.out.1.n, HD.out.a.h⟩ (fun hHeld => ?_)
  refine wpAnyH_done (by kernel_rfl) ?_ _
  clear hK K
  go_wp2_with fail
  go_end0
  exact ⟨rfl, v', HD.out⟩
set_option maxHeartbeats 8000000 in
set_option maxRecDepth 100000 in
theorem name2_c (db ob wb : Nat) (v : Value) (D : List Value) (st : WS) (r : Bool) (x : ByteArray) (hx : x.size ≤ 1099511627776) (w : World) (h : Lay w db ob wb v D st r) (hk : D[4]? = some (.string x)) :
    Calls Tryz.prog 141 #[pv db, pv ob] w fun e w' => e = .returned (.tuple #[]) ∧ ∃ v', OD w w' ob wb v (wText st (sl x)) r v' := by
  have HA : Keep (Lay w.drew db ob wb v D st r ∧ x.size ≤ 1099511627776) := ⟨h.drew, hx⟩
  have HH : Keep (Has w.drew db D 34 ∧ Has w.drew ob [pv wb, .bool r] 174) := ⟨h.drew.d, h.drew.o.h⟩
  have HDK : Keep (D[4]? = some (.string x)) := ⟨hk⟩
  clear h hx hk
  go_enter Tryz.func141, Tryz.ntmps141
  go_wp2_with fail
  refine wp_region_held_drew (S := fun w' => Has w' db D 34 ∧ Has w' ob [pv wb, .bool r] 174) (by kernel_rfl) HH.out (fun hHeld => ?_)
  refine wpAnyH_take (i := 0) (oi := _) (v := ?_) rfl (by kernel_rfl) (by kernel_rfl) (by kernel_rfl) (fun _ _ _ h => h) (Or.inl ⟨by rfl, ?_⟩) (by assumption) ?_
  rotate_left
  · (intro w hSw; go_simp; first | done | (with_reducible rfl))
  simp only [Act.put, List.getElem_toArray, List.getElem_cons_zero, List.setIfInBounds_toArray, List.set_cons_zero, List.set_cons_succ]
  refine wpAnyH_take (i := 1) (oi := _) (v := ?_) rfl (by kernel_rfl) (by kernel_rfl) (by kernel_rfl) (fun _ _ _ h => h) (Or.inl ⟨by rfl, ?_⟩) (by assumption) ?_
  rotate_left
  · (intro w hSw; go_simp; first | done | (with_reducible rfl))
  simp only [Act.put, List.getElem_toArray, List.getElem_cons_succ, List.getElem_cons_zero, List.setIfInBounds_toArray, List.set_cons_zero, List.set_cons_succ]
  refine wpAnyH_take (i := 2) (oi := _) (v := ?_) rfl (by kernel_rfl) (by kernel_rfl) (by kernel_rfl) (fun _ _ _ h => h) (Or.inl ⟨by rfl, ?_⟩) (by assumption) ?_
  rotate_left
  · (intro w hSw; go_simp; first | done | (with_reducible rfl))
  simp only [Act.put, List.getElem_toArray, List.getElem_cons_succ, List.getElem_cons_zero, List.setIfInBounds_toArray, List.set_cons_zero, List.set_cons_succ]
  refine wpAnyH_take (i := 3) (oi := _) (v := ?_) rfl (by kernel_rfl) (by kernel_rfl) (by kernel_rfl) (fun _ _ _ h => h) (Or.inl ⟨by rfl, ?_⟩) (by assumption) ?_
  rotate_left
  · (intro w hSw; have x1 := hSw.2.cellv 0 _ rfl; clear hSw; go_simp; first | done | (with_reducible rfl))
  simp only [Act.put, List.getElem_toArray, List.getElem_cons_succ, List.getElem_cons_zero, List.setIfInBounds_toArray, List.set_cons_zero, List.set_cons_succ]
  refine wpAnyH_take (i := 4) (oi := _) (v := ?_) rfl (by kernel_rfl) (by kernel_rfl) (by kernel_rfl) (fun _ _ _ h => h) (Or.inl ⟨by rfl, ?_⟩) (by assumption) ?_
  rotate_left
  · (intro w hSw; go_simp; first | done | (with_reducible rfl))
  simp only [Act.put, List.getElem_toArray, List.getElem_cons_succ, List.getElem_cons_zero, List.setIfInBounds_toArray, List.set_cons_zero, List.set_cons_succ]
  refine wpAnyH_take (i := 5) (oi := _) (v := ?_) rfl (by kernel_rfl) (by kernel_rfl) (by kernel_rfl) (fun _ _ _ h => h) (Or.inl ⟨by rfl, ?_⟩) (by assumption) ?_
  rotate_left
  · (intro w hSw; go_simp; first | done | (with_reducible rfl))
  simp only [Act.put, List.getElem_toArray, List.getElem_cons_succ, List.getElem_cons_zero, List.setIfInBounds_toArray, List.set_cons_zero, List.set_cons_succ]
  refine wpAnyH_take (i := 6) (oi := _) (v := ?_) rfl (by kernel_rfl) (by kernel_rfl) (by kernel_rfl) (fun _ _ _ h => h) (Or.inl ⟨by rfl, ?_⟩) (by assumption) ?_
  rotate_left
  · (intro w hSw; go_simp; first | done | (with_reducible rfl))
  simp only [Act.put, List.getElem_toArray, List.getElem_cons_succ, List.getElem_cons_zero, List.setIfInBounds_toArray, List.set_cons_zero, List.set_cons_succ]
  refine wpAnyH_take (i := 7) (oi := _) (v := ?_) rfl (by kernel_rfl) (by kernel_rfl) (by kernel_rfl) (fun _ _ _ h => h) (Or.inl ⟨by rfl, ?_⟩) (by assumption) ?_
  rotate_left
  · (intro w hSw; have x1 := hSw.1.cellv 4 _ HDK.out; clear hSw; go_simp; first | done | (with_reducible rfl))
  simp only [Act.put, List.getElem_toArray, List.getElem_cons_succ, List.getElem_cons_zero, List.setIfInBounds_toArray, List.set_cons_zero, List.set_cons_succ]
  refine wpAnyH_ready (rs := [8]) (by kernel_rfl) (by simp) ?_
  refine AllReadyH.cons rfl (fun K hK => ?_) AllReadyH.nil
  go_simp
  refine (wText_c wb v st x _ HA.out.1.o.a (by have := HA.out.1.l; have := HA.out.2; omega)).mono ?_
  rintro e w2 ⟨rfl, v', d2⟩
  have HD : Keep (OD w w2 ob wb v (wText st (sl x)) r v') := ⟨(HA.out.1.o.did d2).ahead (gr_drew _ _)⟩
  have f2 : Fr (OF ob wb v) w.drew w2 := (HA.out.1.o.did d2).f
  refine hK.out _ _ ⟨HH.out.1.fr f2 HA.out.1.n, HD.out.a.h⟩ (fun hHeld => ?_)
  refine wpAnyH_done (by kernel_rfl) ?_ _
  clear hK K
  go_wp2_with fail
  go_end0
  exact ⟨rfl, v', HD.out⟩
set_option maxHeartbeats 8000000 in
set_option maxRecDepth 100000 in
theorem view2_c (db ob wb : Nat) (v : Value) (D : List Value) (st : WS) (r : Bool) (x : ByteArray) (hx : x.size ≤ 1099511627776) (w : World) (h : Lay w db ob wb v D st r) (hk : D[13]? = some (.string x)) :
    Calls Tryz.prog 158 #[pv db, pv ob] w fun e w' => e = .returned (.tuple #[]) ∧ ∃ v', OD w w' ob wb v (wBytes st (sl x)) r v' := by
  have HA : Keep (Lay w.drew db ob wb v D st r ∧ x.size ≤ 1099511627776) := ⟨h.drew, hx⟩
  have HH : Keep (Has w.drew db D 34 ∧ Has w.drew ob [pv wb, .bool r] 174) := ⟨h.drew.d, h.drew.o.h⟩
  have HDK : Keep (D[13]? = some (.string x)) := ⟨hk⟩
  clear h hx hk
  go_enter Tryz.func158, Tryz.ntmps158
  go_wp2_with fail
  refine wp_region_held_drew (S := fun w' => Has w' db D 34 ∧ Has w' ob [pv wb, .bool r] 174) (by kernel_rfl) HH.out (fun hHeld => ?_)
  refine wpAnyH_take (i := 0) (oi := _) (v := ?_) rfl (by kernel_rfl) (by kernel_rfl) (by kernel_rfl) (fun _ _ _ h => h) (Or.inl ⟨by rfl, ?_⟩) (by assumption) ?_
  rotate_left
  · (intro w hSw; go_simp; first | done | (with_reducible rfl))
  simp only [Act.put, List.getElem_toArray, List.getElem_cons_zero, List.setIfInBounds_toArray, List.set_cons_zero, List.set_cons_succ]
  refine wpAnyH_take (i := 1) (oi := _) (v := ?_) rfl (by kernel_rfl) (by kernel_rfl) (by kernel_rfl) (fun _ _ _ h => h) (Or.inl ⟨by rfl, ?_⟩) (by assumption) ?_
  rotate_left
  · (intro w hSw; go_simp; first | done | (with_reducible rfl))
  simp only [Act.put, List.getElem_toArray, List.getElem_cons_succ, List.getElem_cons_zero, List.setIfInBounds_toArray, List.set_cons_zero, List.set_cons_succ]
  refine wpAnyH_take (i := 2) (oi := _) (v := ?_) rfl (by kernel_rfl) (by kernel_rfl) (by kernel_rfl) (fun _ _ _ h => h) (Or.inl ⟨by rfl, ?_⟩) (by assumption) ?_
  rotate_left
  · (intro w hSw; go_simp; first | done | (with_reducible rfl))
  simp only [Act.put, List.getElem_toArray, List.getElem_cons_succ, List.getElem_cons_zero, List.setIfInBounds_toArray, List.set_cons_zero, List.set_cons_succ]
  refine wpAnyH_take (i := 3) (oi := _) (v := ?_) rfl (by kernel_rfl) (by kernel_rfl) (by kernel_rfl) (fun _ _ _ h => h) (Or.inl ⟨by rfl, ?_⟩) (by assumption) ?_
  rotate_left
  · (intro w hSw; have x1 := hSw.2.cellv 0 _ rfl; clear hSw; go_simp; first | done | (with_reducible rfl))
  simp only [Act.put, List.getElem_toArray, List.getElem_cons_succ, List.getElem_cons_zero, List.setIfInBounds_toArray, List.set_cons_zero, List.set_cons_succ]
  refine wpAnyH_take (i := 4) (oi := _) (v := ?_) rfl (by kernel_rfl) (by kernel_rfl) (by kernel_rfl) (fun _ _ _ h => h) (Or.inl ⟨by rfl, ?_⟩) (by assumption) ?_
  rotate_left
  · (intro w hSw; go_simp; first | done | (with_reducible rfl))
  simp only [Act.put, List.getElem_toArray, List.getElem_cons_succ, List.getElem_cons_zero, List.setIfInBounds_toArray, List.set_cons_zero, List.set_cons_succ]
  refine wpAnyH_take (i := 5) (oi := _) (v := ?_) rfl (by kernel_rfl) (by kernel_rfl) (by kernel_rfl) (fun _ _ _ h => h) (Or.inl ⟨by rfl, ?_⟩) (by assumption) ?_
  rotate_left
  · (intro w hSw; go_simp; first | done | (with_reducible rfl))
  simp only [Act.put, List.getElem_toArray, List.getElem_cons_succ, List.getElem_cons_zero, List.setIfInBounds_toArray, List.set_cons_zero, List.set_cons_succ]
  refine wpAnyH_take (i := 6) (oi := _) (v := ?_) rfl (by kernel_rfl) (by kernel_rfl) (by kernel_rfl) (fun _ _ _ h => h) (Or.inl ⟨by rfl, ?_⟩) (by assumption) ?_
  rotate_left
  · (intro w hSw; go_simp; first | done | (with_reducible rfl))
  simp only [Act.put, List.getElem_toArray, List.getElem_cons_succ, List.getElem_cons_zero, List.setIfInBounds_toArray, List.set_cons_zero, List.set_cons_succ]
  refine wpAnyH_take (i := 7) (oi := _) (v := ?_) rfl (by kernel_rfl) (by kernel_rfl) (by kernel_rfl) (fun _ _ _ h => h) (Or.inl ⟨by rfl, ?_⟩) (by assumption) ?_
  rotate_left
  · (intro w hSw; have x1 := hSw.1.cellv 13 _ HDK.out; clear hSw; go_simp; first | done | (with_reducible rfl))
  simp only [Act.put, List.getElem_toArray, List.getElem_cons_succ, List.getElem_cons_zero, List.setIfInBounds_toArray, List.set_cons_zero, List.set_cons_succ]
  refine wpAnyH_ready (rs := [8]) (by kernel_rfl) (by simp) ?_
  refine AllReadyH.cons rfl (fun K hK => ?_) AllReadyH.nil
  go_simp
  refine (wBytes_c wb v st x _ HA.out.1.o.a (by have := HA.out.1.l; have := HA.out.2; omega)).mono ?_
  rintro e w2 ⟨rfl, v', d2⟩
  have HD : Keep (OD w w2 ob wb v (wBytes st (sl x)) r v') := ⟨(HA.out.1.o.did d2).ahead (gr_drew _ _)⟩
  have f2 : Fr (OF ob wb v) w.drew w2 := (HA.out.1.o.did d2).f
  refine hK.out _ _ ⟨HH.out.1.fr f2 HA.out.1.n, HD.out.a.h⟩ (fun hHeld => ?_)
  refine wpAnyH_done (by kernel_rfl) ?_ _
  clear hK K
  go_wp2_with fail
  go_end0
  exact ⟨rfl, v', HD.out⟩
end Go.Proofs.YtldnpebnpbahjaaGreatDoor.Pk
