/- vec: minus, Add, Scale, Cap: regions that draw their order, each with two calls. -/
import Derived.Test.YtmacmoikjgmaoaaDoorV1
namespace Go.Proofs.YtmacmoikjgmaoaaDoor
open Go Go.RowKit

set_option maxRecDepth 100000 in
theorem size_alloc (w : World) (o : Obj) : (w.alloc o).heap.size = w.heap.size + 1 := by show (w.heap.push o).size = _; rw [Array.size_push]
set_option maxRecDepth 100000 in
theorem boxes3 (w : World) (A B Z : Array Value) (t u v : TypeId) : Has (((w.alloc (.cells A t)).alloc (.cells B u)).alloc (.cells Z v)) w.heap.size A.toList t ∧ Has (((w.alloc (.cells A t)).alloc (.cells B u)).alloc (.cells Z v)) (w.heap.size + 1) B.toList u ∧ Has (((w.alloc (.cells A t)).alloc (.cells B u)).alloc (.cells Z v)) (w.heap.size + 1 + 1) Z.toList v ∧ w.grownBy (((w.alloc (.cells A t)).alloc (.cells B u)).alloc (.cells Z v)) none := by
  refine ⟨((Has.newA w A t).alloc _).alloc _, ?_, ?_, ((gr_alloc _ _ _).trans (gr_alloc _ _ _)).trans (gr_alloc _ _ _)⟩
  · have h := (Has.newA (w.alloc (.cells A t)) B u).alloc (.cells Z v)
    rwa [size_alloc] at h
  · have h := Has.newA ((w.alloc (.cells A t)).alloc (.cells B u)) Z v
    rwa [size_alloc, size_alloc] at h
set_option maxRecDepth 100000 in
theorem boxes2 (w : World) (A Z : Array Value) (t v : TypeId) : Has ((w.alloc (.cells A t)).alloc (.cells Z v)) w.heap.size A.toList t ∧ Has ((w.alloc (.cells A t)).alloc (.cells Z v)) (w.heap.size + 1) Z.toList v ∧ w.grownBy ((w.alloc (.cells A t)).alloc (.cells Z v)) none := by
  refine ⟨(Has.newA w A t).alloc _, ?_, (gr_alloc _ _ _).trans (gr_alloc _ _ _)⟩
  have h := Has.newA (w.alloc (.cells A t)) Z v
  rwa [size_alloc] at h
set_option maxRecDepth 100000 in
theorem underVc : ∃ d, Tryd.prog.underlying 24 = some d ∧ d.isRow = true := ⟨_, Tryd.underlying24, rfl⟩
set_option maxRecDepth 100000 in
theorem infoVc : (Tryd.prog.info? 24).map (·.size) = some 2 := by kernel_rfl

set_option maxRecDepth 100000 in
set_option maxHeartbeats 4000000 in
theorem minus_c (ax ay bx by' m : Int) (h1 : In ax) (h2 : In ay) (h3 : In bx) (h4 : In by') (hm : 0 ≤ m ∧ m ≤ 9223372036854775807) (w : World) :
    Calls Tryd.prog 54 #[vv ax ay, vv bx by', .int .i64 m] w fun e w' => e = .returned (vv (lz ax bx m) (lz ay by' m)) ∧ w.grownBy w' none := by
  have HC : Keep ((∀ w, Calls Tryd.prog 64 #[.int .i64 ax, .int .i64 bx, .int .i64 m] w fun e w' => e = .returned (.int .i64 (lz ax bx m)) ∧ w' = w) ∧ (∀ w, Calls Tryd.prog 64 #[.int .i64 ay, .int .i64 by', .int .i64 m] w fun e w' => e = .returned (.int .i64 (lz ay by' m)) ∧ w' = w)) := ⟨fun w => less_c _ _ _ h1 h3 hm w, fun w => less_c _ _ _ h2 h4 hm w⟩
  clear h1 h2 h3 h4 hm
  generalize lz ax bx m = u at *
  generalize lz ay by' m = v at *
  have HB := Keep.mk (boxes3 w #[.int .i64 ax, .int .i64 ay] #[.int .i64 bx, .int .i64 by'] #[.int .i64 0, .int .i64 0] 24 24 24)
  go_enter Tryd.func54, Tryd.ntmps54
  go_wp2_with fail
  generalize hW : ((w.alloc (.cells #[.int .i64 ax, .int .i64 ay] 24)).alloc (.cells #[.int .i64 bx, .int .i64 by'] 24)).alloc (.cells #[.int .i64 0, .int .i64 0] 24) = W at HB ⊢
  obtain ⟨xb, hxb⟩ : ∃ xb, w.heap.size = xb := ⟨_, rfl⟩
  obtain ⟨yb, hyb⟩ : ∃ yb, xb + 1 = yb := ⟨_, rfl⟩
  obtain ⟨rb, hrb⟩ : ∃ rb, yb + 1 = rb := ⟨_, rfl⟩
  have HL : Keep (w.heap.size ≤ rb) := ⟨by omega⟩
  have HN : Keep (rb ≠ xb ∧ rb ≠ yb) := ⟨by omega, by omega⟩
  rw [hxb, hyb, hrb] at HB ⊢
  clear hxb hyb hrb hW
  refine wp_region_held_drew (S := fun w' => w'.cell? ⟨xb, 0, none⟩ = some (.int .i64 ax) ∧ w'.cell? ⟨xb, 1, none⟩ = some (.int .i64 ay) ∧ w'.cell? ⟨yb, 0, none⟩ = some (.int .i64 bx) ∧ w'.cell? ⟨yb, 1, none⟩ = some (.int .i64 by')) (by kernel_rfl) ⟨HB.out.1.cellv 0 _ rfl, HB.out.1.cellv 1 _ rfl, HB.out.2.1.cellv 0 _ rfl, HB.out.2.1.cellv 1 _ rfl⟩ (fun hHeld => ?_)
  refine wpAnyH_take (i := 0) (oi := _) (v := ?_) rfl (by kernel_rfl) (by kernel_rfl) (by kernel_rfl) (fun _ _ _ h => h) (Or.inl ⟨by rfl, ?_⟩) (by assumption) ?_
  rotate_left
  · (intro w hSw; go_simp; first | done | (with_reducible rfl))
  simp only [Act.put, List.getElem_toArray, List.getElem_cons_zero, List.setIfInBounds_toArray, List.set_cons_zero, List.set_cons_succ]
  refine wpAnyH_take (i := 1) (oi := _) (v := ?_) rfl (by kernel_rfl) (by kernel_rfl) (by kernel_rfl) (fun _ _ _ h => h) (Or.inl ⟨by rfl, ?_⟩) (by assumption) ?_
  rotate_left
  · (intro w hSw; obtain ⟨q1, q2, q3, q4⟩ := hSw; go_simp; first | done | (with_reducible rfl))
  simp only [Act.put, List.getElem_toArray, List.getElem_cons_succ, List.getElem_cons_zero, List.setIfInBounds_toArray, List.set_cons_zero, List.set_cons_succ]
  refine wpAnyH_take (i := 2) (oi := _) (v := ?_) rfl (by kernel_rfl) (by kernel_rfl) (by kernel_rfl) (fun _ _ _ h => h) (Or.inl ⟨by rfl, ?_⟩) (by assumption) ?_
  rotate_left
  · (intro w hSw; go_simp; first | done | (with_reducible rfl))
  simp only [Act.put, List.getElem_toArray, List.getElem_cons_succ, List.getElem_cons_zero, List.setIfInBounds_toArray, List.set_cons_zero, List.set_cons_succ]
  refine wpAnyH_take (i := 3) (oi := _) (v := ?_) rfl (by kernel_rfl) (by kernel_rfl) (by kernel_rfl) (fun _ _ _ h => h) (Or.inl ⟨by rfl, ?_⟩) (by assumption) ?_
  rotate_left
  · (intro w hSw; obtain ⟨q1, q2, q3, q4⟩ := hSw; go_simp; first | done | (with_reducible rfl))
  simp only [Act.put, List.getElem_toArray, List.getElem_cons_succ, List.getElem_cons_zero, List.setIfInBounds_toArray, List.set_cons_zero, List.set_cons_succ]
  refine wpAnyH_take (i := 4) (oi := _) (v := ?_) rfl (by kernel_rfl) (by kernel_rfl) (by kernel_rfl) (fun _ _ _ h => h) (Or.inl ⟨by rfl, ?_⟩) (by assumption) ?_
  rotate_left
  · (intro w hSw; go_simp; first | done | (with_reducible rfl))
  simp only [Act.put, List.getElem_toArray, List.getElem_cons_succ, List.getElem_cons_zero, List.setIfInBounds_toArray, List.set_cons_zero, List.set_cons_succ]
  refine wpAnyH_take (i := 6) (oi := _) (v := ?_) rfl (by kernel_rfl) (by kernel_rfl) (by kernel_rfl) (fun _ _ _ h => h) (Or.inl ⟨by rfl, ?_⟩) (by assumption) ?_
  rotate_left
  · (intro w hSw; go_simp; first | done | (with_reducible rfl))
  simp only [Act.put, List.getElem_toArray, List.getElem_cons_succ, List.getElem_cons_zero, List.setIfInBounds_toArray, List.set_cons_zero, List.set_cons_succ]
  refine wpAnyH_take (i := 7) (oi := _) (v := ?_) rfl (by kernel_rfl) (by kernel_rfl) (by kernel_rfl) (fun _ _ _ h => h) (Or.inl ⟨by rfl, ?_⟩) (by assumption) ?_
  rotate_left
  · (intro w hSw; obtain ⟨q1, q2, q3, q4⟩ := hSw; go_simp; first | done | (with_reducible rfl))
  simp only [Act.put, List.getElem_toArray, List.getElem_cons_succ, List.getElem_cons_zero, List.setIfInBounds_toArray, List.set_cons_zero, List.set_cons_succ]
  refine wpAnyH_take (i := 8) (oi := _) (v := ?_) rfl (by kernel_rfl) (by kernel_rfl) (by kernel_rfl) (fun _ _ _ h => h) (Or.inl ⟨by rfl, ?_⟩) (by assumption) ?_
  rotate_left
  · (intro w hSw; go_simp; first | done | (with_reducible rfl))
  simp only [Act.put, List.getElem_toArray, List.getElem_cons_succ, List.getElem_cons_zero, List.setIfInBounds_toArray, List.set_cons_zero, List.set_cons_succ]
  refine wpAnyH_take (i := 9) (oi := _) (v := ?_) rfl (by kernel_rfl) (by kernel_rfl) (by kernel_rfl) (fun _ _ _ h => h) (Or.inl ⟨by rfl, ?_⟩) (by assumption) ?_
  rotate_left
  · (intro w hSw; obtain ⟨q1, q2, q3, q4⟩ := hSw; go_simp; first | done | (with_reducible rfl))
  simp only [Act.put, List.getElem_toArray, List.getElem_cons_succ, List.getElem_cons_zero, List.setIfInBounds_toArray, List.set_cons_zero, List.set_cons_succ]
  refine wpAnyH_take (i := 10) (oi := _) (v := ?_) rfl (by kernel_rfl) (by kernel_rfl) (by kernel_rfl) (fun _ _ _ h => h) (Or.inl ⟨by rfl, ?_⟩) (by assumption) ?_
  rotate_left
  · (intro w hSw; go_simp; first | done | (with_reducible rfl))
  simp only [Act.put, List.getElem_toArray, List.getElem_cons_succ, List.getElem_cons_zero, List.setIfInBounds_toArray, List.set_cons_zero, List.set_cons_succ]
  refine wpAnyH_call (i := 5) (oi := _) (v := .int .i64 u) rfl (by kernel_rfl) (by kernel_rfl) (by kernel_rfl) (fun _ _ _ h => h) ⟨by rfl, 64, #[.int .i64 ax, .int .i64 bx, .int .i64 m], fun w => ?_, fun w hSw => HC.out.1 w⟩ (by assumption) ?_
  · (go_simp; first | done | (with_reducible rfl))
  simp only [Act.put, List.getElem_toArray, List.getElem_cons_succ, List.getElem_cons_zero, List.setIfInBounds_toArray, List.set_cons_zero, List.set_cons_succ]
  refine wpAnyH_call (i := 11) (oi := _) (v := .int .i64 v) rfl (by kernel_rfl) (by kernel_rfl) (by kernel_rfl) (fun _ _ _ h => h) ⟨by rfl, 64, #[.int .i64 ay, .int .i64 by', .int .i64 m], fun w => ?_, fun w hSw => HC.out.2 w⟩ (by assumption) ?_
  · (go_simp; first | done | (with_reducible rfl))
  simp only [Act.put, List.getElem_toArray, List.getElem_cons_succ, List.getElem_cons_zero, List.setIfInBounds_toArray, List.set_cons_zero, List.set_cons_succ]
  refine wpAnyH_take (i := 12) (oi := _) (v := ?_) rfl (by kernel_rfl) (by kernel_rfl) (by kernel_rfl) (fun _ _ _ h => h) (Or.inl ⟨by rfl, ?_⟩) (by assumption) ?_
  rotate_left
  · (intro w hSw; go_simp; first | done | (with_reducible rfl))
  simp only [Act.put, List.getElem_toArray, List.getElem_cons_succ, List.getElem_cons_zero, List.setIfInBounds_toArray, List.set_cons_zero, List.set_cons_succ]
  refine wpAnyH_ready (rs := [13]) (by kernel_rfl) (by simp) ?_
  refine AllReadyH.cons rfl (fun K hK => ?_) AllReadyH.nil
  have x0 := HB.out.2.2.1.cellv 0 _ rfl
  have x1 := HB.out.2.2.1.cellv 1 _ rfl
  have y0 := HB.out.2.2.1.frozen 0
  have y1 := HB.out.2.2.1.frozen 1
  go_simp
  clear x0 x1 y0 y1
  have H0 : Has ((W.setCell ⟨rb, 0, none⟩ (.int .i64 u)).setCell ⟨rb, 1, none⟩ (.int .i64 v)).drew rb [.int .i64 u, .int .i64 v] 24 := (HB.out.2.2.1.setCell 0 _).setCell 1 _
  have HR := Keep.mk (And.intro H0 (gr_new HB.out.2.2.2 ((gr_set W rb 0 (.int .i64 u)).trans ((gr_set _ rb 1 (.int .i64 v)).trans (gr_drew _ _))) HL.out))
  clear H0
  refine hK.out _ _ ⟨((HB.out.1.other ⟨rb, 0, none⟩ _ HN.out.1).other ⟨rb, 1, none⟩ _ HN.out.1).cellv 0 _ rfl, ((HB.out.1.other ⟨rb, 0, none⟩ _ HN.out.1).other ⟨rb, 1, none⟩ _ HN.out.1).cellv 1 _ rfl, ((HB.out.2.1.other ⟨rb, 0, none⟩ _ HN.out.2).other ⟨rb, 1, none⟩ _ HN.out.2).cellv 0 _ rfl, ((HB.out.2.1.other ⟨rb, 0, none⟩ _ HN.out.2).other ⟨rb, 1, none⟩ _ HN.out.2).cellv 1 _ rfl⟩ (fun hHeld => ?_)
  clear hK K hHeld
  generalize ((W.setCell ⟨rb, 0, none⟩ (.int .i64 u)).setCell ⟨rb, 1, none⟩ (.int .i64 v)).drew = W' at HR ⊢
  refine wpAnyH_done (by kernel_rfl) ?_ _
  go_wp2_with fail
  obtain ⟨du, hdu, hdr⟩ := underVc
  exact ret_cell rfl rfl HR.out.1 hdu hdr infoVc rfl ⟨rfl, HR.out.2⟩
set_option maxRecDepth 100000 in
set_option maxHeartbeats 4000000 in
theorem vadd_c (ax ay bx by' : Int) (h1 : In ax) (h2 : In ay) (h3 : In bx) (h4 : In by') (w : World) :
    Calls Tryd.prog 12 #[vv ax ay, vv bx by'] w fun e w' => e = .returned (vv (addZ ax bx) (addZ ay by')) ∧ w.grownBy w' none := by
  have HC : Keep ((∀ w, Calls Tryd.prog 29 #[.int .i64 ax, .int .i64 bx] w fun e w' => e = .returned (.int .i64 (addZ ax bx)) ∧ w' = w) ∧ (∀ w, Calls Tryd.prog 29 #[.int .i64 ay, .int .i64 by'] w fun e w' => e = .returned (.int .i64 (addZ ay by')) ∧ w' = w)) := ⟨fun w => add_c _ _ h1 h3 w, fun w => add_c _ _ h2 h4 w⟩
  clear h1 h2 h3 h4
  generalize addZ ax bx = u at *
  generalize addZ ay by' = v at *
  have HB := Keep.mk (boxes3 w #[.int .i64 ax, .int .i64 ay] #[.int .i64 bx, .int .i64 by'] #[.int .i64 0, .int .i64 0] 24 24 24)
  go_enter Tryd.func12, Tryd.ntmps12
  go_wp2_with fail
  generalize hW : ((w.alloc (.cells #[.int .i64 ax, .int .i64 ay] 24)).alloc (.cells #[.int .i64 bx, .int .i64 by'] 24)).alloc (.cells #[.int .i64 0, .int .i64 0] 24) = W at HB ⊢
  obtain ⟨xb, hxb⟩ : ∃ xb, w.heap.size = xb := ⟨_, rfl⟩
  obtain ⟨yb, hyb⟩ : ∃ yb, xb + 1 = yb := ⟨_, rfl⟩
  obtain ⟨rb, hrb⟩ : ∃ rb, yb + 1 = rb := ⟨_, rfl⟩
  have HL : Keep (w.heap.size ≤ rb) := ⟨by omega⟩
  have HN : Keep (rb ≠ xb ∧ rb ≠ yb) := ⟨by omega, by omega⟩
  rw [hxb, hyb, hrb] at HB ⊢
  clear hxb hyb hrb hW
  refine wp_region_held_drew (S := fun w' => w'.cell? ⟨xb, 0, none⟩ = some (.int .i64 ax) ∧ w'.cell? ⟨xb, 1, none⟩ = some (.int .i64 ay) ∧ w'.cell? ⟨yb, 0, none⟩ = some (.int .i64 bx) ∧ w'.cell? ⟨yb, 1, none⟩ = some (.int .i64 by')) (by kernel_rfl) ⟨HB.out.1.cellv 0 _ rfl, HB.out.1.cellv 1 _ rfl, HB.out.2.1.cellv 0 _ rfl, HB.out.2.1.cellv 1 _ rfl⟩ (fun hHeld => ?_)
  refine wpAnyH_take (i := 0) (oi := _) (v := ?_) rfl (by kernel_rfl) (by kernel_rfl) (by kernel_rfl) (fun _ _ _ h => h) (Or.inl ⟨by rfl, ?_⟩) (by assumption) ?_
  rotate_left
  · (intro w hSw; go_simp; first | done | (with_reducible rfl))
  simp only [Act.put, List.getElem_toArray, List.getElem_cons_zero, List.setIfInBounds_toArray, List.set_cons_zero, List.set_cons_succ]
  refine wpAnyH_take (i := 1) (oi := _) (v := ?_) rfl (by kernel_rfl) (by kernel_rfl) (by kernel_rfl) (fun _ _ _ h => h) (Or.inl ⟨by rfl, ?_⟩) (by assumption) ?_
  rotate_left
  · (intro w hSw; obtain ⟨q1, q2, q3, q4⟩ := hSw; go_simp; first | done | (with_reducible rfl))
  simp only [Act.put, List.getElem_toArray, List.getElem_cons_succ, List.getElem_cons_zero, List.setIfInBounds_toArray, List.set_cons_zero, List.set_cons_succ]
  refine wpAnyH_take (i := 2) (oi := _) (v := ?_) rfl (by kernel_rfl) (by kernel_rfl) (by kernel_rfl) (fun _ _ _ h => h) (Or.inl ⟨by rfl, ?_⟩) (by assumption) ?_
  rotate_left
  · (intro w hSw; go_simp; first | done | (with_reducible rfl))
  simp only [Act.put, List.getElem_toArray, List.getElem_cons_succ, List.getElem_cons_zero, List.setIfInBounds_toArray, List.set_cons_zero, List.set_cons_succ]
  refine wpAnyH_take (i := 3) (oi := _) (v := ?_) rfl (by kernel_rfl) (by kernel_rfl) (by kernel_rfl) (fun _ _ _ h => h) (Or.inl ⟨by rfl, ?_⟩) (by assumption) ?_
  rotate_left
  · (intro w hSw; obtain ⟨q1, q2, q3, q4⟩ := hSw; go_simp; first | done | (with_reducible rfl))
  simp only [Act.put, List.getElem_toArray, List.getElem_cons_succ, List.getElem_cons_zero, List.setIfInBounds_toArray, List.set_cons_zero, List.set_cons_succ]
  refine wpAnyH_take (i := 5) (oi := _) (v := ?_) rfl (by kernel_rfl) (by kernel_rfl) (by kernel_rfl) (fun _ _ _ h => h) (Or.inl ⟨by rfl, ?_⟩) (by assumption) ?_
  rotate_left
  · (intro w hSw; go_simp; first | done | (with_reducible rfl))
  simp only [Act.put, List.getElem_toArray, List.getElem_cons_succ, List.getElem_cons_zero, List.setIfInBounds_toArray, List.set_cons_zero, List.set_cons_succ]
  refine wpAnyH_take (i := 6) (oi := _) (v := ?_) rfl (by kernel_rfl) (by kernel_rfl) (by kernel_rfl) (fun _ _ _ h => h) (Or.inl ⟨by rfl, ?_⟩) (by assumption) ?_
  rotate_left
  · (intro w hSw; obtain ⟨q1, q2, q3, q4⟩ := hSw; go_simp; first | done | (with_reducible rfl))
  simp only [Act.put, List.getElem_toArray, List.getElem_cons_succ, List.getElem_cons_zero, List.setIfInBounds_toArray, List.set_cons_zero, List.set_cons_succ]
  refine wpAnyH_take (i := 7) (oi := _) (v := ?_) rfl (by kernel_rfl) (by kernel_rfl) (by kernel_rfl) (fun _ _ _ h => h) (Or.inl ⟨by rfl, ?_⟩) (by assumption) ?_
  rotate_left
  · (intro w hSw; go_simp; first | done | (with_reducible rfl))
  simp only [Act.put, List.getElem_toArray, List.getElem_cons_succ, List.getElem_cons_zero, List.setIfInBounds_toArray, List.set_cons_zero, List.set_cons_succ]
  refine wpAnyH_take (i := 8) (oi := _) (v := ?_) rfl (by kernel_rfl) (by kernel_rfl) (by kernel_rfl) (fun _ _ _ h => h) (Or.inl ⟨by rfl, ?_⟩) (by assumption) ?_
  rotate_left
  · (intro w hSw; obtain ⟨q1, q2, q3, q4⟩ := hSw; go_simp; first | done | (with_reducible rfl))
  simp only [Act.put, List.getElem_toArray, List.getElem_cons_succ, List.getElem_cons_zero, List.setIfInBounds_toArray, List.set_cons_zero, List.set_cons_succ]
  refine wpAnyH_call (i := 4) (oi := _) (v := .int .i64 u) rfl (by kernel_rfl) (by kernel_rfl) (by kernel_rfl) (fun _ _ _ h => h) ⟨by rfl, 29, #[.int .i64 ax, .int .i64 bx], fun w => ?_, fun w hSw => HC.out.1 w⟩ (by assumption) ?_
  · (go_simp; first | done | (with_reducible rfl))
  simp only [Act.put, List.getElem_toArray, List.getElem_cons_succ, List.getElem_cons_zero, List.setIfInBounds_toArray, List.set_cons_zero, List.set_cons_succ]
  refine wpAnyH_call (i := 9) (oi := _) (v := .int .i64 v) rfl (by kernel_rfl) (by kernel_rfl) (by kernel_rfl) (fun _ _ _ h => h) ⟨by rfl, 29, #[.int .i64 ay, .int .i64 by'], fun w => ?_, fun w hSw => HC.out.2 w⟩ (by assumption) ?_
  · (go_simp; first | done | (with_reducible rfl))
  simp only [Act.put, List.getElem_toArray, List.getElem_cons_succ, List.getElem_cons_zero, List.setIfInBounds_toArray, List.set_cons_zero, List.set_cons_succ]
  refine wpAnyH_take (i := 10) (oi := _) (v := ?_) rfl (by kernel_rfl) (by kernel_rfl) (by kernel_rfl) (fun _ _ _ h => h) (Or.inl ⟨by rfl, ?_⟩) (by assumption) ?_
  rotate_left
  · (intro w hSw; go_simp; first | done | (with_reducible rfl))
  simp only [Act.put, List.getElem_toArray, List.getElem_cons_succ, List.getElem_cons_zero, List.setIfInBounds_toArray, List.set_cons_zero, List.set_cons_succ]
  refine wpAnyH_ready (rs := [11]) (by kernel_rfl) (by simp) ?_
  refine AllReadyH.cons rfl (fun K hK => ?_) AllReadyH.nil
  have x0 := HB.out.2.2.1.cellv 0 _ rfl
  have x1 := HB.out.2.2.1.cellv 1 _ rfl
  have y0 := HB.out.2.2.1.frozen 0
  have y1 := HB.out.2.2.1.frozen 1
  go_simp
  clear x0 x1 y0 y1
  have H0 : Has ((W.setCell ⟨rb, 0, none⟩ (.int .i64 u)).setCell ⟨rb, 1, none⟩ (.int .i64 v)).drew rb [.int .i64 u, .int .i64 v] 24 := (HB.out.2.2.1.setCell 0 _).setCell 1 _
  have HR := Keep.mk (And.intro H0 (gr_new HB.out.2.2.2 ((gr_set W rb 0 (.int .i64 u)).trans ((gr_set _ rb 1 (.int .i64 v)).trans (gr_drew _ _))) HL.out))
  clear H0
  refine hK.out _ _ ⟨((HB.out.1.other ⟨rb, 0, none⟩ _ HN.out.1).other ⟨rb, 1, none⟩ _ HN.out.1).cellv 0 _ rfl, ((HB.out.1.other ⟨rb, 0, none⟩ _ HN.out.1).other ⟨rb, 1, none⟩ _ HN.out.1).cellv 1 _ rfl, ((HB.out.2.1.other ⟨rb, 0, none⟩ _ HN.out.2).other ⟨rb, 1, none⟩ _ HN.out.2).cellv 0 _ rfl, ((HB.out.2.1.other ⟨rb, 0, none⟩ _ HN.out.2).other ⟨rb, 1, none⟩ _ HN.out.2).cellv 1 _ rfl⟩ (fun hHeld => ?_)
  clear hK K hHeld
  generalize ((W.setCell ⟨rb, 0, none⟩ (.int .i64 u)).setCell ⟨rb, 1, none⟩ (.int .i64 v)).drew = W' at HR ⊢
  refine wpAnyH_done (by kernel_rfl) ?_ _
  go_wp2_with fail
  obtain ⟨du, hdu, hdr⟩ := underVc
  exact ret_cell rfl rfl HR.out.1 hdu hdr infoVc rfl ⟨rfl, HR.out.2⟩
set_option maxRecDepth 100000 in
set_option maxHeartbeats 4000000 in
theorem vscale_c (ax ay k : Int) (h1 : In ax) (h2 : In ay) (h3 : In k) (w : World) :
    Calls Tryd.prog 35 #[vv ax ay, .int .i64 k] w fun e w' => e = .returned (vv (mulZ ax k) (mulZ ay k)) ∧ w.grownBy w' none := by
  have HC : Keep ((∀ w, Calls Tryd.prog 56 #[.int .i64 ax, .int .i64 k] w fun e w' => e = .returned (.int .i64 (mulZ ax k)) ∧ w' = w) ∧ (∀ w, Calls Tryd.prog 56 #[.int .i64 ay, .int .i64 k] w fun e w' => e = .returned (.int .i64 (mulZ ay k)) ∧ w' = w)) := ⟨fun w => mul_c _ _ h1 h3 w, fun w => mul_c _ _ h2 h3 w⟩
  clear h1 h2 h3
  generalize mulZ ax k = u at *
  generalize mulZ ay k = v at *
  have HB := Keep.mk (boxes2 w #[.int .i64 ax, .int .i64 ay] #[.int .i64 0, .int .i64 0] 24 24)
  go_enter Tryd.func35, Tryd.ntmps35
  go_wp2_with fail
  generalize hW : (w.alloc (.cells #[.int .i64 ax, .int .i64 ay] 24)).alloc (.cells #[.int .i64 0, .int .i64 0] 24) = W at HB ⊢
  obtain ⟨xb, hxb⟩ : ∃ xb, w.heap.size = xb := ⟨_, rfl⟩
  obtain ⟨rb, hrb⟩ : ∃ rb, xb + 1 = rb := ⟨_, rfl⟩
  have HL : Keep (w.heap.size ≤ rb) := ⟨by omega⟩
  have HN : Keep (rb ≠ xb) := ⟨by omega⟩
  rw [hxb, hrb] at HB ⊢
  clear hxb hrb hW
  refine wp_region_held_drew (S := fun w' => w'.cell? ⟨xb, 0, none⟩ = some (.int .i64 ax) ∧ w'.cell? ⟨xb, 1, none⟩ = some (.int .i64 ay)) (by kernel_rfl) ⟨HB.out.1.cellv 0 _ rfl, HB.out.1.cellv 1 _ rfl⟩ (fun hHeld => ?_)
  refine wpAnyH_take (i := 0) (oi := _) (v := ?_) rfl (by kernel_rfl) (by kernel_rfl) (by kernel_rfl) (fun _ _ _ h => h) (Or.inl ⟨by rfl, ?_⟩) (by assumption) ?_
  rotate_left
  · (intro w hSw; go_simp; first | done | (with_reducible rfl))
  simp only [Act.put, List.getElem_toArray, List.getElem_cons_zero, List.setIfInBounds_toArray, List.set_cons_zero, List.set_cons_succ]
  refine wpAnyH_take (i := 1) (oi := _) (v := ?_) rfl (by kernel_rfl) (by kernel_rfl) (by kernel_rfl) (fun _ _ _ h => h) (Or.inl ⟨by rfl, ?_⟩) (by assumption) ?_
  rotate_left
  · (intro w hSw; obtain ⟨q1, q2⟩ := hSw; go_simp; first | done | (with_reducible rfl))
  simp only [Act.put, List.getElem_toArray, List.getElem_cons_succ, List.getElem_cons_zero, List.setIfInBounds_toArray, List.set_cons_zero, List.set_cons_succ]
  refine wpAnyH_take (i := 2) (oi := _) (v := ?_) rfl (by kernel_rfl) (by kernel_rfl) (by kernel_rfl) (fun _ _ _ h => h) (Or.inl ⟨by rfl, ?_⟩) (by assumption) ?_
  rotate_left
  · (intro w hSw; go_simp; first | done | (with_reducible rfl))
  simp only [Act.put, List.getElem_toArray, List.getElem_cons_succ, List.getElem_cons_zero, List.setIfInBounds_toArray, List.set_cons_zero, List.set_cons_succ]
  refine wpAnyH_take (i := 4) (oi := _) (v := ?_) rfl (by kernel_rfl) (by kernel_rfl) (by kernel_rfl) (fun _ _ _ h => h) (Or.inl ⟨by rfl, ?_⟩) (by assumption) ?_
  rotate_left
  · (intro w hSw; go_simp; first | done | (with_reducible rfl))
  simp only [Act.put, List.getElem_toArray, List.getElem_cons_succ, List.getElem_cons_zero, List.setIfInBounds_toArray, List.set_cons_zero, List.set_cons_succ]
  refine wpAnyH_take (i := 5) (oi := _) (v := ?_) rfl (by kernel_rfl) (by kernel_rfl) (by kernel_rfl) (fun _ _ _ h => h) (Or.inl ⟨by rfl, ?_⟩) (by assumption) ?_
  rotate_left
  · (intro w hSw; obtain ⟨q1, q2⟩ := hSw; go_simp; first | done | (with_reducible rfl))
  simp only [Act.put, List.getElem_toArray, List.getElem_cons_succ, List.getElem_cons_zero, List.setIfInBounds_toArray, List.set_cons_zero, List.set_cons_succ]
  refine wpAnyH_take (i := 6) (oi := _) (v := ?_) rfl (by kernel_rfl) (by kernel_rfl) (by kernel_rfl) (fun _ _ _ h => h) (Or.inl ⟨by rfl, ?_⟩) (by assumption) ?_
  rotate_left
  · (intro w hSw; go_simp; first | done | (with_reducible rfl))
  simp only [Act.put, List.getElem_toArray, List.getElem_cons_succ, List.getElem_cons_zero, List.setIfInBounds_toArray, List.set_cons_zero, List.set_cons_succ]
  refine wpAnyH_call (i := 3) (oi := _) (v := .int .i64 u) rfl (by kernel_rfl) (by kernel_rfl) (by kernel_rfl) (fun _ _ _ h => h) ⟨by rfl, 56, #[.int .i64 ax, .int .i64 k], fun w => ?_, fun w hSw => HC.out.1 w⟩ (by assumption) ?_
  · (go_simp; first | done | (with_reducible rfl))
  simp only [Act.put, List.getElem_toArray, List.getElem_cons_succ, List.getElem_cons_zero, List.setIfInBounds_toArray, List.set_cons_zero, List.set_cons_succ]
  refine wpAnyH_call (i := 7) (oi := _) (v := .int .i64 v) rfl (by kernel_rfl) (by kernel_rfl) (by kernel_rfl) (fun _ _ _ h => h) ⟨by rfl, 56, #[.int .i64 ay, .int .i64 k], fun w => ?_, fun w hSw => HC.out.2 w⟩ (by assumption) ?_
  · (go_simp; first | done | (with_reducible rfl))
  simp only [Act.put, List.getElem_toArray, List.getElem_cons_succ, List.getElem_cons_zero, List.setIfInBounds_toArray, List.set_cons_zero, List.set_cons_succ]
  refine wpAnyH_take (i := 8) (oi := _) (v := ?_) rfl (by kernel_rfl) (by kernel_rfl) (by kernel_rfl) (fun _ _ _ h => h) (Or.inl ⟨by rfl, ?_⟩) (by assumption) ?_
  rotate_left
  · (intro w hSw; go_simp; first | done | (with_reducible rfl))
  simp only [Act.put, List.getElem_toArray, List.getElem_cons_succ, List.getElem_cons_zero, List.setIfInBounds_toArray, List.set_cons_zero, List.set_cons_succ]
  refine wpAnyH_ready (rs := [9]) (by kernel_rfl) (by simp) ?_
  refine AllReadyH.cons rfl (fun K hK => ?_) AllReadyH.nil
  have x0 := HB.out.2.1.cellv 0 _ rfl
  have x1 := HB.out.2.1.cellv 1 _ rfl
  have y0 := HB.out.2.1.frozen 0
  have y1 := HB.out.2.1.frozen 1
  go_simp
  clear x0 x1 y0 y1
  have H0 : Has ((W.setCell ⟨rb, 0, none⟩ (.int .i64 u)).setCell ⟨rb, 1, none⟩ (.int .i64 v)).drew rb [.int .i64 u, .int .i64 v] 24 := (HB.out.2.1.setCell 0 _).setCell 1 _
  have HR := Keep.mk (And.intro H0 (gr_new HB.out.2.2 ((gr_set W rb 0 (.int .i64 u)).trans ((gr_set _ rb 1 (.int .i64 v)).trans (gr_drew _ _))) HL.out))
  clear H0
  refine hK.out _ _ ⟨((HB.out.1.other ⟨rb, 0, none⟩ _ HN.out).other ⟨rb, 1, none⟩ _ HN.out).cellv 0 _ rfl, ((HB.out.1.other ⟨rb, 0, none⟩ _ HN.out).other ⟨rb, 1, none⟩ _ HN.out).cellv 1 _ rfl⟩ (fun hHeld => ?_)
  clear hK K hHeld
  generalize ((W.setCell ⟨rb, 0, none⟩ (.int .i64 u)).setCell ⟨rb, 1, none⟩ (.int .i64 v)).drew = W' at HR ⊢
  refine wpAnyH_done (by kernel_rfl) ?_ _
  go_wp2_with fail
  obtain ⟨du, hdu, hdr⟩ := underVc
  exact ret_cell rfl rfl HR.out.1 hdu hdr infoVc rfl ⟨rfl, HR.out.2⟩
end Go.Proofs.YtmacmoikjgmaoaaDoor
