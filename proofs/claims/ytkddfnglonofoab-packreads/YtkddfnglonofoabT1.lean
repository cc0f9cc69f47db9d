/- the laws' takes. -/
import Derived.Test.YtkddfnglonofoabQ3
namespace Go.Proofs.Ytkddfnglonofoab
open Go Go.RowKit

set_option maxRecDepth 100000 in
set_option maxHeartbeats 8000000 in
theorem takes_c (rb B qb : Nat) (st : RS) (o : OpT) (w0 w : World) (h : Mine w0 w ([] ++ [rO rb B st, qO qb st])) :
    Calls Try.prog 6 #[.pointer (some ⟨rb, 0, none⟩), .pointer (some ⟨qb, 0, none⟩), ov o] w fun e w' => e = .returned (.bool true) ∧ ∃ st', Mine w0 w' ([] ++ [rO rb B st', qO qb st']) := by
  obtain ⟨kd, u, i, size, s⟩ := o
  have HM0 := Keep.mk h
  clear h
  go_enter Try.func6, Try.ntmps6
  obtain ⟨w8, hw8⟩ : ∃ q, w.alloc (.cells #[.int .i64 kd, .int .u64 u, .int .i64 i, .int .i64 size, .string s] 33) = q := ⟨_, rfl⟩
  obtain ⟨ob, hob⟩ : ∃ q, w.heap.size = q := ⟨_, rfl⟩
  have HM1 : Keep (Mine w0 w8 ([hO ob [.int .i64 kd, .int .u64 u, .int .i64 i, .int .i64 size, .string s] 33] ++ [rO rb B st, qO qb st])) := ⟨by rw [← hw8, ← hob]; exact HM0.out.newH #[.int .i64 kd, .int .u64 u, .int .i64 i, .int .i64 size, .string s] 33⟩
  have p0 : w8.cell? ⟨ob, 0, none⟩ = some (.int .i64 kd) := (Mine.h (A := []) HM1.out).cellv 0 _ rfl
  clear HM0
  by_cases h1 : kd = 1
  · subst h1
    go_wp2_with fail
    have HC : Keep (∀ W : World, Has W ob [.int .i64 1, .int .u64 u, .int .i64 i, .int .i64 size, .string s] 33 → W.cell? ⟨ob, 3, none⟩ = some (.int .i64 size)) := ⟨fun W h => h.cellv 3 _ rfl⟩
    have HM2 : Keep (Mine w0 w8.drew ([hO ob [.int .i64 1, .int .u64 u, .int .i64 i, .int .i64 size, .string s] 33] ++ [rO rb B st, qO qb st])) := ⟨HM1.out.grown (gr_drew _ _)⟩
    clear HM1 hw8 hob
    refine wp_region_held_drew (S := fun w' => Has w' ob [.int .i64 1, .int .u64 u, .int .i64 i, .int .i64 size, .string s] 33) (by kernel_rfl) (Mine.h (A := []) HM2.out) (fun hHeld => ?_)
    refine wpAnyH_take (i := 0) (oi := _) (v := ?_) rfl (by kernel_rfl) (by kernel_rfl) (by kernel_rfl) (fun _ _ _ h => h) (Or.inl ⟨by rfl, ?_⟩) (by assumption) ?_
    rotate_left
    · (intro w hSw; go_simp; first | done | (with_reducible rfl))
    simp only [Act.put, List.getElem_toArray, List.getElem_cons_zero, List.setIfInBounds_toArray, List.set_cons_zero, List.set_cons_succ]
    refine wpAnyH_take (i := 1) (oi := _) (v := ?_) rfl (by kernel_rfl) (by kernel_rfl) (by kernel_rfl) (fun _ _ _ h => h) (Or.inl ⟨by rfl, ?_⟩) (by assumption) ?_
    rotate_left
    · (intro w hSw; go_simp; first | done | (with_reducible rfl))
    simp only [Act.put, List.getElem_toArray, List.getElem_cons_succ, List.getElem_cons_zero, List.setIfInBounds_toArray, List.set_cons_zero, List.set_cons_succ]
    refine wpAnyH_take (i := 2) (oi := _) (v := ?_) rfl (by kernel_rfl) (by kernel_rfl) (by kernel_rfl) (fun _ _ _ h => h) (Or.inl ⟨by rfl, ?_⟩) (by assumption) ?_
    rotate_left
    · (intro w hSw; have x3 := HC.out w hSw; go_simp; first | done | (with_reducible rfl))
    simp only [Act.put, List.getElem_toArray, List.getElem_cons_succ, List.getElem_cons_zero, List.setIfInBounds_toArray, List.set_cons_zero, List.set_cons_succ]
    refine wpAnyH_take (i := 4) (oi := _) (v := ?_) rfl (by kernel_rfl) (by kernel_rfl) (by kernel_rfl) (fun _ _ _ h => h) (Or.inl ⟨by rfl, ?_⟩) (by assumption) ?_
    rotate_left
    · (intro w hSw; go_simp; first | done | (with_reducible rfl))
    simp only [Act.put, List.getElem_toArray, List.getElem_cons_succ, List.getElem_cons_zero, List.setIfInBounds_toArray, List.set_cons_zero, List.set_cons_succ]
    refine wpAnyH_take (i := 5) (oi := _) (v := ?_) rfl (by kernel_rfl) (by kernel_rfl) (by kernel_rfl) (fun _ _ _ h => h) (Or.inl ⟨by rfl, ?_⟩) (by assumption) ?_
    rotate_left
    · (intro w hSw; go_simp; first | done | (with_reducible rfl))
    simp only [Act.put, List.getElem_toArray, List.getElem_cons_succ, List.getElem_cons_zero, List.setIfInBounds_toArray, List.set_cons_zero, List.set_cons_succ]
    refine wpAnyH_take (i := 6) (oi := _) (v := ?_) rfl (by kernel_rfl) (by kernel_rfl) (by kernel_rfl) (fun _ _ _ h => h) (Or.inl ⟨by rfl, ?_⟩) (by assumption) ?_
    rotate_left
    · (intro w hSw; have x3 := HC.out w hSw; go_simp; first | done | (with_reducible rfl))
    simp only [Act.put, List.getElem_toArray, List.getElem_cons_succ, List.getElem_cons_zero, List.setIfInBounds_toArray, List.set_cons_zero, List.set_cons_succ]
    refine wpAnyH_ready (rs := [3]) (by kernel_rfl) (by simp) ?_
    refine AllReadyH.cons rfl (fun K hK => ?_) AllReadyH.nil
    go_simp
    go_wp2_with (go_at_call 19; refine (rNumber_c rb B _ size _ (Mine.r (A := [_]) HM2.out)).mono ?_; rintro e wa ⟨rfl, da⟩; have HM3 : Keep (Mine w0 wa ([hO ob [.int .i64 1, .int .u64 u, .int .i64 i, .int .i64 size, .string s] 33, rO rb B (rNum st size).2] ++ [qO qb st])) := ⟨Mine.rdid (A := [_]) HM2.out da⟩; clear da HM2)
    refine hK.out _ _ (Mine.h (A := []) HM3.out) (fun hHeld => ?_)
    clear hK K
    refine wpAnyH_ready (rs := [7]) (by kernel_rfl) (by simp) ?_
    refine AllReadyH.cons rfl (fun K hK => ?_) AllReadyH.nil
    go_simp
    go_wp2_with (go_at_call 22; refine (qNumber_c qb _ size _ (Mine.q HM3.out)).mono ?_; rintro e wb ⟨rfl, db⟩; have HM4 : Keep (Mine w0 wb ([hO ob [.int .i64 1, .int .u64 u, .int .i64 i, .int .i64 size, .string s] 33, rO rb B (rNum st size).2] ++ [qO qb (rNum st size).2])) := ⟨Mine.qdid HM3.out db⟩; clear db HM3)
    refine hK.out _ _ (Mine.h (A := []) HM4.out) (fun hHeld => ?_)
    clear hK K
    refine wpAnyH_take (i := 8) (oi := _) (v := ?_) rfl (by kernel_rfl) (by kernel_rfl) (by kernel_rfl) (fun _ _ _ h => h) (Or.inl ⟨by rfl, ?_⟩) (by assumption) ?_
    rotate_left
    · (intro w hSw; go_simp; first | done | (with_reducible rfl))
    simp only [Act.put, List.getElem_toArray, List.getElem_cons_succ, List.getElem_cons_zero, List.setIfInBounds_toArray, List.set_cons_zero, List.set_cons_succ]
    refine wpAnyH_take (i := 9) (oi := _) (v := ?_) rfl (by kernel_rfl) (by kernel_rfl) (by kernel_rfl) (fun _ _ _ h => h) (Or.inl ⟨by rfl, ?_⟩) (by assumption) ?_
    rotate_left
    · (intro w hSw; go_simp; first | done | (with_reducible rfl))
    simp only [Act.put, List.getElem_toArray, List.getElem_cons_succ, List.getElem_cons_zero, List.setIfInBounds_toArray, List.set_cons_zero, List.set_cons_succ]
    refine wpAnyH_done (by kernel_rfl) ?_ _
    clear hHeld HC
    go_wp2_with fail
    go_ret
    exact ⟨by simp, _, HM4.out.sub (List.sublist_cons_self _ _)⟩
  · skip
    by_cases h2 : kd = 2
    · subst h2
      go_wp2_with fail
      have HC : Keep (∀ W : World, Has W ob [.int .i64 2, .int .u64 u, .int .i64 i, .int .i64 size, .string s] 33 → W.cell? ⟨ob, 3, none⟩ = some (.int .i64 size)) := ⟨fun W h => h.cellv 3 _ rfl⟩
      have HM2 : Keep (Mine w0 w8.drew ([hO ob [.int .i64 2, .int .u64 u, .int .i64 i, .int .i64 size, .string s] 33] ++ [rO rb B st, qO qb st])) := ⟨HM1.out.grown (gr_drew _ _)⟩
      clear HM1 hw8 hob
      refine wp_region_held_drew (S := fun w' => Has w' ob [.int .i64 2, .int .u64 u, .int .i64 i, .int .i64 size, .string s] 33) (by kernel_rfl) (Mine.h (A := []) HM2.out) (fun hHeld => ?_)
      refine wpAnyH_take (i := 0) (oi := _) (v := ?_) rfl (by kernel_rfl) (by kernel_rfl) (by kernel_rfl) (fun _ _ _ h => h) (Or.inl ⟨by rfl, ?_⟩) (by assumption) ?_
      rotate_left
      · (intro w hSw; go_simp; first | done | (with_reducible rfl))
      simp only [Act.put, List.getElem_toArray, List.getElem_cons_zero, List.setIfInBounds_toArray, List.set_cons_zero, List.set_cons_succ]
      refine wpAnyH_take (i := 1) (oi := _) (v := ?_) rfl (by kernel_rfl) (by kernel_rfl) (by kernel_rfl) (fun _ _ _ h => h) (Or.inl ⟨by rfl, ?_⟩) (by assumption) ?_
      rotate_left
      · (intro w hSw; go_simp; first | done | (with_reducible rfl))
      simp only [Act.put, List.getElem_toArray, List.getElem_cons_succ, List.getElem_cons_zero, List.setIfInBounds_toArray, List.set_cons_zero, List.set_cons_succ]
      refine wpAnyH_take (i := 2) (oi := _) (v := ?_) rfl (by kernel_rfl) (by kernel_rfl) (by kernel_rfl) (fun _ _ _ h => h) (Or.inl ⟨by rfl, ?_⟩) (by assumption) ?_
      rotate_left
      · (intro w hSw; have x3 := HC.out w hSw; go_simp; first | done | (with_reducible rfl))
      simp only [Act.put, List.getElem_toArray, List.getElem_cons_succ, List.getElem_cons_zero, List.setIfInBounds_toArray, List.set_cons_zero, List.set_cons_succ]
      refine wpAnyH_take (i := 4) (oi := _) (v := ?_) rfl (by kernel_rfl) (by kernel_rfl) (by kernel_rfl) (fun _ _ _ h => h) (Or.inl ⟨by rfl, ?_⟩) (by assumption) ?_
      rotate_left
      · (intro w hSw; go_simp; first | done | (with_reducible rfl))
      simp only [Act.put, List.getElem_toArray, List.getElem_cons_succ, List.getElem_cons_zero, List.setIfInBounds_toArray, List.set_cons_zero, List.set_cons_succ]
      refine wpAnyH_take (i := 5) (oi := _) (v := ?_) rfl (by kernel_rfl) (by kernel_rfl) (by kernel_rfl) (fun _ _ _ h => h) (Or.inl ⟨by rfl, ?_⟩) (by assumption) ?_
      rotate_left
      · (intro w hSw; go_simp; first | done | (with_reducible rfl))
      simp only [Act.put, List.getElem_toArray, List.getElem_cons_succ, List.getElem_cons_zero, List.setIfInBounds_toArray, List.set_cons_zero, List.set_cons_succ]
      refine wpAnyH_take (i := 6) (oi := _) (v := ?_) rfl (by kernel_rfl) (by kernel_rfl) (by kernel_rfl) (fun _ _ _ h => h) (Or.inl ⟨by rfl, ?_⟩) (by assumption) ?_
      rotate_left
      · (intro w hSw; have x3 := HC.out w hSw; go_simp; first | done | (with_reducible rfl))
      simp only [Act.put, List.getElem_toArray, List.getElem_cons_succ, List.getElem_cons_zero, List.setIfInBounds_toArray, List.set_cons_zero, List.set_cons_succ]
      refine wpAnyH_ready (rs := [3]) (by kernel_rfl) (by simp) ?_
      refine AllReadyH.cons rfl (fun K hK => ?_) AllReadyH.nil
      go_simp
      go_wp2_with (go_at_call 20; refine (rSigned_c rb B _ size _ (Mine.r (A := [_]) HM2.out)).mono ?_; rintro e wa ⟨rfl, da⟩; have HM3 : Keep (Mine w0 wa ([hO ob [.int .i64 2, .int .u64 u, .int .i64 i, .int .i64 size, .string s] 33, rO rb B (rSig st size).2] ++ [qO qb st])) := ⟨Mine.rdid (A := [_]) HM2.out da⟩; clear da HM2)
      refine hK.out _ _ (Mine.h (A := []) HM3.out) (fun hHeld => ?_)
      clear hK K
      refine wpAnyH_ready (rs := [7]) (by kernel_rfl) (by simp) ?_
      refine AllReadyH.cons rfl (fun K hK => ?_) AllReadyH.nil
      go_simp
      go_wp2_with (go_at_call 23; refine (qSigned_c qb _ size _ (Mine.q HM3.out)).mono ?_; rintro e wb ⟨rfl, db⟩; have HM4 : Keep (Mine w0 wb ([hO ob [.int .i64 2, .int .u64 u, .int .i64 i, .int .i64 size, .string s] 33, rO rb B (rSig st size).2] ++ [qO qb (rSig st size).2])) := ⟨Mine.qdid HM3.out db⟩; clear db HM3)
      refine hK.out _ _ (Mine.h (A := []) HM4.out) (fun hHeld => ?_)
      clear hK K
      refine wpAnyH_take (i := 8) (oi := _) (v := ?_) rfl (by kernel_rfl) (by kernel_rfl) (by kernel_rfl) (fun _ _ _ h => h) (Or.inl ⟨by rfl, ?_⟩) (by assumption) ?_
      rotate_left
      · (intro w hSw; go_simp; first | done | (with_reducible rfl))
      simp only [Act.put, List.getElem_toArray, List.getElem_cons_succ, List.getElem_cons_zero, List.setIfInBounds_toArray, List.set_cons_zero, List.set_cons_succ]
      refine wpAnyH_take (i := 9) (oi := _) (v := ?_) rfl (by kernel_rfl) (by kernel_rfl) (by kernel_rfl) (fun _ _ _ h => h) (Or.inl ⟨by rfl, ?_⟩) (by assumption) ?_
      rotate_left
      · (intro w hSw; go_simp; first | done | (with_reducible rfl))
      simp only [Act.put, List.getElem_toArray, List.getElem_cons_succ, List.getElem_cons_zero, List.setIfInBounds_toArray, List.set_cons_zero, List.set_cons_succ]
      refine wpAnyH_done (by kernel_rfl) ?_ _
      clear hHeld HC
      go_wp2_with fail
      go_ret
      exact ⟨by simp, _, HM4.out.sub (List.sublist_cons_self _ _)⟩
    · skip
      by_cases h3 : kd = 3
      · subst h3
        go_wp2_with fail
        have HC : Keep (∀ W : World, Has W ob [.int .i64 3, .int .u64 u, .int .i64 i, .int .i64 size, .string s] 33 → W.cell? ⟨ob, 3, none⟩ = some (.int .i64 size)) := ⟨fun W h => h.cellv 3 _ rfl⟩
        have HM2 : Keep (Mine w0 w8.drew ([hO ob [.int .i64 3, .int .u64 u, .int .i64 i, .int .i64 size, .string s] 33] ++ [rO rb B st, qO qb st])) := ⟨HM1.out.grown (gr_drew _ _)⟩
        clear HM1 hw8 hob
        refine wp_region_held_drew (S := fun w' => Has w' ob [.int .i64 3, .int .u64 u, .int .i64 i, .int .i64 size, .string s] 33) (by kernel_rfl) (Mine.h (A := []) HM2.out) (fun hHeld => ?_)
        refine wpAnyH_take (i := 0) (oi := _) (v := ?_) rfl (by kernel_rfl) (by kernel_rfl) (by kernel_rfl) (fun _ _ _ h => h) (Or.inl ⟨by rfl, ?_⟩) (by assumption) ?_
        rotate_left
        · (intro w hSw; go_simp; first | done | (with_reducible rfl))
        simp only [Act.put, List.getElem_toArray, List.getElem_cons_zero, List.setIfInBounds_toArray, List.set_cons_zero, List.set_cons_succ]
        refine wpAnyH_take (i := 1) (oi := _) (v := ?_) rfl (by kernel_rfl) (by kernel_rfl) (by kernel_rfl) (fun _ _ _ h => h) (Or.inl ⟨by rfl, ?_⟩) (by assumption) ?_
        rotate_left
        · (intro w hSw; go_simp; first | done | (with_reducible rfl))
        simp only [Act.put, List.getElem_toArray, List.getElem_cons_succ, List.getElem_cons_zero, List.setIfInBounds_toArray, List.set_cons_zero, List.set_cons_succ]
        refine wpAnyH_take (i := 2) (oi := _) (v := ?_) rfl (by kernel_rfl) (by kernel_rfl) (by kernel_rfl) (fun _ _ _ h => h) (Or.inl ⟨by rfl, ?_⟩) (by assumption) ?_
        rotate_left
        · (intro w hSw; have x3 := HC.out w hSw; go_simp; first | done | (with_reducible rfl))
        simp only [Act.put, List.getElem_toArray, List.getElem_cons_succ, List.getElem_cons_zero, List.setIfInBounds_toArray, List.set_cons_zero, List.set_cons_succ]
        refine wpAnyH_take (i := 4) (oi := _) (v := ?_) rfl (by kernel_rfl) (by kernel_rfl) (by kernel_rfl) (fun _ _ _ h => h) (Or.inl ⟨by rfl, ?_⟩) (by assumption) ?_
        rotate_left
        · (intro w hSw; go_simp; first | done | (with_reducible rfl))
        simp only [Act.put, List.getElem_toArray, List.getElem_cons_succ, List.getElem_cons_zero, List.setIfInBounds_toArray, List.set_cons_zero, List.set_cons_succ]
        refine wpAnyH_take (i := 5) (oi := _) (v := ?_) rfl (by kernel_rfl) (by kernel_rfl) (by kernel_rfl) (fun _ _ _ h => h) (Or.inl ⟨by rfl, ?_⟩) (by assumption) ?_
        rotate_left
        · (intro w hSw; go_simp; first | done | (with_reducible rfl))
        simp only [Act.put, List.getElem_toArray, List.getElem_cons_succ, List.getElem_cons_zero, List.setIfInBounds_toArray, List.set_cons_zero, List.set_cons_succ]
        refine wpAnyH_take (i := 6) (oi := _) (v := ?_) rfl (by kernel_rfl) (by kernel_rfl) (by kernel_rfl) (fun _ _ _ h => h) (Or.inl ⟨by rfl, ?_⟩) (by assumption) ?_
        rotate_left
        · (intro w hSw; have x3 := HC.out w hSw; go_simp; first | done | (with_reducible rfl))
        simp only [Act.put, List.getElem_toArray, List.getElem_cons_succ, List.getElem_cons_zero, List.setIfInBounds_toArray, List.set_cons_zero, List.set_cons_succ]
        refine wpAnyH_ready (rs := [3]) (by kernel_rfl) (by simp) ?_
        refine AllReadyH.cons rfl (fun K hK => ?_) AllReadyH.nil
        go_simp
        go_wp2_with (go_at_call 24; refine (rBytes_c rb B _ size _ (Mine.r (A := [_]) HM2.out)).mono ?_; rintro e wa ⟨rfl, da⟩; have HM3 : Keep (Mine w0 wa ([hO ob [.int .i64 3, .int .u64 u, .int .i64 i, .int .i64 size, .string s] 33, rO rb B (rTake st size).2] ++ [qO qb st])) := ⟨Mine.rdid (A := [_]) HM2.out da⟩; clear da HM2)
        refine hK.out _ _ (Mine.h (A := []) HM3.out) (fun hHeld => ?_)
        clear hK K
        refine wpAnyH_ready (rs := [7]) (by kernel_rfl) (by simp) ?_
        refine AllReadyH.cons rfl (fun K hK => ?_) AllReadyH.nil
        go_simp
        go_wp2_with (go_at_call 25; refine (qBytes_c qb _ size _ (Mine.q HM3.out)).mono ?_; rintro e wb ⟨rfl, db⟩; have HM4 : Keep (Mine w0 wb ([hO ob [.int .i64 3, .int .u64 u, .int .i64 i, .int .i64 size, .string s] 33, rO rb B (rTake st size).2] ++ [qO qb (rTake st size).2])) := ⟨Mine.qdid HM3.out db⟩; clear db HM3)
        refine hK.out _ _ (Mine.h (A := []) HM4.out) (fun hHeld => ?_)
        clear hK K
        refine wpAnyH_take (i := 8) (oi := _) (v := ?_) rfl (by kernel_rfl) (by kernel_rfl) (by kernel_rfl) (fun _ _ _ h => h) (Or.inl ⟨by rfl, ?_⟩) (by assumption) ?_
        rotate_left
        · (intro w hSw; go_simp; first | done | (with_reducible rfl))
        simp only [Act.put, List.getElem_toArray, List.getElem_cons_succ, List.getElem_cons_zero, List.setIfInBounds_toArray, List.set_cons_zero, List.set_cons_succ]
        refine wpAnyH_take (i := 9) (oi := _) (v := ?_) rfl (by kernel_rfl) (by kernel_rfl) (by kernel_rfl) (fun _ _ _ h => h) (Or.inl ⟨by rfl, ?_⟩) (by assumption) ?_
        rotate_left
        · (intro w hSw; go_simp; first | done | (with_reducible rfl))
        simp only [Act.put, List.getElem_toArray, List.getElem_cons_succ, List.getElem_cons_zero, List.setIfInBounds_toArray, List.set_cons_zero, List.set_cons_succ]
        refine wpAnyH_done (by kernel_rfl) ?_ _
        clear hHeld HC
        go_wp2_with fail
        go_ret
        exact ⟨by simp, _, HM4.out.sub (List.sublist_cons_self _ _)⟩
      · skip
        by_cases h4 : kd = 4
        · subst h4
          go_wp2_with fail
          refine (rText_c rb B st w8 (Mine.r (A := [_]) HM1.out)).mono ?_
          rintro e wa ⟨rfl, da⟩
          have HM3 := Keep.mk (Mine.rdid (A := [_]) HM1.out da)
          clear da HM1
          go_wp2_with fail
          refine (qText_c qb st _ (Mine.q (A := [_, _]) HM3.out)).mono ?_
          rintro e wb ⟨rfl, db⟩
          have HM4 := Keep.mk (Mine.qdid (A := [_, _]) HM3.out db)
          clear db HM3
          go_wp2_with fail
          go_ret
          exact ⟨by simp, _, HM4.out.sub (List.sublist_cons_self _ _)⟩
        · skip
          by_cases h6 : kd = 6
          · subst h6
            go_wp2_with fail
            refine (rLeft_c rb B st w8 (Mine.r (A := [_]) HM1.out)).mono ?_
            rintro e wa ⟨rfl, hwa⟩
            subst hwa
            go_wp2_with fail
            refine (qLeft_c qb st _ (Mine.q (A := [_, _]) HM1.out)).mono ?_
            rintro e wb ⟨rfl, hwb⟩
            subst hwb
            go_wp2_with fail
            go_ret
            exact ⟨by simp, _, HM1.out.sub (List.sublist_cons_self _ _)⟩
          · skip
            by_cases h7 : kd = 7
            · subst h7
              go_wp2_with fail
              refine (rRest_c rb B st w8 (Mine.r (A := [_]) HM1.out)).mono ?_
              rintro e wa ⟨rfl, da⟩
              have HM3 := Keep.mk (Mine.rdid (A := [_]) HM1.out da)
              clear da HM1
              go_wp2_with fail
              refine (qRest_c qb st _ (Mine.q (A := [_, _]) HM3.out)).mono ?_
              rintro e wb ⟨rfl, db⟩
              have HM4 := Keep.mk (Mine.qdid (A := [_, _]) HM3.out db)
              clear db HM3
              go_wp2_with fail
              go_ret
              exact ⟨by simp, _, HM4.out.sub (List.sublist_cons_self _ _)⟩
            · skip
              go_wp2_with fail
              refine (rDone_c rb B st w8 (Mine.r (A := [_]) HM1.out)).mono ?_
              rintro e wa ⟨rfl, hwa⟩
              subst hwa
              go_wp2_with fail
              refine (qDone_c qb st _ (Mine.q (A := [_, _]) HM1.out)).mono ?_
              rintro e wb ⟨rfl, hwb⟩
              subst hwb
              go_wp2_with fail
              go_ret
              exact ⟨by simp, _, HM1.out.sub (List.sublist_cons_self _ _)⟩
end Go.Proofs.Ytkddfnglonofoab
