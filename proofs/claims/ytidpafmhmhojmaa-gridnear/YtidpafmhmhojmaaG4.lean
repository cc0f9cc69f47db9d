/- grid: leave. -/
import Derived.Test.YtidpafmhmhojmaaG3
namespace Go.Proofs.Ytidpafmhmhojmaa
open Go Go.RowKit


set_option maxRecDepth 100000 in
set_option maxHeartbeats 8000000 in
theorem leave_some (w0 W : World) (l X Y : List As) (gb mc mm tb g m c : Nat) (sd x y : Int) (va mi v a0 a3 a4 : Value) (f : Int × Int → Option Sl) (hs : 1 ≤ sd ∧ sd ≤ 1099511627776) (hx : I64 x) (hy : I64 y) (hv : cellsM.ev ((f (x / sd, y / sd)).getD cellsM.z) = v) (hm0 : 0 < m) (hmm : mm < 9223372036854775807) (m2 : Nat) (hm2 : (if (f (x / sd, y / sd)).isSome then mm else mm + 1) = m2)
    (hD : ∀ (w0 W : World) (l : List As), Sep w0 W (X ++ l) → Calls Try.prog 38 #[v, iv 1, pt tb] W fun e W' => e = .returned (sl g m c) ∧ Sep w0 W' (Y ++ l)) (hX : boxA tb [a0, iv x, iv y, a3, a4] 60 ∈ X)
    (h : Sep w0 W (boxA gb [iv sd, va, mi, .map (some mc)] 56 :: mapA cellsM mc mm f :: (X ++ l))) :
    Calls Try.prog 28 #[pt gb, pt tb] W fun e W' => e = .returned (.tuple #[]) ∧ Sep w0 W' (boxA gb [iv sd, va, mi, .map (some mc)] 56 :: mapA cellsM mc m2 (upd f (x / sd, y / sd) (some (g + 1, m, c))) :: (Y ++ l)) := by
  have HC := Keep.mk (cellOf_c W gb sd x y _ hs hx hy (h.boxGet k0m))
  have HK : Keep (I64p (x / sd, y / sd)) := ⟨div_I64 sd x hs.1 hx, div_I64 sd y hs.1 hy⟩
  have HV := Keep.mk hv
  have HM := Keep.mk hmm
  have HM2 := Keep.mk hm2
  have HB := Keep.mk h
  have HD := Keep.mk hD
  have hX2 : boxA tb [a0, iv x, iv y, a3, a4] 60 ∈ boxA gb [iv sd, va, mi, .map (some mc)] 56 :: mapA cellsM mc mm f :: (X ++ l) := List.mem_cons_of_mem _ (List.mem_cons_of_mem _ (List.mem_append_left _ hX))
  have q1 := (h.boxGet hX2).cellv 1 _ rfl
  have q2 := (h.boxGet hX2).cellv 2 _ rfl
  clear h hmm hs hx hy hv hm2 hX hX2 hD
  generalize x / sd = kx at *
  generalize y / sd = ky at *
  have d1 : (0 : Int) < (m : Int) := by omega
  have d2' : 0 < m := hm0
  go_enter Try.func28, Try.ntmps28
  go_wp2_with fail
  refine HC.out.mono ?_
  rintro e w1 ⟨rfl, g1⟩
  have S1 := (HB.out.grown g1).newBox #[iv kx, iv ky] 77
  obtain ⟨W2, hW2⟩ : ∃ W2, w1.alloc (.cells #[iv kx, iv ky] 77) = W2 := ⟨_, rfl⟩
  obtain ⟨kb, hkb⟩ : ∃ b, w1.heap.size = b := ⟨_, rfl⟩
  rw [hW2, hkb] at S1
  have HB : Keep (Sep w0 W2 (boxA kb [iv kx, iv ky] 77 :: boxA gb [iv sd, va, mi, .map (some mc)] 56 :: mapA cellsM mc mm f :: (X ++ l))) := ⟨S1⟩
  clear S1 g1 HC q1 q2
  go_wp2_with fail
  clear hW2 hkb
  replace HB := Keep.mk (HB.out.grown (gr_drew _ none))
  refine region_X (S := fun w' => Sep w0 w' [boxA kb [iv kx, iv ky] 77, boxA gb [iv sd, va, mi, .map (some mc)] 56, mapA cellsM mc mm f]) [] (by kernel_rfl) (HB.out.left [_, _, _]) (fun hHeld => ?_)
  obtain ⟨W0, hW0⟩ : ∃ W_, W2.drew = W_ := ⟨_, rfl⟩
  rw [hW0] at HB hHeld ⊢
  clear hW0
  refine wpAnyX_take (i := 0) (oi := _) (v := ?_) rfl (by kernel_rfl) (by kernel_rfl) (by kernel_rfl) (by kernel_rfl) (by kernel_rfl) (fun _ _ _ h => h) (Or.inl ⟨by rfl, ?_⟩) (by assumption) ?_
  rotate_left
  · (intro w hSw; go_simp; first | done | (with_reducible rfl))
  simp only [Act.put, List.getElem_toArray, List.getElem_cons_zero, List.setIfInBounds_toArray, List.set_cons_zero, List.set_cons_succ]
  refine wpAnyX_take (i := 1) (oi := _) (v := ?_) rfl (by kernel_rfl) (by kernel_rfl) (by kernel_rfl) (by kernel_rfl) (by kernel_rfl) (fun _ _ _ h => h) (Or.inl ⟨by rfl, ?_⟩) (by assumption) ?_
  rotate_left
  · (intro w hSw; go_simp; first | done | (with_reducible rfl))
  simp only [Act.put, List.getElem_toArray, List.getElem_cons_succ, List.getElem_cons_zero, List.setIfInBounds_toArray, List.set_cons_zero, List.set_cons_succ]
  refine wpAnyX_take (i := 2) (oi := _) (v := ?_) rfl (by kernel_rfl) (by kernel_rfl) (by kernel_rfl) (by kernel_rfl) (by kernel_rfl) (fun _ _ _ h => h) (Or.inl ⟨by rfl, ?_⟩) (by assumption) ?_
  rotate_left
  · (intro w hSw; go_simp; first | done | (with_reducible rfl))
  simp only [Act.put, List.getElem_toArray, List.getElem_cons_succ, List.getElem_cons_zero, List.setIfInBounds_toArray, List.set_cons_zero, List.set_cons_succ]
  refine wpAnyX_take (i := 3) (oi := _) (v := ?_) rfl (by kernel_rfl) (by kernel_rfl) (by kernel_rfl) (by kernel_rfl) (by kernel_rfl) (fun _ _ _ h => h) (Or.inl ⟨by rfl, ?_⟩) (by assumption) ?_
  rotate_left
  · (intro w hSw; have q3 := (hSw.boxGet k1m).cellv 3 _ rfl; go_simp; first | done | (with_reducible rfl))
  simp only [Act.put, List.getElem_toArray, List.getElem_cons_succ, List.getElem_cons_zero, List.setIfInBounds_toArray, List.set_cons_zero, List.set_cons_succ]
  refine wpAnyX_take (i := 4) (oi := _) (v := .agg #[iv kx, iv ky]) rfl (by kernel_rfl) (by kernel_rfl) (by kernel_rfl) (by kernel_rfl) (by kernel_rfl) (fun _ _ _ h => h) (Or.inl ⟨by rfl, ?_⟩) (by assumption) ?_
  · (intro w hSw; have q0 := (hSw.boxGet k0m).cellv 0 _ rfl; have q1 := (hSw.boxGet k0m).cellv 1 _ rfl; go_simp; first | done | rfl | (simp; done) | trace_state)
  simp only [Act.put, List.getElem_toArray, List.getElem_cons_succ, List.getElem_cons_zero, List.setIfInBounds_toArray, List.set_cons_zero, List.set_cons_succ]
  refine wpAnyX_take (i := 5) (oi := _) (v := v) rfl (by kernel_rfl) (by kernel_rfl) (by kernel_rfl) (by kernel_rfl) (by kernel_rfl) (fun _ _ _ h => h) (Or.inl ⟨by rfl, ?_⟩) (by assumption) ?_
  · (intro w hSw; have ql : (Instr.lookup 53 (.map (some mc)) (.agg #[iv kx, iv ky]) false).run Try.prog w = .ok v w := (by have q := (hSw.mapGet k2m).look (kx, ky) HK.out; rw [HV.out] at q; exact q); go_simp; first | done | rfl | (simp; done) | trace_state)
  simp only [Act.put, List.getElem_toArray, List.getElem_cons_succ, List.getElem_cons_zero, List.setIfInBounds_toArray, List.set_cons_zero, List.set_cons_succ]
  refine wpAnyX_take (i := 6) (oi := _) (v := ?_) rfl (by kernel_rfl) (by kernel_rfl) (by kernel_rfl) (by kernel_rfl) (by kernel_rfl) (fun _ _ _ h => h) (Or.inl ⟨by rfl, ?_⟩) (by assumption) ?_
  rotate_left
  · (intro w hSw; go_simp; first | done | (with_reducible rfl))
  simp only [Act.put, List.getElem_toArray, List.getElem_cons_succ, List.getElem_cons_zero, List.setIfInBounds_toArray, List.set_cons_zero, List.set_cons_succ]
  refine wpAnyX_one (i := 7) (by kernel_rfl) rfl (fun K hK => ?_)
  go_simp
  refine (HD.out w0 _ (boxA kb [iv kx, iv ky] 77 :: boxA gb [iv sd, va, mi, .map (some mc)] 56 :: mapA cellsM mc mm f :: l) (Sep.front [_, _, _] HB.out)).mono ?_
  rintro e wg ⟨rfl, S9⟩
  have S9 : Sep w0 wg ([boxA kb [iv kx, iv ky] 77, boxA gb [iv sd, va, mi, .map (some mc)] 56, mapA cellsM mc mm f] ++ (Y ++ l)) := Sep.front Y (B := [_, _, _]) S9
  refine hK.out _ _ S9.left (fun hHeld => ?_)
  have HS := Keep.mk S9
  clear hK K S9 HB
  refine wpAnyX_one (i := 8) (by kernel_rfl) rfl (fun K hK => ?_)
  go_simp
  refine hK.out _ _ hHeld (fun hHeld => ?_)
  clear hK K
  refine wpAnyX_done (by kernel_rfl) ?_ _
  go_wp2_with fail
  replace HS := Keep.mk (HS.out.grown (gr_drew _ none))
  refine region_X (S := fun w' => Sep w0 w' [boxA kb [iv kx, iv ky] 77, boxA gb [iv sd, va, mi, .map (some mc)] 56]) [] (by kernel_rfl) (HS.out.left [_, _]) (fun hHeld => ?_)
  obtain ⟨W5, hW5⟩ : ∃ W_, wg.drew = W_ := ⟨_, rfl⟩
  rw [hW5] at HS hHeld ⊢
  clear hW5
  refine wpAnyX_take (i := 0) (oi := _) (v := ?_) rfl (by kernel_rfl) (by kernel_rfl) (by kernel_rfl) (by kernel_rfl) (by kernel_rfl) (fun _ _ _ h => h) (Or.inl ⟨by rfl, ?_⟩) (by assumption) ?_
  rotate_left
  · (intro w hSw; go_simp; first | done | (with_reducible rfl))
  simp only [Act.put, List.getElem_toArray, List.getElem_cons_zero, List.setIfInBounds_toArray, List.set_cons_zero, List.set_cons_succ]
  refine wpAnyX_take (i := 1) (oi := _) (v := ?_) rfl (by kernel_rfl) (by kernel_rfl) (by kernel_rfl) (by kernel_rfl) (by kernel_rfl) (fun _ _ _ h => h) (Or.inl ⟨by rfl, ?_⟩) (by assumption) ?_
  rotate_left
  · (intro w hSw; go_simp; first | done | (with_reducible rfl))
  simp only [Act.put, List.getElem_toArray, List.getElem_cons_succ, List.getElem_cons_zero, List.setIfInBounds_toArray, List.set_cons_zero, List.set_cons_succ]
  refine wpAnyX_take (i := 2) (oi := _) (v := ?_) rfl (by kernel_rfl) (by kernel_rfl) (by kernel_rfl) (by kernel_rfl) (by kernel_rfl) (fun _ _ _ h => h) (Or.inl ⟨by rfl, ?_⟩) (by assumption) ?_
  rotate_left
  · (intro w hSw; go_simp; first | done | (with_reducible rfl))
  simp only [Act.put, List.getElem_toArray, List.getElem_cons_succ, List.getElem_cons_zero, List.setIfInBounds_toArray, List.set_cons_zero, List.set_cons_succ]
  refine wpAnyX_take (i := 3) (oi := _) (v := ?_) rfl (by kernel_rfl) (by kernel_rfl) (by kernel_rfl) (by kernel_rfl) (by kernel_rfl) (fun _ _ _ h => h) (Or.inl ⟨by rfl, ?_⟩) (by assumption) ?_
  rotate_left
  · (intro w hSw; have q3 := (hSw.boxGet k1m).cellv 3 _ rfl; go_simp; first | done | (with_reducible rfl))
  simp only [Act.put, List.getElem_toArray, List.getElem_cons_succ, List.getElem_cons_zero, List.setIfInBounds_toArray, List.set_cons_zero, List.set_cons_succ]
  refine wpAnyX_take (i := 4) (oi := _) (v := .agg #[iv kx, iv ky]) rfl (by kernel_rfl) (by kernel_rfl) (by kernel_rfl) (by kernel_rfl) (by kernel_rfl) (fun _ _ _ h => h) (Or.inl ⟨by rfl, ?_⟩) (by assumption) ?_
  · (intro w hSw; have q0 := (hSw.boxGet k0m).cellv 0 _ rfl; have q1 := (hSw.boxGet k0m).cellv 1 _ rfl; go_simp; first | done | rfl | (simp; done) | trace_state)
  simp only [Act.put, List.getElem_toArray, List.getElem_cons_succ, List.getElem_cons_zero, List.setIfInBounds_toArray, List.set_cons_zero, List.set_cons_succ]
  refine wpAnyX_take (i := 5) (oi := _) (v := ?_) rfl (by kernel_rfl) (by kernel_rfl) (by kernel_rfl) (by kernel_rfl) (by kernel_rfl) (fun _ _ _ h => h) (Or.inl ⟨by rfl, ?_⟩) (by assumption) ?_
  rotate_left
  · (intro w hSw; go_simp; first | done | (with_reducible rfl))
  simp only [Act.put, List.getElem_toArray, List.getElem_cons_succ, List.getElem_cons_zero, List.setIfInBounds_toArray, List.set_cons_zero, List.set_cons_succ]
  refine wpAnyX_one (i := 6) (by kernel_rfl) rfl (fun K hK => ?_)
  obtain ⟨W9, r9, m9, G9, _⟩ := (HS.out.mapGet k2m).put (kx, ky) HK.out (g + 1, m, c) HM.out
  have r9 : (Instr.mapUpdate 53 (.map (some mc)) (.agg #[iv kx, iv ky]) (sl g m c)).run Try.prog W5 = .ok () W9 := r9
  rw [HM2.out] at m9
  have S9 := ((fr1 [_, _] HS.out).mapTo m9 G9)
  have HF := Keep.mk S9
  go_simp
  refine hK.out _ _ ((fr1 [_, _] HS.out).mapTo m9 G9).tail.left (fun hHeld => ?_)
  clear hK K r9 hHeld S9 m9 G9 HS
  refine wpAnyX_done (by kernel_rfl) ?_ _
  go_wp2_with fail
  go_end0
  exact ⟨rfl, by have := (fr1 [_] HF.out).tail; exact bk1 [_] this⟩

set_option maxRecDepth 100000 in
set_option maxHeartbeats 8000000 in
theorem leave_none (w0 W : World) (l X Y : List As) (gb mc mm tb g m c : Nat) (sd x y : Int) (va mi v a0 a3 a4 : Value) (f : Int × Int → Option Sl) (hs : 1 ≤ sd ∧ sd ≤ 1099511627776) (hx : I64 x) (hy : I64 y) (hv : cellsM.ev ((f (x / sd, y / sd)).getD cellsM.z) = v) (hm0 : m = 0) (hmm : mm < 9223372036854775807) (m2 : Nat) (hm2 : (if (f (x / sd, y / sd)).isSome then mm - 1 else mm) = m2)
    (hD : ∀ (w0 W : World) (l : List As), Sep w0 W (X ++ l) → Calls Try.prog 38 #[v, iv 1, pt tb] W fun e W' => e = .returned (sl g m c) ∧ Sep w0 W' (Y ++ l)) (hX : boxA tb [a0, iv x, iv y, a3, a4] 60 ∈ X)
    (h : Sep w0 W (boxA gb [iv sd, va, mi, .map (some mc)] 56 :: mapA cellsM mc mm f :: (X ++ l))) :
    Calls Try.prog 28 #[pt gb, pt tb] W fun e W' => e = .returned (.tuple #[]) ∧ Sep w0 W' (boxA gb [iv sd, va, mi, .map (some mc)] 56 :: mapA cellsM mc m2 (upd f (x / sd, y / sd) none) :: (Y ++ l)) := by
  have HC := Keep.mk (cellOf_c W gb sd x y _ hs hx hy (h.boxGet k0m))
  have HK : Keep (I64p (x / sd, y / sd)) := ⟨div_I64 sd x hs.1 hx, div_I64 sd y hs.1 hy⟩
  have HV := Keep.mk hv
  have HM := Keep.mk hmm
  have HM2 := Keep.mk hm2
  have HB := Keep.mk h
  have HD := Keep.mk hD
  have hX2 : boxA tb [a0, iv x, iv y, a3, a4] 60 ∈ boxA gb [iv sd, va, mi, .map (some mc)] 56 :: mapA cellsM mc mm f :: (X ++ l) := List.mem_cons_of_mem _ (List.mem_cons_of_mem _ (List.mem_append_left _ hX))
  have q1 := (h.boxGet hX2).cellv 1 _ rfl
  have q2 := (h.boxGet hX2).cellv 2 _ rfl
  clear h hmm hs hx hy hv hm2 hX hX2 hD
  generalize x / sd = kx at *
  generalize y / sd = ky at *
  subst hm0
  have d0 : True := trivial
  go_enter Try.func28, Try.ntmps28
  go_wp2_with fail
  refine HC.out.mono ?_
  rintro e w1 ⟨rfl, g1⟩
  have S1 := (HB.out.grown g1).newBox #[iv kx, iv ky] 77
  obtain ⟨W2, hW2⟩ : ∃ W2, w1.alloc (.cells #[iv kx, iv ky] 77) = W2 := ⟨_, rfl⟩
  obtain ⟨kb, hkb⟩ : ∃ b, w1.heap.size = b := ⟨_, rfl⟩
  rw [hW2, hkb] at S1
  have HB : Keep (Sep w0 W2 (boxA kb [iv kx, iv ky] 77 :: boxA gb [iv sd, va, mi, .map (some mc)] 56 :: mapA cellsM mc mm f :: (X ++ l))) := ⟨S1⟩
  clear S1 g1 HC q1 q2
  go_wp2_with fail
  clear hW2 hkb
  replace HB := Keep.mk (HB.out.grown (gr_drew _ none))
  refine region_X (S := fun w' => Sep w0 w' [boxA kb [iv kx, iv ky] 77, boxA gb [iv sd, va, mi, .map (some mc)] 56, mapA cellsM mc mm f]) [] (by kernel_rfl) (HB.out.left [_, _, _]) (fun hHeld => ?_)
  obtain ⟨W0, hW0⟩ : ∃ W_, W2.drew = W_ := ⟨_, rfl⟩
  rw [hW0] at HB hHeld ⊢
  clear hW0
  refine wpAnyX_take (i := 0) (oi := _) (v := ?_) rfl (by kernel_rfl) (by kernel_rfl) (by kernel_rfl) (by kernel_rfl) (by kernel_rfl) (fun _ _ _ h => h) (Or.inl ⟨by rfl, ?_⟩) (by assumption) ?_
  rotate_left
  · (intro w hSw; go_simp; first | done | (with_reducible rfl))
  simp only [Act.put, List.getElem_toArray, List.getElem_cons_zero, List.setIfInBounds_toArray, List.set_cons_zero, List.set_cons_succ]
  refine wpAnyX_take (i := 1) (oi := _) (v := ?_) rfl (by kernel_rfl) (by kernel_rfl) (by kernel_rfl) (by kernel_rfl) (by kernel_rfl) (fun _ _ _ h => h) (Or.inl ⟨by rfl, ?_⟩) (by assumption) ?_
  rotate_left
  · (intro w hSw; go_simp; first | done | (with_reducible rfl))
  simp only [Act.put, List.getElem_toArray, List.getElem_cons_succ, List.getElem_cons_zero, List.setIfInBounds_toArray, List.set_cons_zero, List.set_cons_succ]
  refine wpAnyX_take (i := 2) (oi := _) (v := ?_) rfl (by kernel_rfl) (by kernel_rfl) (by kernel_rfl) (by kernel_rfl) (by kernel_rfl) (fun _ _ _ h => h) (Or.inl ⟨by rfl, ?_⟩) (by assumption) ?_
  rotate_left
  · (intro w hSw; go_simp; first | done | (with_reducible rfl))
  simp only [Act.put, List.getElem_toArray, List.getElem_cons_succ, List.getElem_cons_zero, List.setIfInBounds_toArray, List.set_cons_zero, List.set_cons_succ]
  refine wpAnyX_take (i := 3) (oi := _) (v := ?_) rfl (by kernel_rfl) (by kernel_rfl) (by kernel_rfl) (by kernel_rfl) (by kernel_rfl) (fun _ _ _ h => h) (Or.inl ⟨by rfl, ?_⟩) (by assumption) ?_
  rotate_left
  · (intro w hSw; have q3 := (hSw.boxGet k1m).cellv 3 _ rfl; go_simp; first | done | (with_reducible rfl))
  simp only [Act.put, List.getElem_toArray, List.getElem_cons_succ, List.getElem_cons_zero, List.setIfInBounds_toArray, List.set_cons_zero, List.set_cons_succ]
  refine wpAnyX_take (i := 4) (oi := _) (v := .agg #[iv kx, iv ky]) rfl (by kernel_rfl) (by kernel_rfl) (by kernel_rfl) (by kernel_rfl) (by kernel_rfl) (fun _ _ _ h => h) (Or.inl ⟨by rfl, ?_⟩) (by assumption) ?_
  · (intro w hSw; have q0 := (hSw.boxGet k0m).cellv 0 _ rfl; have q1 := (hSw.boxGet k0m).cellv 1 _ rfl; go_simp; first | done | rfl | (simp; done) | trace_state)
  simp only [Act.put, List.getElem_toArray, List.getElem_cons_succ, List.getElem_cons_zero, List.setIfInBounds_toArray, List.set_cons_zero, List.set_cons_succ]
  refine wpAnyX_take (i := 5) (oi := _) (v := v) rfl (by kernel_rfl) (by kernel_rfl) (by kernel_rfl) (by kernel_rfl) (by kernel_rfl) (fun _ _ _ h => h) (Or.inl ⟨by rfl, ?_⟩) (by assumption) ?_
  · (intro w hSw; have ql : (Instr.lookup 53 (.map (some mc)) (.agg #[iv kx, iv ky]) false).run Try.prog w = .ok v w := (by have q := (hSw.mapGet k2m).look (kx, ky) HK.out; rw [HV.out] at q; exact q); go_simp; first | done | rfl | (simp; done) | trace_state)
  simp only [Act.put, List.getElem_toArray, List.getElem_cons_succ, List.getElem_cons_zero, List.setIfInBounds_toArray, List.set_cons_zero, List.set_cons_succ]
  refine wpAnyX_take (i := 6) (oi := _) (v := ?_) rfl (by kernel_rfl) (by kernel_rfl) (by kernel_rfl) (by kernel_rfl) (by kernel_rfl) (fun _ _ _ h => h) (Or.inl ⟨by rfl, ?_⟩) (by assumption) ?_
  rotate_left
  · (intro w hSw; go_simp; first | done | (with_reducible rfl))
  simp only [Act.put, List.getElem_toArray, List.getElem_cons_succ, List.getElem_cons_zero, List.setIfInBounds_toArray, List.set_cons_zero, List.set_cons_succ]
  refine wpAnyX_one (i := 7) (by kernel_rfl) rfl (fun K hK => ?_)
  go_simp
  refine (HD.out w0 _ (boxA kb [iv kx, iv ky] 77 :: boxA gb [iv sd, va, mi, .map (some mc)] 56 :: mapA cellsM mc mm f :: l) (Sep.front [_, _, _] HB.out)).mono ?_
  rintro e wg ⟨rfl, S9⟩
  have S9 : Sep w0 wg ([boxA kb [iv kx, iv ky] 77, boxA gb [iv sd, va, mi, .map (some mc)] 56, mapA cellsM mc mm f] ++ (Y ++ l)) := Sep.front Y (B := [_, _, _]) S9
  refine hK.out _ _ S9.left (fun hHeld => ?_)
  have HS := Keep.mk S9
  clear hK K S9 HB
  refine wpAnyX_one (i := 8) (by kernel_rfl) rfl (fun K hK => ?_)
  go_simp
  refine hK.out _ _ hHeld (fun hHeld => ?_)
  clear hK K
  refine wpAnyX_done (by kernel_rfl) ?_ _
  go_wp2_with fail
  replace HS := Keep.mk (HS.out.grown (gr_drew _ none))
  refine region_X (S := fun w' => Sep w0 w' [boxA kb [iv kx, iv ky] 77, boxA gb [iv sd, va, mi, .map (some mc)] 56]) [] (by kernel_rfl) (HS.out.left [_, _]) (fun hHeld => ?_)
  obtain ⟨W5, hW5⟩ : ∃ W_, wg.drew = W_ := ⟨_, rfl⟩
  rw [hW5] at HS hHeld ⊢
  clear hW5
  refine wpAnyX_take (i := 0) (oi := _) (v := ?_) rfl (by kernel_rfl) (by kernel_rfl) (by kernel_rfl) (by kernel_rfl) (by kernel_rfl) (fun _ _ _ h => h) (Or.inl ⟨by rfl, ?_⟩) (by assumption) ?_
  rotate_left
  · (intro w hSw; go_simp; first | done | (with_reducible rfl))
  simp only [Act.put, List.getElem_toArray, List.getElem_cons_zero, List.setIfInBounds_toArray, List.set_cons_zero, List.set_cons_succ]
  refine wpAnyX_take (i := 1) (oi := _) (v := ?_) rfl (by kernel_rfl) (by kernel_rfl) (by kernel_rfl) (by kernel_rfl) (by kernel_rfl) (fun _ _ _ h => h) (Or.inl ⟨by rfl, ?_⟩) (by assumption) ?_
  rotate_left
  · (intro w hSw; go_simp; first | done | (with_reducible rfl))
  simp only [Act.put, List.getElem_toArray, List.getElem_cons_succ, List.getElem_cons_zero, List.setIfInBounds_toArray, List.set_cons_zero, List.set_cons_succ]
  refine wpAnyX_take (i := 2) (oi := _) (v := ?_) rfl (by kernel_rfl) (by kernel_rfl) (by kernel_rfl) (by kernel_rfl) (by kernel_rfl) (fun _ _ _ h => h) (Or.inl ⟨by rfl, ?_⟩) (by assumption) ?_
  rotate_left
  · (intro w hSw; go_simp; first | done | (with_reducible rfl))
  simp only [Act.put, List.getElem_toArray, List.getElem_cons_succ, List.getElem_cons_zero, List.setIfInBounds_toArray, List.set_cons_zero, List.set_cons_succ]
  refine wpAnyX_take (i := 3) (oi := _) (v := ?_) rfl (by kernel_rfl) (by kernel_rfl) (by kernel_rfl) (by kernel_rfl) (by kernel_rfl) (fun _ _ _ h => h) (Or.inl ⟨by rfl, ?_⟩) (by assumption) ?_
  rotate_left
  · (intro w hSw; have q3 := (hSw.boxGet k1m).cellv 3 _ rfl; go_simp; first | done | (with_reducible rfl))
  simp only [Act.put, List.getElem_toArray, List.getElem_cons_succ, List.getElem_cons_zero, List.setIfInBounds_toArray, List.set_cons_zero, List.set_cons_succ]
  refine wpAnyX_take (i := 4) (oi := _) (v := .agg #[iv kx, iv ky]) rfl (by kernel_rfl) (by kernel_rfl) (by kernel_rfl) (by kernel_rfl) (by kernel_rfl) (fun _ _ _ h => h) (Or.inl ⟨by rfl, ?_⟩) (by assumption) ?_
  · (intro w hSw; have q0 := (hSw.boxGet k0m).cellv 0 _ rfl; have q1 := (hSw.boxGet k0m).cellv 1 _ rfl; go_simp; first | done | rfl | (simp; done) | trace_state)
  simp only [Act.put, List.getElem_toArray, List.getElem_cons_succ, List.getElem_cons_zero, List.setIfInBounds_toArray, List.set_cons_zero, List.set_cons_succ]
  refine wpAnyX_one (i := 5) (by kernel_rfl) rfl (fun K hK => ?_)
  obtain ⟨W9, r9, m9, G9, _⟩ := (HS.out.mapGet k2m).drop (kx, ky) HK.out 0
  have r9 : (Builtin.delete_ #[53, 77] 0 #[.map (some mc), .agg #[iv kx, iv ky]]).run Try.prog W5 = .ok (.tuple #[]) W9 := r9
  rw [HM2.out] at m9
  have S9 := ((fr1 [_, _] HS.out).mapTo m9 G9)
  have HF := Keep.mk S9
  go_simp
  refine hK.out _ _ ((fr1 [_, _] HS.out).mapTo m9 G9).tail.left (fun hHeld => ?_)
  clear hK K r9 hHeld S9 m9 G9 HS
  refine wpAnyX_done (by kernel_rfl) ?_ _
  go_wp2_with fail
  go_end0
  exact ⟨rfl, by have := (fr1 [_] HF.out).tail; exact bk1 [_] this⟩
end Go.Proofs.Ytidpafmhmhojmaa
