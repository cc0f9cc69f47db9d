/- TableScript: a step's Peek, Put, Delete, and none. -/
import Derived.Test.YtkaakbldkicnaaaT1
namespace Go.Proofs.Ytkaakbldkicnaaa
open Go Go.RowKit Go.Maps

set_option maxRecDepth 100000 in
set_option maxHeartbeats 8000000 in
theorem step_peek (w0 W : World) (pb t t' d d' s s' : Nat) (b : Bool) (L L' : KV) (tv wv : Value) (n c : Nat) (R : List As) (a x dp : Int) (key : ByteArray) (a0 : Option Addr) (ni ci : Nat)
    (h : Sep w0 W (stB b pb t t' d d' s s' L L' tv wv n R)) (hpar : Par b a) (hks : key.size ≤ 1048576) :
    Calls Try.prog 31 #[pt pb, opv 3 a key x a0 ni ci, iv dp] W (StP w0 b pb t t' d d' s s' n c R) := by
  have S1 := h.newBox #[iv 3, iv a, .string key, iv x, .slice a0 ni ci] 62
  have ok := h.tab k1m
  obtain ⟨ob, hob⟩ : ∃ ob, W.heap.size = ob := ⟨_, rfl⟩
  obtain ⟨W1, hW1⟩ : ∃ W1, W.alloc (.cells #[iv 3, iv a, .string key, iv x, .slice a0 ni ci] 62) = W1 := ⟨_, rfl⟩
  rw [hob, hW1] at S1
  change Sep w0 W1 (boxA ob (opL 3 a key x a0 ni ci) 62 :: stB b pb t t' d d' s s' L L' tv wv n R) at S1
  obtain ⟨o0, o1, o2, o3, o4⟩ := S1.opc k0m
  have hG := peek_s key S1 k2m (by omega)
  have hR := rpeek_s key (fr1 [_, _, _] S1) ok.four ok.nk
  have HF := Keep.mk S1.tail
  have pl := S1.plc k1m
  rcases hpar with ⟨rfl, hp⟩ | ⟨rfl, hp⟩
  all_goals
    obtain ⟨pt0, pd0, _, _, _, _⟩ := pl
    simp only [bn, if_true, if_false, Bool.false_eq_true, Nat.add_zero] at pt0 pd0
    have HOK := Keep.mk ok
    clear h S1 ok
    go_enter Try.func31, Try.ntmps31
    go_wp2_with fail
    refine hG.mono ?_
    rintro r w2 ⟨rfl, hw⟩
    subst w2
    clear hG
    generalize (Tb.look L key).getD 0 = xv at *
    generalize (Tb.look L key).isSome = xb at *
    go_wp2_with fail
    refine hR.mono ?_
    rintro r w3 ⟨rfl, hw⟩
    subst w3
    clear hR
    go_wp2_with fail
    go_ret
    exact ⟨rfl, _, _, _, _, n, by omega, HF.out⟩
set_option maxRecDepth 100000 in
set_option maxHeartbeats 8000000 in
theorem step_put (w0 W : World) (pb t t' d d' s s' : Nat) (b : Bool) (L L' : KV) (tv wv : Value) (n c : Nat) (R : List As) (a x dp : Int) (key : ByteArray) (a0 : Option Addr) (ni ci : Nat)
    (h : Sep w0 W (stB b pb t t' d d' s s' L L' tv wv n R)) (hpar : Par b a) (hks : key.size ≤ 1048576) :
    Calls Try.prog 31 #[pt pb, opv 4 a key x a0 ni ci, iv dp] W (StP w0 b pb t t' d d' s s' n c R) := by
  have S1 := h.newBox #[iv 4, iv a, .string key, iv x, .slice a0 ni ci] 62
  have ok := h.tab k1m
  obtain ⟨ob, hob⟩ : ∃ ob, W.heap.size = ob := ⟨_, rfl⟩
  obtain ⟨W1, hW1⟩ : ∃ W1, W.alloc (.cells #[iv 4, iv a, .string key, iv x, .slice a0 ni ci] 62) = W1 := ⟨_, rfl⟩
  rw [hob, hW1] at S1
  change Sep w0 W1 (boxA ob (opL 4 a key x a0 ni ci) 62 :: stB b pb t t' d d' s s' L L' tv wv n R) at S1
  obtain ⟨o0, o1, o2, o3, o4⟩ := S1.opc k0m
  have hG := put_s key x (fr1 [_, _] S1) (by omega)
  have pl := S1.plc k1m
  rcases hpar with ⟨rfl, hp⟩ | ⟨rfl, hp⟩
  all_goals
    obtain ⟨pt0, pd0, _, _, _, _⟩ := pl
    simp only [bn, if_true, if_false, Bool.false_eq_true, Nat.add_zero] at pt0 pd0
    have HOK := Keep.mk ok
    clear h S1 ok
    go_enter Try.func31, Try.ntmps31
    go_wp2_with fail
    refine hG.mono ?_
    rintro r w2 ⟨rfl, S2⟩
    clear hG o0 o1 o2 o3 o4 pt0 pd0
    have hR := rput_s key x (fr1 [_, _, _] S2) HOK.out
    obtain ⟨o0, o1, o2, o3, o4⟩ := S2.opc k1m
    clear S2
    generalize Tb.goneK s L key = xv at *
    generalize Tb.goneB s L key = xb at *
    go_wp2_with fail
    refine hR.mono ?_
    rintro r w3 ⟨rfl, S3⟩
    have HF := Keep.mk (back4 S3)
    clear S3 hR o0 o1 o2 o3 o4
    go_wp2_with fail
    go_ret
    exact ⟨rfl, _, _, _, _, n, by omega, HF.out⟩
set_option maxRecDepth 100000 in
set_option maxHeartbeats 8000000 in
theorem step_oth (w0 W : World) (pb t t' d d' s s' : Nat) (b : Bool) (L L' : KV) (tv wv : Value) (n c : Nat) (R : List As) (k a x dp : Int) (key : ByteArray) (a0 : Option Addr) (ni ci : Nat)
    (h : Sep w0 W (stB b pb t t' d d' s s' L L' tv wv n R)) (hpar : Par b a) (h1 : ¬ k = 1 ∨ ¬ dp = 0) (h2 : ¬ k = 2) (h3 : ¬ k = 3) (h4 : ¬ k = 4) (h5 : ¬ k = 5) (h6 : ¬ k = 6) (h7 : ¬ k = 7) :
    Calls Try.prog 31 #[pt pb, opv k a key x a0 ni ci, iv dp] W (StP w0 b pb t t' d d' s s' n c R) := by
  have S1 := h.newBox #[iv k, iv a, .string key, iv x, .slice a0 ni ci] 62
  have ok := h.tab k1m
  obtain ⟨ob, hob⟩ : ∃ ob, W.heap.size = ob := ⟨_, rfl⟩
  obtain ⟨W1, hW1⟩ : ∃ W1, W.alloc (.cells #[iv k, iv a, .string key, iv x, .slice a0 ni ci] 62) = W1 := ⟨_, rfl⟩
  rw [hob, hW1] at S1
  change Sep w0 W1 (boxA ob (opL k a key x a0 ni ci) 62 :: stB b pb t t' d d' s s' L L' tv wv n R) at S1
  obtain ⟨o0, o1, o2, o3, o4⟩ := S1.opc k0m
  have HF := Keep.mk S1.tail
  have pl := S1.plc k1m
  rcases hpar with ⟨rfl, hp⟩ | ⟨rfl, hp⟩
  all_goals
    obtain ⟨pt0, pd0, _, _, _, _⟩ := pl
    simp only [bn, if_true, if_false, Bool.false_eq_true, Nat.add_zero] at pt0 pd0
    have HOK := Keep.mk ok
    clear h S1 ok
    by_cases h0 : k = 1
    · subst h0
      have h8 : ¬ dp = 0 := h1.resolve_left (by simp)
      clear h1 h2 h3 h4 h5 h6 h7
      go_enter Try.func31, Try.ntmps31
      go_wp2_with fail
      go_ret
      exact ⟨rfl, _, _, _, _, n, by omega, HF.out⟩
    · clear h1
      go_enter Try.func31, Try.ntmps31
      go_wp2_with fail
      go_ret
      exact ⟨rfl, _, _, _, _, n, by omega, HF.out⟩
set_option maxRecDepth 100000 in
set_option maxHeartbeats 8000000 in
theorem step_del (w0 W : World) (pb t t' d d' s s' : Nat) (b : Bool) (L L' : KV) (tv wv : Value) (n c : Nat) (R : List As) (a x dp : Int) (key : ByteArray) (a0 : Option Addr) (ni ci : Nat)
    (h : Sep w0 W (stB b pb t t' d d' s s' L L' tv wv n R)) (hpar : Par b a) (hks : key.size ≤ 1048576) :
    Calls Try.prog 31 #[pt pb, opv 5 a key x a0 ni ci, iv dp] W (StP w0 b pb t t' d d' s s' n c R) := by
  have S1 := h.newBox #[iv 5, iv a, .string key, iv x, .slice a0 ni ci] 62
  have ok := h.tab k1m
  obtain ⟨ob, hob⟩ : ∃ ob, W.heap.size = ob := ⟨_, rfl⟩
  obtain ⟨W1, hW1⟩ : ∃ W1, W.alloc (.cells #[iv 5, iv a, .string key, iv x, .slice a0 ni ci] 62) = W1 := ⟨_, rfl⟩
  rw [hob, hW1] at S1
  change Sep w0 W1 (boxA ob (opL 5 a key x a0 ni ci) 62 :: stB b pb t t' d d' s s' L L' tv wv n R) at S1
  obtain ⟨o0, o1, o2, o3, o4⟩ := S1.opc k0m
  have pl := S1.plc k1m
  rcases hpar with ⟨rfl, hp⟩ | ⟨rfl, hp⟩
  all_goals
    obtain ⟨pt0, pd0, _, _, _, _⟩ := pl
    simp only [bn, if_true, if_false, Bool.false_eq_true, Nat.add_zero] at pt0 pd0
    have HOK := Keep.mk ok
    have HS1 := Keep.mk S1
    clear h S1 ok
    go_enter Try.func31, Try.ntmps31
    go_wp2_with fail
    have SD := HS1.out.grown (gr_drew W1 none)
    refine wp_region_held_drew (S := fun w => w.cell? ⟨ob, 2, none⟩ = some (.string key)) (by kernel_rfl) (SD.opc k0m).key (fun hHeld => ?_)
    generalize W1.drew = w2 at SD hHeld ⊢
    clear HS1 o0 o1 o2 o3 o4 pt0 pd0
    refine wpAnyH_take (i := 0) (oi := _) (v := ?_) rfl (by kernel_rfl) (by kernel_rfl) (by kernel_rfl) (fun _ _ _ h => h) (Or.inl ⟨by rfl, ?_⟩) (by assumption) ?_
    rotate_left
    · (intro w hSw; go_simp; first | done | (with_reducible rfl))
    simp only [Act.put, List.getElem_toArray, List.getElem_cons_zero, List.setIfInBounds_toArray, List.set_cons_zero, List.set_cons_succ]
    refine wpAnyH_take (i := 1) (oi := _) (v := ?_) rfl (by kernel_rfl) (by kernel_rfl) (by kernel_rfl) (fun _ _ _ h => h) (Or.inl ⟨by rfl, ?_⟩) (by assumption) ?_
    rotate_left
    · (intro w hSw; go_simp; first | done | (with_reducible rfl))
    simp only [Act.put, List.getElem_toArray, List.getElem_cons_succ, List.getElem_cons_zero, List.setIfInBounds_toArray, List.set_cons_zero, List.set_cons_succ]
    refine wpAnyH_take (i := 2) (oi := _) (v := ?_) rfl (by kernel_rfl) (by kernel_rfl) (by kernel_rfl) (fun _ _ _ h => h) (Or.inl ⟨by rfl, ?_⟩) (by assumption) ?_
    rotate_left
    · (intro w hSw; have y1 := hSw; change w.cell? ⟨ob, 2, none⟩ = some (.string key) at y1; clear hSw; go_simp; first | done | (with_reducible rfl))
    simp only [Act.put, List.getElem_toArray, List.getElem_cons_succ, List.getElem_cons_zero, List.setIfInBounds_toArray, List.set_cons_zero, List.set_cons_succ]
    refine wpAnyH_take (i := 4) (oi := _) (v := ?_) rfl (by kernel_rfl) (by kernel_rfl) (by kernel_rfl) (fun _ _ _ h => h) (Or.inl ⟨by rfl, ?_⟩) (by assumption) ?_
    rotate_left
    · (intro w hSw; go_simp; first | done | (with_reducible rfl))
    simp only [Act.put, List.getElem_toArray, List.getElem_cons_succ, List.getElem_cons_zero, List.setIfInBounds_toArray, List.set_cons_zero, List.set_cons_succ]
    refine wpAnyH_take (i := 5) (oi := _) (v := ?_) rfl (by kernel_rfl) (by kernel_rfl) (by kernel_rfl) (fun _ _ _ h => h) (Or.inl ⟨by rfl, ?_⟩) (by assumption) ?_
    rotate_left
    · (intro w hSw; go_simp; first | done | (with_reducible rfl))
    simp only [Act.put, List.getElem_toArray, List.getElem_cons_succ, List.getElem_cons_zero, List.setIfInBounds_toArray, List.set_cons_zero, List.set_cons_succ]
    refine wpAnyH_take (i := 6) (oi := _) (v := ?_) rfl (by kernel_rfl) (by kernel_rfl) (by kernel_rfl) (fun _ _ _ h => h) (Or.inl ⟨by rfl, ?_⟩) (by assumption) ?_
    rotate_left
    · (intro w hSw; have y1 := hSw; change w.cell? ⟨ob, 2, none⟩ = some (.string key) at y1; clear hSw; go_simp; first | done | (with_reducible rfl))
    simp only [Act.put, List.getElem_toArray, List.getElem_cons_succ, List.getElem_cons_zero, List.setIfInBounds_toArray, List.set_cons_zero, List.set_cons_succ]
    refine wpAnyH_ready (rs := [3]) (by kernel_rfl) (by simp) ?_
    refine AllReadyH.cons rfl (fun K hK => ?_) AllReadyH.nil
    have hG := del_s key (fr1 [_, _] SD) (by omega)
    clear SD
    go_simp
    go_wp2_with fail
    refine hG.mono ?_
    rintro r w3 ⟨rfl, S3⟩
    clear hG
    refine hK.out _ _ (S3.opc k1m).key (fun hHeld => ?_)
    clear hK K
    have hR := rdel_s key (fr1 [_, _, _] S3) HOK.out.four HOK.out.nk
    clear S3
    generalize (Tb.look L key).isSome = xb at *
    refine wpAnyH_ready (rs := [7]) (by kernel_rfl) (by simp) ?_
    refine AllReadyH.cons rfl (fun K hK => ?_) AllReadyH.nil
    go_simp
    go_wp2_with fail
    refine hR.mono ?_
    rintro r w4 ⟨rfl, S4⟩
    clear hR
    refine hK.out _ _ (S4.opc k2m).key (fun hHeld => ?_)
    clear hK K
    have HF := Keep.mk (back4 S4)
    clear S4
    refine wpAnyH_take (i := 8) (oi := _) (v := ?_) rfl (by kernel_rfl) (by kernel_rfl) (by kernel_rfl) (fun _ _ _ h => h) (Or.inl ⟨by rfl, ?_⟩) (by assumption) ?_
    rotate_left
    · (intro w hSw; go_simp; first | done | (with_reducible rfl))
    simp only [Act.put, List.getElem_toArray, List.getElem_cons_succ, List.getElem_cons_zero, List.setIfInBounds_toArray, List.set_cons_zero, List.set_cons_succ]
    refine wpAnyH_take (i := 9) (oi := _) (v := ?_) rfl (by kernel_rfl) (by kernel_rfl) (by kernel_rfl) (fun _ _ _ h => h) (Or.inl ⟨by rfl, ?_⟩) (by assumption) ?_
    rotate_left
    · (intro w hSw; go_simp; first | done | (with_reducible rfl))
    simp only [Act.put, List.getElem_toArray, List.getElem_cons_succ, List.getElem_cons_zero, List.setIfInBounds_toArray, List.set_cons_zero, List.set_cons_succ]
    refine wpAnyH_done (by kernel_rfl) ?_ _
    clear hHeld
    go_wp2_with fail
    go_ret
    exact ⟨rfl, _, _, _, _, n, by omega, HF.out⟩
end Go.Proofs.Ytkaakbldkicnaaa
