/- the reference's grid: Nearest. -/
import Derived.Test.YtidpafmhmhojmaaJ3
namespace Go.Proofs.Ytidpafmhmhojmaa
open Go Go.RowKit

def lenOf : Value → Nat
  | .slice _ n _ => n
  | _ => 0
theorem len_24 {N i m n : Nat} (h1 : N ≤ i) (h2 : (n + 4) * 24 ≤ 140737488355328) (h3 : i < m) (h4 : m ≤ n) : (N + 1) * 24 ≤ 140737488355328 := by omega
theorem len_o {N m n : Nat} (h1 : N + m ≤ n) (h2 : (n + 4) * 24 ≤ 140737488355328) : (N + 1) * 8 ≤ 140737488355328 := by omega
set_option maxRecDepth 100000 in
set_option maxHeartbeats 16000000 in
theorem rnearest_c (w0 W : World) (l : List As) (rb : Nat) (M : List Pl) (x y r n0 : Int) (hx : I64 x) (hy : I64 y) (hM : Srt M) (hR : PlR M) (hn : (M.length + 4) * 24 ≤ 140737488355328) (h : Sep w0 W (rgA rb M :: l)) :
    Calls Try.prog 24 #[pt rb, vv x y, iv r, iv n0] W fun e W' => ∃ v, e = .returned v ∧ Sep w0 W' (nums v (nstL M x y r n0) :: rgA rb M :: l) := by
  obtain ⟨a, c, h1⟩ := rg_open h
  have S1 := h1.newBox #[iv x, iv y] 32
  obtain ⟨W1, hW1⟩ : ∃ W1, W.alloc (.cells #[iv x, iv y] 32) = W1 := ⟨_, rfl⟩
  obtain ⟨ab, hab⟩ : ∃ b, W.heap.size = b := ⟨_, rfl⟩
  rw [hW1, hab] at S1
  obtain ⟨n, hnn⟩ : ∃ n, M.length = n := ⟨_, rfl⟩
  have HQ := Keep.mk hnn
  have HN : Keep ((n + 4) * 24 ≤ 140737488355328) := ⟨by rw [← hnn]; exact hn⟩
  rw [hnn] at S1
  have HS0 : Keep (Sep w0 W1 (rowV 75 3 (.slice none 0 0) (([] : List Pl)).length (pls (([] : List Pl))) :: boxA rb [.slice a n c] 73 :: rowV 75 3 (.slice a n c) n (pls M) :: boxA ab [iv x, iv y] 32 :: l)) := ⟨(bk1 [_, _] S1).nilV 75 3⟩
  have HI := Keep.mk (And.intro hx hy)
  have HR := Keep.mk hR
  have HST := Keep.mk (RNst.start hM hR x y r n0)
  obtain ⟨du, hdu, hdr⟩ := under75
  clear h h1 S1 hnn hn hx hy hR hM
  go_enter Try.func24, Try.ntmps24
  go_wp2_with fail
  clear hW1 hab
  go_loopw [9, 10] (fun u9 u10 wr => ∃ (T : List Pl) (i : Nat), i ≤ n ∧ u10 = iv i ∧ Keep (Sep w0 wr (rowV 75 3 u9 (T).length (pls (T)) :: boxA rb [.slice a n c] 73 :: rowV 75 3 (.slice a n c) n (pls M) :: boxA ab [iv x, iv y] 32 :: l)) ∧ Keep (T = nr (M.take i) x y r)) (fun _ u10 _ => (n - intOf u10).toNat)
  case atStart => exact ⟨[], 0, by omega, rfl, HS0, ⟨by simp [nr]⟩⟩
  case round =>
    clear HS0
    obtain ⟨T, i, hi, rfl, HB, hE⟩ := hrel
    have c0 := (HB.out.boxGet k1m).cellv 0 _ rfl
    by_cases hlt : i < n
    · obtain ⟨s, hs⟩ : ∃ s, M[i]? = some s := ⟨_, List.getElem?_eq_getElem (by rw [HQ.out]; exact hlt)⟩
      have HP := Keep.mk hs
      obtain ⟨g, c', e1, _⟩ := own_any (HB.out.rowGet k2m) (by omega)
      injection e1 with e1 _ e3
      subst e1 e3
      have hi1 : (i : Int) < (n : Int) := by omega
      have hwi : IntKind.i64.wrap ((i : Int) + 1) = ((i + 1 : Nat) : Int) := by have := HN.out; rw [IntKind.wrap_i64]; omega
      have HW := Keep.mk (fun w => rwithin_c s.x s.y x y r (HR.out s (List.mem_of_getElem? hs)).2.1 (HR.out s (List.mem_of_getElem? hs)).2.2 HI.out.1 HI.out.2 w)
      obtain ⟨b, hb⟩ : ∃ b, wn (d2 s.x s.y x y) r = b := ⟨_, rfl⟩
      rw [hb] at HW
      have HBB := Keep.mk hb
      clear hs hb
      cases b
      case false =>
        have HEQ : Keep (T = nr (M.take (i + 1)) x y r) := ⟨by rw [nr_no HP.out HBB.out]; exact hE.out⟩
        clear hE
        go_wp2_with fail
        refine region_X (S := fun w' => Sep w0 w' (rowV 75 3 u9 (T).length (pls (T)) :: boxA rb [sl g n c] 73 :: rowV 75 3 (sl g n c) n (pls M) :: boxA ab [iv x, iv y] 32 :: l)) [] (by kernel_rfl) (HB.out.grown (gr_drew _ _)) (fun hHeld => ?_)
        replace HB := Keep.mk hHeld
        obtain ⟨W0, hW0⟩ : ∃ W_, wr.drew = W_ := ⟨_, rfl⟩
        rw [hW0] at HB hHeld ⊢
        clear hW0
        refine wpAnyX_take (i := 0) (oi := _) (v := ?_) rfl (by kernel_rfl) (by kernel_rfl) (by kernel_rfl) (by kernel_rfl) (by kernel_rfl) (fun _ _ _ h => h) (Or.inl ⟨by rfl, ?_⟩) (by assumption) ?_
        rotate_left
        · (intro w hSw; go_simp; first | done | (with_reducible rfl))
        simp only [Act.put, List.getElem_toArray, List.getElem_cons_zero, List.setIfInBounds_toArray, List.set_cons_zero, List.set_cons_succ]
        refine wpAnyX_take (i := 1) (oi := _) (v := ?_) rfl (by kernel_rfl) (by kernel_rfl) (by kernel_rfl) (by kernel_rfl) (by kernel_rfl) (fun _ _ _ h => h) (Or.inl ⟨by rfl, ?_⟩) (by assumption) ?_
        rotate_left
        · (intro w hSw; go_simp; first | done | (with_reducible rfl))
        simp only [Act.put, List.getElem_toArray, List.getElem_cons_succ, List.getElem_cons_zero, List.setIfInBounds_toArray, List.set_cons_zero, List.set_cons_succ]
        refine wpAnyX_take (i := 2) (oi := _) (v := ?_) rfl (by kernel_rfl) (by kernel_rfl) (by kernel_rfl) (by kernel_rfl) (by kernel_rfl) (fun _ _ _ h => h) (Or.inl ⟨by rfl, ?_⟩) (by assumption) ?_
        rotate_left
        · (intro w hSw; go_simp; first | done | (with_reducible rfl))
        simp only [Act.put, List.getElem_toArray, List.getElem_cons_succ, List.getElem_cons_zero, List.setIfInBounds_toArray, List.set_cons_zero, List.set_cons_succ]
        refine wpAnyX_take (i := 3) (oi := _) (v := sl g n c) rfl (by kernel_rfl) (by kernel_rfl) (by kernel_rfl) (by kernel_rfl) (by kernel_rfl) (fun _ _ _ h => h) (Or.inl ⟨by rfl, ?_⟩) (by assumption) ?_
        · (intro w hSw; have q0 := (hSw.boxGet k1m).cellv 0 _ rfl; go_simp; first | done | rfl | (simp; done) | trace_state)
        simp only [Act.put, List.getElem_toArray, List.getElem_cons_succ, List.getElem_cons_zero, List.setIfInBounds_toArray, List.set_cons_zero, List.set_cons_succ]
        refine wpAnyX_take (i := 4) (oi := _) (v := ?_) rfl (by kernel_rfl) (by kernel_rfl) (by kernel_rfl) (by kernel_rfl) (by kernel_rfl) (fun _ _ _ h => h) (Or.inl ⟨by rfl, ?_⟩) (by assumption) ?_
        rotate_left
        · (intro w hSw; go_simp; first | done | (with_reducible rfl))
        simp only [Act.put, List.getElem_toArray, List.getElem_cons_succ, List.getElem_cons_zero, List.setIfInBounds_toArray, List.set_cons_zero, List.set_cons_succ]
        refine wpAnyX_take (i := 5) (oi := _) (v := ?_) rfl (by kernel_rfl) (by kernel_rfl) (by kernel_rfl) (by kernel_rfl) (by kernel_rfl) (fun _ _ _ h => h) (Or.inl ⟨by rfl, ?_⟩) (by assumption) ?_
        rotate_left
        · (intro w hSw; go_simp; first | done | (with_reducible rfl))
        simp only [Act.put, List.getElem_toArray, List.getElem_cons_succ, List.getElem_cons_zero, List.setIfInBounds_toArray, List.set_cons_zero, List.set_cons_succ]
        refine wpAnyX_take (i := 6) (oi := _) (v := ?_) rfl (by kernel_rfl) (by kernel_rfl) (by kernel_rfl) (by kernel_rfl) (by kernel_rfl) (fun _ _ _ h => h) (Or.inl ⟨by rfl, ?_⟩) (by assumption) ?_
        rotate_left
        · (intro w hSw; go_simp; first | done | (with_reducible rfl))
        simp only [Act.put, List.getElem_toArray, List.getElem_cons_succ, List.getElem_cons_zero, List.setIfInBounds_toArray, List.set_cons_zero, List.set_cons_succ]
        refine wpAnyX_take (i := 7) (oi := _) (v := .agg #[iv s.x, iv s.y]) rfl (by kernel_rfl) (by kernel_rfl) (by kernel_rfl) (by kernel_rfl) (by kernel_rfl) (fun _ _ _ h => h) (Or.inl ⟨by rfl, ?_⟩) (by assumption) ?_
        · (intro w hSw; have q1 : World.cell? w ⟨g, i * 3 + 1, none⟩ = some (iv s.x) := (pls_rd hSw k2m (by omega) HP.out : World.rangeAt w g (i * 3) [iv s.id, iv s.x, iv s.y]) 1 _ rfl; have q2 : World.cell? w ⟨g, i * 3 + 1 + 1, none⟩ = some (iv s.y) := (pls_rd hSw k2m (by omega) HP.out : World.rangeAt w g (i * 3) [iv s.id, iv s.x, iv s.y]) 2 _ rfl; go_simp; first | done | rfl | (simp; done) | trace_state)
        simp only [Act.put, List.getElem_toArray, List.getElem_cons_succ, List.getElem_cons_zero, List.setIfInBounds_toArray, List.set_cons_zero, List.set_cons_succ]
        refine wpAnyX_take (i := 8) (oi := _) (v := .agg #[iv x, iv y]) rfl (by kernel_rfl) (by kernel_rfl) (by kernel_rfl) (by kernel_rfl) (by kernel_rfl) (fun _ _ _ h => h) (Or.inl ⟨by rfl, ?_⟩) (by assumption) ?_
        · (intro w hSw; have q0 := (hSw.boxGet k3m).cellv 0 _ rfl; have q1 := (hSw.boxGet k3m).cellv 1 _ rfl; go_simp; first | done | rfl | (simp; done) | trace_state)
        simp only [Act.put, List.getElem_toArray, List.getElem_cons_succ, List.getElem_cons_zero, List.setIfInBounds_toArray, List.set_cons_zero, List.set_cons_succ]
        refine wpAnyX_take (i := 9) (oi := _) (v := ?_) rfl (by kernel_rfl) (by kernel_rfl) (by kernel_rfl) (by kernel_rfl) (by kernel_rfl) (fun _ _ _ h => h) (Or.inl ⟨by rfl, ?_⟩) (by assumption) ?_
        rotate_left
        · (intro w hSw; go_simp; first | done | (with_reducible rfl))
        simp only [Act.put, List.getElem_toArray, List.getElem_cons_succ, List.getElem_cons_zero, List.setIfInBounds_toArray, List.set_cons_zero, List.set_cons_succ]
        refine wpAnyX_one (i := 10) (by kernel_rfl) rfl (fun K hK => ?_)
        go_simp
        refine (HW.out _).mono ?_
        rintro e wg ⟨rfl, hg⟩
        replace HB := Keep.mk (HB.out.grown hg.g)
        refine hK.out _ _ HB.out (fun hHeld => ?_)
        clear hK K hg
        refine wpAnyX_done (by kernel_rfl) ?_ _
        go_wp2_with fail
        go_roundw
        case rel => exact ⟨T, i + 1, by omega, rfl, HB, HEQ⟩
        case measure => simp [intOf]; omega
      case true =>
        have HEQ : Keep (T ++ [s] = nr (M.take (i + 1)) x y r) := ⟨by rw [nr_yes HP.out HBB.out, hE.out]⟩
        have HLB : Keep ((T.length + 1) * 24 ≤ 140737488355328) := ⟨len_b1 (d := false) (by rw [hE.out]; exact nr_le _ _ _ _ _) HN.out hlt⟩
        clear hE
        go_wp2_with fail
        refine region_X (S := fun w' => Sep w0 w' (rowV 75 3 u9 (T).length (pls (T)) :: boxA rb [sl g n c] 73 :: rowV 75 3 (sl g n c) n (pls M) :: boxA ab [iv x, iv y] 32 :: l)) [] (by kernel_rfl) (HB.out.grown (gr_drew _ _)) (fun hHeld => ?_)
        replace HB := Keep.mk hHeld
        obtain ⟨W0, hW0⟩ : ∃ W_, wr.drew = W_ := ⟨_, rfl⟩
        rw [hW0] at HB hHeld ⊢
        clear hW0
        refine wpAnyX_take (i := 0) (oi := _) (v := ?_) rfl (by kernel_rfl) (by kernel_rfl) (by kernel_rfl) (by kernel_rfl) (by kernel_rfl) (fun _ _ _ h => h) (Or.inl ⟨by rfl, ?_⟩) (by assumption) ?_
        rotate_left
        · (intro w hSw; go_simp; first | done | (with_reducible rfl))
        simp only [Act.put, List.getElem_toArray, List.getElem_cons_zero, List.setIfInBounds_toArray, List.set_cons_zero, List.set_cons_succ]
        refine wpAnyX_take (i := 1) (oi := _) (v := ?_) rfl (by kernel_rfl) (by kernel_rfl) (by kernel_rfl) (by kernel_rfl) (by kernel_rfl) (fun _ _ _ h => h) (Or.inl ⟨by rfl, ?_⟩) (by assumption) ?_
        rotate_left
        · (intro w hSw; go_simp; first | done | (with_reducible rfl))
        simp only [Act.put, List.getElem_toArray, List.getElem_cons_succ, List.getElem_cons_zero, List.setIfInBounds_toArray, List.set_cons_zero, List.set_cons_succ]
        refine wpAnyX_take (i := 2) (oi := _) (v := ?_) rfl (by kernel_rfl) (by kernel_rfl) (by kernel_rfl) (by kernel_rfl) (by kernel_rfl) (fun _ _ _ h => h) (Or.inl ⟨by rfl, ?_⟩) (by assumption) ?_
        rotate_left
        · (intro w hSw; go_simp; first | done | (with_reducible rfl))
        simp only [Act.put, List.getElem_toArray, List.getElem_cons_succ, List.getElem_cons_zero, List.setIfInBounds_toArray, List.set_cons_zero, List.set_cons_succ]
        refine wpAnyX_take (i := 3) (oi := _) (v := sl g n c) rfl (by kernel_rfl) (by kernel_rfl) (by kernel_rfl) (by kernel_rfl) (by kernel_rfl) (fun _ _ _ h => h) (Or.inl ⟨by rfl, ?_⟩) (by assumption) ?_
        · (intro w hSw; have q0 := (hSw.boxGet k1m).cellv 0 _ rfl; go_simp; first | done | rfl | (simp; done) | trace_state)
        simp only [Act.put, List.getElem_toArray, List.getElem_cons_succ, List.getElem_cons_zero, List.setIfInBounds_toArray, List.set_cons_zero, List.set_cons_succ]
        refine wpAnyX_take (i := 4) (oi := _) (v := ?_) rfl (by kernel_rfl) (by kernel_rfl) (by kernel_rfl) (by kernel_rfl) (by kernel_rfl) (fun _ _ _ h => h) (Or.inl ⟨by rfl, ?_⟩) (by assumption) ?_
        rotate_left
        · (intro w hSw; go_simp; first | done | (with_reducible rfl))
        simp only [Act.put, List.getElem_toArray, List.getElem_cons_succ, List.getElem_cons_zero, List.setIfInBounds_toArray, List.set_cons_zero, List.set_cons_succ]
        refine wpAnyX_take (i := 5) (oi := _) (v := ?_) rfl (by kernel_rfl) (by kernel_rfl) (by kernel_rfl) (by kernel_rfl) (by kernel_rfl) (fun _ _ _ h => h) (Or.inl ⟨by rfl, ?_⟩) (by assumption) ?_
        rotate_left
        · (intro w hSw; go_simp; first | done | (with_reducible rfl))
        simp only [Act.put, List.getElem_toArray, List.getElem_cons_succ, List.getElem_cons_zero, List.setIfInBounds_toArray, List.set_cons_zero, List.set_cons_succ]
        refine wpAnyX_take (i := 6) (oi := _) (v := ?_) rfl (by kernel_rfl) (by kernel_rfl) (by kernel_rfl) (by kernel_rfl) (by kernel_rfl) (fun _ _ _ h => h) (Or.inl ⟨by rfl, ?_⟩) (by assumption) ?_
        rotate_left
        · (intro w hSw; go_simp; first | done | (with_reducible rfl))
        simp only [Act.put, List.getElem_toArray, List.getElem_cons_succ, List.getElem_cons_zero, List.setIfInBounds_toArray, List.set_cons_zero, List.set_cons_succ]
        refine wpAnyX_take (i := 7) (oi := _) (v := .agg #[iv s.x, iv s.y]) rfl (by kernel_rfl) (by kernel_rfl) (by kernel_rfl) (by kernel_rfl) (by kernel_rfl) (fun _ _ _ h => h) (Or.inl ⟨by rfl, ?_⟩) (by assumption) ?_
        · (intro w hSw; have q1 : World.cell? w ⟨g, i * 3 + 1, none⟩ = some (iv s.x) := (pls_rd hSw k2m (by omega) HP.out : World.rangeAt w g (i * 3) [iv s.id, iv s.x, iv s.y]) 1 _ rfl; have q2 : World.cell? w ⟨g, i * 3 + 1 + 1, none⟩ = some (iv s.y) := (pls_rd hSw k2m (by omega) HP.out : World.rangeAt w g (i * 3) [iv s.id, iv s.x, iv s.y]) 2 _ rfl; go_simp; first | done | rfl | (simp; done) | trace_state)
        simp only [Act.put, List.getElem_toArray, List.getElem_cons_succ, List.getElem_cons_zero, List.setIfInBounds_toArray, List.set_cons_zero, List.set_cons_succ]
        refine wpAnyX_take (i := 8) (oi := _) (v := .agg #[iv x, iv y]) rfl (by kernel_rfl) (by kernel_rfl) (by kernel_rfl) (by kernel_rfl) (by kernel_rfl) (fun _ _ _ h => h) (Or.inl ⟨by rfl, ?_⟩) (by assumption) ?_
        · (intro w hSw; have q0 := (hSw.boxGet k3m).cellv 0 _ rfl; have q1 := (hSw.boxGet k3m).cellv 1 _ rfl; go_simp; first | done | rfl | (simp; done) | trace_state)
        simp only [Act.put, List.getElem_toArray, List.getElem_cons_succ, List.getElem_cons_zero, List.setIfInBounds_toArray, List.set_cons_zero, List.set_cons_succ]
        refine wpAnyX_take (i := 9) (oi := _) (v := ?_) rfl (by kernel_rfl) (by kernel_rfl) (by kernel_rfl) (by kernel_rfl) (by kernel_rfl) (fun _ _ _ h => h) (Or.inl ⟨by rfl, ?_⟩) (by assumption) ?_
        rotate_left
        · (intro w hSw; go_simp; first | done | (with_reducible rfl))
        simp only [Act.put, List.getElem_toArray, List.getElem_cons_succ, List.getElem_cons_zero, List.setIfInBounds_toArray, List.set_cons_zero, List.set_cons_succ]
        refine wpAnyX_one (i := 10) (by kernel_rfl) rfl (fun K hK => ?_)
        go_simp
        refine (HW.out _).mono ?_
        rintro e wg ⟨rfl, hg⟩
        replace HB := Keep.mk (HB.out.grown hg.g)
        refine hK.out _ _ HB.out (fun hHeld => ?_)
        clear hK K hg
        refine wpAnyX_done (by kernel_rfl) ?_ _
        obtain ⟨g9, g9c, W9, ap9, S9⟩ := HB.out.appP s (HLB.out)
        have AP9 := Keep.mk ap9
        have d0 := (HB.out.boxGet k1m).cellv 0 _ rfl
        have RN9 := Keep.mk (pls_rd HB.out k2m (by omega) HP.out)
        unfold plv at RN9
        obtain ⟨n9, hn9⟩ : ∃ z, T.length + 1 = z := ⟨_, rfl⟩
        rw [hn9] at AP9 S9
        replace HB : Keep (Sep w0 W9 (rowV 75 3 (sl g9 n9 g9c) (T ++ [s]).length (pls (T ++ [s])) :: boxA rb [sl g n c] 73 :: rowV 75 3 (sl g n c) n (pls M) :: boxA ab [iv x, iv y] 32 :: l)) := ⟨S9⟩
        clear ap9 S9 hn9
        go_wp2_with (first
          | (at_builtin; show wpList _ _ _ ({ dst := some 45, op := _, type := _, pos := _, after := _, guard := _ } :: _) _ _; refine wpList_append_run _ rfl (.tmp 36) (.tmp 44) 71 rfl _ _ rfl rfl AP9.out ?_)
          | (show wpList _ _ _ ({ dst := some 44, op := Op.buildSlice 71 _ _, type := _, pos := _, after := _, guard := _ } :: _) _ _
             refine wpList_bs_run rfl (.tmp 43) 71 rfl _ rfl (bs3_run _ _ _ _) ?_)
          | (show wpList _ _ _ ({ dst := _, op := Op.load 75 _, type := _, pos := _, after := _, guard := _ } :: _) _ _
             refine wpList_load_mid rfl 75 _ rfl _ _ rfl _ _ RN9.out hdu hdr info75 ?_)
          | fail)
        go_roundw
        case rel => exact ⟨T ++ [s], i + 1, by omega, rfl, HB, HEQ⟩
        case measure => simp [intOf]; omega
    · have HF : Keep (T = nr M x y r) := ⟨by rw [hE.out, List.take_of_length_le (by rw [HQ.out]; omega)]⟩
      have HS1 : Keep (Sep w0 wr (rowV 75 3 u9 (nr M x y r).length (pls (nr M x y r)) :: rowV 3 1 (.slice none 0 0) (([] : List Pl)).length ((([] : List Pl)).map (fun t => iv t.id)) :: boxA ab [iv x, iv y] 32 :: rgA rb M :: l)) := ⟨by
        have q := HB.out
        have hq := HQ.out
        subst hq
        rw [HF.out] at q
        have q3 := (rg_shut (M := M) (bk1 [_, _] q)).third.third
        exact (q3.nilV 3 1).swap⟩
      clear HB hE HF
      go_wp2_with fail
      clear c0
      go_loopw [9, 11] (fun u9 u11 wr => ∃ (L O : List Pl), Keep (Sep w0 wr (rowV 75 3 u9 (L).length (pls (L)) :: rowV 3 1 u11 (O).length ((O).map (fun t => iv t.id)) :: boxA ab [iv x, iv y] 32 :: rgA rb M :: l)) ∧ Keep (RNst M x y r n0 L O) ∧ lenOf u9 = L.length) (fun u9 _ _ => lenOf u9)
      case atStart =>
        obtain ⟨_, _, e⟩ := own_slice (HS1.out.rowGet k0m)
        exact ⟨_, [], HS1, HST, by rw [e]; rfl⟩
      case round =>
        clear HS1 HST
        obtain ⟨L, O, HB, HI2, _⟩ := hrel
        obtain ⟨a2, c2, e9⟩ := own_slice (HB.out.rowGet k0m)
        obtain ⟨a3, c3, e11⟩ := own_slice (HB.out.rowGet k1m)
        obtain ⟨m, hm⟩ : ∃ m, L.length = m := ⟨_, rfl⟩
        obtain ⟨o, ho⟩ : ∃ o, O.length = o := ⟨_, rfl⟩
        have HM := Keep.mk hm
        have HO := Keep.mk ho
        rw [hm] at e9 HB
        rw [ho] at e11 HB
        subst e9 e11
        clear hm ho
        have HMN : Keep (o + m ≤ n) := ⟨by have := HI2.out.bd; rw [HM.out, HO.out, HQ.out] at this; exact this⟩
        by_cases hc : 0 < m ∧ (o : Int) < n0
        · obtain ⟨h0, h1⟩ := hc
          have h00 : (0 : Int) < (m : Int) := by omega
          have HC := Keep.mk h1
          go_wp2_with fail
          clear h1 h00
          go_loopw [12, 13] (fun u12 u13 wz => ∃ (b i : Nat), u12 = iv b ∧ u13 = iv i ∧ 1 ≤ i ∧ i ≤ m ∧ Keep (Bst L x y b i) ∧ Keep (Sep w0 wz (rowV 75 3 (.slice a2 m c2) m (pls L) :: rowV 3 1 (.slice a3 o c3) o (O.map (fun t => iv t.id)) :: boxA ab [iv x, iv y] 32 :: rgA rb M :: l))) (fun _ u13 _ => (m - intOf u13).toNat)
          case atStart => exact ⟨0, 1, rfl, rfl, by omega, by omega, ⟨Bst.start L x y⟩, HB⟩
          case round =>
            clear HB
            obtain ⟨b, i, rfl, rfl, hi0, hi, HBS, HB⟩ := hrel
            have hbi := HBS.out.lt
            have hwi : IntKind.i64.wrap ((i : Int) + 1) = ((i + 1 : Nat) : Int) := by have := HN.out; have := HMN.out; rw [IntKind.wrap_i64]; omega
            obtain ⟨g, c', e1, _⟩ := own_any (HB.out.rowGet k0m) (by omega)
            injection e1 with e1 _ e3
            subst e1 e3
            obtain ⟨t, ht⟩ : ∃ t, L[b]? = some t := ⟨_, List.getElem?_eq_getElem (by rw [HM.out]; omega)⟩
            have HT := Keep.mk ht
            by_cases hlt : i < m
            · obtain ⟨s, hs⟩ : ∃ s, L[i]? = some s := ⟨_, List.getElem?_eq_getElem (by rw [HM.out]; exact hlt)⟩
              have HP := Keep.mk hs
              have hi1 : (i : Int) < (m : Int) := by omega
              have hb1 : (b : Int) < (m : Int) := by omega
              have hb2 : b < m := by omega
              have rs := HI2.out.rg s (List.mem_of_getElem? hs)
              have rt := HI2.out.rg t (List.mem_of_getElem? ht)
              have HD1 := Keep.mk (fun w => rdist_c s.x s.y x y rs.2.1 rs.2.2 HI.out.1 HI.out.2 w)
              have HD2 := Keep.mk (fun w => rdist_c t.x t.y x y rt.2.1 rt.2.2 HI.out.1 HI.out.2 w)
              have HBY := Keep.mk (fun q => HBS.out.yes ht hs q)
              have HBN := Keep.mk (fun q => HBS.out.no HI2.out.srt ht hs q)
              obtain ⟨v1, hv1⟩ : ∃ v, d2 s.x s.y x y = v := ⟨_, rfl⟩
              obtain ⟨v2, hv2⟩ : ∃ v, d2 t.x t.y x y = v := ⟨_, rfl⟩
              rw [hv1] at HD1
              rw [hv2] at HD2
              rw [hv1, hv2] at HBY HBN
              clear rs rt hs ht hv1 hv2 HBS
              by_cases hd : v1 < v2
              · have HX := Keep.mk (HBY.out hd)
                go_wp2_with fail
                refine region_X (S := fun w' => Sep w0 w' (rowV 75 3 (sl g m c2) m (pls L) :: rowV 3 1 (.slice a3 o c3) o (O.map (fun t => iv t.id)) :: boxA ab [iv x, iv y] 32 :: rgA rb M :: l)) [] (by kernel_rfl) (HB.out.grown (gr_drew _ _)) (fun hHeld => ?_)
                replace HB := Keep.mk hHeld
                obtain ⟨W0, hW0⟩ : ∃ W_, wr.drew = W_ := ⟨_, rfl⟩
                rw [hW0] at HB hHeld ⊢
                clear hW0
                refine wpAnyX_take (i := 0) (oi := _) (v := ?_) rfl (by kernel_rfl) (by kernel_rfl) (by kernel_rfl) (by kernel_rfl) (by kernel_rfl) (fun _ _ _ h => h) (Or.inl ⟨by rfl, ?_⟩) (by assumption) ?_
                rotate_left
                · (intro w hSw; go_simp; first | done | (with_reducible rfl))
                simp only [Act.put, List.getElem_toArray, List.getElem_cons_zero, List.setIfInBounds_toArray, List.set_cons_zero, List.set_cons_succ]
                refine wpAnyX_take (i := 1) (oi := _) (v := ?_) rfl (by kernel_rfl) (by kernel_rfl) (by kernel_rfl) (by kernel_rfl) (by kernel_rfl) (fun _ _ _ h => h) (Or.inl ⟨by rfl, ?_⟩) (by assumption) ?_
                rotate_left
                · (intro w hSw; go_simp; first | done | (with_reducible rfl))
                simp only [Act.put, List.getElem_toArray, List.getElem_cons_succ, List.getElem_cons_zero, List.setIfInBounds_toArray, List.set_cons_zero, List.set_cons_succ]
                refine wpAnyX_take (i := 2) (oi := _) (v := ?_) rfl (by kernel_rfl) (by kernel_rfl) (by kernel_rfl) (by kernel_rfl) (by kernel_rfl) (fun _ _ _ h => h) (Or.inl ⟨by rfl, ?_⟩) (by assumption) ?_
                rotate_left
                · (intro w hSw; go_simp; first | done | (with_reducible rfl))
                simp only [Act.put, List.getElem_toArray, List.getElem_cons_succ, List.getElem_cons_zero, List.setIfInBounds_toArray, List.set_cons_zero, List.set_cons_succ]
                refine wpAnyX_take (i := 3) (oi := _) (v := ?_) rfl (by kernel_rfl) (by kernel_rfl) (by kernel_rfl) (by kernel_rfl) (by kernel_rfl) (fun _ _ _ h => h) (Or.inl ⟨by rfl, ?_⟩) (by assumption) ?_
                rotate_left
                · (intro w hSw; go_simp; first | done | (with_reducible rfl))
                simp only [Act.put, List.getElem_toArray, List.getElem_cons_succ, List.getElem_cons_zero, List.setIfInBounds_toArray, List.set_cons_zero, List.set_cons_succ]
                refine wpAnyX_take (i := 4) (oi := _) (v := .agg #[iv s.x, iv s.y]) rfl (by kernel_rfl) (by kernel_rfl) (by kernel_rfl) (by kernel_rfl) (by kernel_rfl) (fun _ _ _ h => h) (Or.inl ⟨by rfl, ?_⟩) (by assumption) ?_
                · (intro w hSw; have q1 : World.cell? w ⟨g, i * 3 + 1, none⟩ = some (iv s.x) := (pls_rd hSw k0m (by omega) HP.out : World.rangeAt w g (i * 3) [iv s.id, iv s.x, iv s.y]) 1 _ rfl; have q2 : World.cell? w ⟨g, i * 3 + 1 + 1, none⟩ = some (iv s.y) := (pls_rd hSw k0m (by omega) HP.out : World.rangeAt w g (i * 3) [iv s.id, iv s.x, iv s.y]) 2 _ rfl; go_simp; first | done | rfl | (simp; done) | trace_state)
                simp only [Act.put, List.getElem_toArray, List.getElem_cons_succ, List.getElem_cons_zero, List.setIfInBounds_toArray, List.set_cons_zero, List.set_cons_succ]
                refine wpAnyX_take (i := 5) (oi := _) (v := .agg #[iv x, iv y]) rfl (by kernel_rfl) (by kernel_rfl) (by kernel_rfl) (by kernel_rfl) (by kernel_rfl) (fun _ _ _ h => h) (Or.inl ⟨by rfl, ?_⟩) (by assumption) ?_
                · (intro w hSw; have q0 := (hSw.boxGet k2m).cellv 0 _ rfl; have q1 := (hSw.boxGet k2m).cellv 1 _ rfl; go_simp; first | done | rfl | (simp; done) | trace_state)
                simp only [Act.put, List.getElem_toArray, List.getElem_cons_succ, List.getElem_cons_zero, List.setIfInBounds_toArray, List.set_cons_zero, List.set_cons_succ]
                refine wpAnyX_take (i := 7) (oi := _) (v := ?_) rfl (by kernel_rfl) (by kernel_rfl) (by kernel_rfl) (by kernel_rfl) (by kernel_rfl) (fun _ _ _ h => h) (Or.inl ⟨by rfl, ?_⟩) (by assumption) ?_
                rotate_left
                · (intro w hSw; go_simp; first | done | (with_reducible rfl))
                simp only [Act.put, List.getElem_toArray, List.getElem_cons_succ, List.getElem_cons_zero, List.setIfInBounds_toArray, List.set_cons_zero, List.set_cons_succ]
                refine wpAnyX_take (i := 8) (oi := _) (v := ?_) rfl (by kernel_rfl) (by kernel_rfl) (by kernel_rfl) (by kernel_rfl) (by kernel_rfl) (fun _ _ _ h => h) (Or.inl ⟨by rfl, ?_⟩) (by assumption) ?_
                rotate_left
                · (intro w hSw; go_simp; first | done | (with_reducible rfl))
                simp only [Act.put, List.getElem_toArray, List.getElem_cons_succ, List.getElem_cons_zero, List.setIfInBounds_toArray, List.set_cons_zero, List.set_cons_succ]
                refine wpAnyX_take (i := 9) (oi := _) (v := ?_) rfl (by kernel_rfl) (by kernel_rfl) (by kernel_rfl) (by kernel_rfl) (by kernel_rfl) (fun _ _ _ h => h) (Or.inl ⟨by rfl, ?_⟩) (by assumption) ?_
                rotate_left
                · (intro w hSw; go_simp; first | done | (with_reducible rfl))
                simp only [Act.put, List.getElem_toArray, List.getElem_cons_succ, List.getElem_cons_zero, List.setIfInBounds_toArray, List.set_cons_zero, List.set_cons_succ]
                refine wpAnyX_take (i := 10) (oi := _) (v := ?_) rfl (by kernel_rfl) (by kernel_rfl) (by kernel_rfl) (by kernel_rfl) (by kernel_rfl) (fun _ _ _ h => h) (Or.inl ⟨by rfl, ?_⟩) (by assumption) ?_
                rotate_left
                · (intro w hSw; go_simp; first | done | (with_reducible rfl))
                simp only [Act.put, List.getElem_toArray, List.getElem_cons_succ, List.getElem_cons_zero, List.setIfInBounds_toArray, List.set_cons_zero, List.set_cons_succ]
                refine wpAnyX_take (i := 11) (oi := _) (v := .agg #[iv t.x, iv t.y]) rfl (by kernel_rfl) (by kernel_rfl) (by kernel_rfl) (by kernel_rfl) (by kernel_rfl) (fun _ _ _ h => h) (Or.inl ⟨by rfl, ?_⟩) (by assumption) ?_
                · (intro w hSw; have q1 : World.cell? w ⟨g, b * 3 + 1, none⟩ = some (iv t.x) := (pls_rd hSw k0m (by omega) HT.out : World.rangeAt w g (b * 3) [iv t.id, iv t.x, iv t.y]) 1 _ rfl; have q2 : World.cell? w ⟨g, b * 3 + 1 + 1, none⟩ = some (iv t.y) := (pls_rd hSw k0m (by omega) HT.out : World.rangeAt w g (b * 3) [iv t.id, iv t.x, iv t.y]) 2 _ rfl; go_simp; first | done | rfl | (simp; done) | trace_state)
                simp only [Act.put, List.getElem_toArray, List.getElem_cons_succ, List.getElem_cons_zero, List.setIfInBounds_toArray, List.set_cons_zero, List.set_cons_succ]
                refine wpAnyX_take (i := 12) (oi := _) (v := .agg #[iv x, iv y]) rfl (by kernel_rfl) (by kernel_rfl) (by kernel_rfl) (by kernel_rfl) (by kernel_rfl) (fun _ _ _ h => h) (Or.inl ⟨by rfl, ?_⟩) (by assumption) ?_
                · (intro w hSw; have q0 := (hSw.boxGet k2m).cellv 0 _ rfl; have q1 := (hSw.boxGet k2m).cellv 1 _ rfl; go_simp; first | done | rfl | (simp; done) | trace_state)
                simp only [Act.put, List.getElem_toArray, List.getElem_cons_succ, List.getElem_cons_zero, List.setIfInBounds_toArray, List.set_cons_zero, List.set_cons_succ]
                refine wpAnyX_one (i := 6) (by kernel_rfl) rfl (fun K hK => ?_)
                go_simp
                refine (HD1.out _).mono ?_
                rintro e wg ⟨rfl, hg⟩
                replace HB := Keep.mk (HB.out.grown hg.g)
                refine hK.out _ _ HB.out (fun hHeld => ?_)
                clear hK K hg
                refine wpAnyX_one (i := 13) (by kernel_rfl) rfl (fun K hK => ?_)
                go_simp
                refine (HD2.out _).mono ?_
                rintro e wg ⟨rfl, hg⟩
                replace HB := Keep.mk (HB.out.grown hg.g)
                refine hK.out _ _ HB.out (fun hHeld => ?_)
                clear hK K hg
                refine wpAnyX_take (i := 14) (oi := _) (v := ?_) rfl (by kernel_rfl) (by kernel_rfl) (by kernel_rfl) (by kernel_rfl) (by kernel_rfl) (fun _ _ _ h => h) (Or.inl ⟨by rfl, ?_⟩) (by assumption) ?_
                rotate_left
                · (intro w hSw; go_simp; first | done | (with_reducible rfl))
                simp only [Act.put, List.getElem_toArray, List.getElem_cons_succ, List.getElem_cons_zero, List.setIfInBounds_toArray, List.set_cons_zero, List.set_cons_succ]
                refine wpAnyX_done (by kernel_rfl) ?_ _
                go_wp2_with fail
                go_roundw
                case rel => exact ⟨i, i + 1, rfl, rfl, by omega, by omega, HX, HB⟩
                case measure => simp [intOf]; omega
              · have HX := Keep.mk (HBN.out hd)
                go_wp2_with fail
                refine region_X (S := fun w' => Sep w0 w' (rowV 75 3 (sl g m c2) m (pls L) :: rowV 3 1 (.slice a3 o c3) o (O.map (fun t => iv t.id)) :: boxA ab [iv x, iv y] 32 :: rgA rb M :: l)) [] (by kernel_rfl) (HB.out.grown (gr_drew _ _)) (fun hHeld => ?_)
                replace HB := Keep.mk hHeld
                obtain ⟨W0, hW0⟩ : ∃ W_, wr.drew = W_ := ⟨_, rfl⟩
                rw [hW0] at HB hHeld ⊢
                clear hW0
                refine wpAnyX_take (i := 0) (oi := _) (v := ?_) rfl (by kernel_rfl) (by kernel_rfl) (by kernel_rfl) (by kernel_rfl) (by kernel_rfl) (fun _ _ _ h => h) (Or.inl ⟨by rfl, ?_⟩) (by assumption) ?_
                rotate_left
                · (intro w hSw; go_simp; first | done | (with_reducible rfl))
                simp only [Act.put, List.getElem_toArray, List.getElem_cons_zero, List.setIfInBounds_toArray, List.set_cons_zero, List.set_cons_succ]
                refine wpAnyX_take (i := 1) (oi := _) (v := ?_) rfl (by kernel_rfl) (by kernel_rfl) (by kernel_rfl) (by kernel_rfl) (by kernel_rfl) (fun _ _ _ h => h) (Or.inl ⟨by rfl, ?_⟩) (by assumption) ?_
                rotate_left
                · (intro w hSw; go_simp; first | done | (with_reducible rfl))
                simp only [Act.put, List.getElem_toArray, List.getElem_cons_succ, List.getElem_cons_zero, List.setIfInBounds_toArray, List.set_cons_zero, List.set_cons_succ]
                refine wpAnyX_take (i := 2) (oi := _) (v := ?_) rfl (by kernel_rfl) (by kernel_rfl) (by kernel_rfl) (by kernel_rfl) (by kernel_rfl) (fun _ _ _ h => h) (Or.inl ⟨by rfl, ?_⟩) (by assumption) ?_
                rotate_left
                · (intro w hSw; go_simp; first | done | (with_reducible rfl))
                simp only [Act.put, List.getElem_toArray, List.getElem_cons_succ, List.getElem_cons_zero, List.setIfInBounds_toArray, List.set_cons_zero, List.set_cons_succ]
                refine wpAnyX_take (i := 3) (oi := _) (v := ?_) rfl (by kernel_rfl) (by kernel_rfl) (by kernel_rfl) (by kernel_rfl) (by kernel_rfl) (fun _ _ _ h => h) (Or.inl ⟨by rfl, ?_⟩) (by assumption) ?_
                rotate_left
                · (intro w hSw; go_simp; first | done | (with_reducible rfl))
                simp only [Act.put, List.getElem_toArray, List.getElem_cons_succ, List.getElem_cons_zero, List.setIfInBounds_toArray, List.set_cons_zero, List.set_cons_succ]
                refine wpAnyX_take (i := 4) (oi := _) (v := .agg #[iv s.x, iv s.y]) rfl (by kernel_rfl) (by kernel_rfl) (by kernel_rfl) (by kernel_rfl) (by kernel_rfl) (fun _ _ _ h => h) (Or.inl ⟨by rfl, ?_⟩) (by assumption) ?_
                · (intro w hSw; have q1 : World.cell? w ⟨g, i * 3 + 1, none⟩ = some (iv s.x) := (pls_rd hSw k0m (by omega) HP.out : World.rangeAt w g (i * 3) [iv s.id, iv s.x, iv s.y]) 1 _ rfl; have q2 : World.cell? w ⟨g, i * 3 + 1 + 1, none⟩ = some (iv s.y) := (pls_rd hSw k0m (by omega) HP.out : World.rangeAt w g (i * 3) [iv s.id, iv s.x, iv s.y]) 2 _ rfl; go_simp; first | done | rfl | (simp; done) | trace_state)
                simp only [Act.put, List.getElem_toArray, List.getElem_cons_succ, List.getElem_cons_zero, List.setIfInBounds_toArray, List.set_cons_zero, List.set_cons_succ]
                refine wpAnyX_take (i := 5) (oi := _) (v := .agg #[iv x, iv y]) rfl (by kernel_rfl) (by kernel_rfl) (by kernel_rfl) (by kernel_rfl) (by kernel_rfl) (fun _ _ _ h => h) (Or.inl ⟨by rfl, ?_⟩) (by assumption) ?_
                · (intro w hSw; have q0 := (hSw.boxGet k2m).cellv 0 _ rfl; have q1 := (hSw.boxGet k2m).cellv 1 _ rfl; go_simp; first | done | rfl | (simp; done) | trace_state)
                simp only [Act.put, List.getElem_toArray, List.getElem_cons_succ, List.getElem_cons_zero, List.setIfInBounds_toArray, List.set_cons_zero, List.set_cons_succ]
                refine wpAnyX_take (i := 7) (oi := _) (v := ?_) rfl (by kernel_rfl) (by kernel_rfl) (by kernel_rfl) (by kernel_rfl) (by kernel_rfl) (fun _ _ _ h => h) (Or.inl ⟨by rfl, ?_⟩) (by assumption) ?_
                rotate_left
                · (intro w hSw; go_simp; first | done | (with_reducible rfl))
                simp only [Act.put, List.getElem_toArray, List.getElem_cons_succ, List.getElem_cons_zero, List.setIfInBounds_toArray, List.set_cons_zero, List.set_cons_succ]
                refine wpAnyX_take (i := 8) (oi := _) (v := ?_) rfl (by kernel_rfl) (by kernel_rfl) (by kernel_rfl) (by kernel_rfl) (by kernel_rfl) (fun _ _ _ h => h) (Or.inl ⟨by rfl, ?_⟩) (by assumption) ?_
                rotate_left
                · (intro w hSw; go_simp; first | done | (with_reducible rfl))
                simp only [Act.put, List.getElem_toArray, List.getElem_cons_succ, List.getElem_cons_zero, List.setIfInBounds_toArray, List.set_cons_zero, List.set_cons_succ]
                refine wpAnyX_take (i := 9) (oi := _) (v := ?_) rfl (by kernel_rfl) (by kernel_rfl) (by kernel_rfl) (by kernel_rfl) (by kernel_rfl) (fun _ _ _ h => h) (Or.inl ⟨by rfl, ?_⟩) (by assumption) ?_
                rotate_left
                · (intro w hSw; go_simp; first | done | (with_reducible rfl))
                simp only [Act.put, List.getElem_toArray, List.getElem_cons_succ, List.getElem_cons_zero, List.setIfInBounds_toArray, List.set_cons_zero, List.set_cons_succ]
                refine wpAnyX_take (i := 10) (oi := _) (v := ?_) rfl (by kernel_rfl) (by kernel_rfl) (by kernel_rfl) (by kernel_rfl) (by kernel_rfl) (fun _ _ _ h => h) (Or.inl ⟨by rfl, ?_⟩) (by assumption) ?_
                rotate_left
                · (intro w hSw; go_simp; first | done | (with_reducible rfl))
                simp only [Act.put, List.getElem_toArray, List.getElem_cons_succ, List.getElem_cons_zero, List.setIfInBounds_toArray, List.set_cons_zero, List.set_cons_succ]
                refine wpAnyX_take (i := 11) (oi := _) (v := .agg #[iv t.x, iv t.y]) rfl (by kernel_rfl) (by kernel_rfl) (by kernel_rfl) (by kernel_rfl) (by kernel_rfl) (fun _ _ _ h => h) (Or.inl ⟨by rfl, ?_⟩) (by assumption) ?_
                · (intro w hSw; have q1 : World.cell? w ⟨g, b * 3 + 1, none⟩ = some (iv t.x) := (pls_rd hSw k0m (by omega) HT.out : World.rangeAt w g (b * 3) [iv t.id, iv t.x, iv t.y]) 1 _ rfl; have q2 : World.cell? w ⟨g, b * 3 + 1 + 1, none⟩ = some (iv t.y) := (pls_rd hSw k0m (by omega) HT.out : World.rangeAt w g (b * 3) [iv t.id, iv t.x, iv t.y]) 2 _ rfl; go_simp; first | done | rfl | (simp; done) | trace_state)
                simp only [Act.put, List.getElem_toArray, List.getElem_cons_succ, List.getElem_cons_zero, List.setIfInBounds_toArray, List.set_cons_zero, List.set_cons_succ]
                refine wpAnyX_take (i := 12) (oi := _) (v := .agg #[iv x, iv y]) rfl (by kernel_rfl) (by kernel_rfl) (by kernel_rfl) (by kernel_rfl) (by kernel_rfl) (fun _ _ _ h => h) (Or.inl ⟨by rfl, ?_⟩) (by assumption) ?_
                · (intro w hSw; have q0 := (hSw.boxGet k2m).cellv 0 _ rfl; have q1 := (hSw.boxGet k2m).cellv 1 _ rfl; go_simp; first | done | rfl | (simp; done) | trace_state)
                simp only [Act.put, List.getElem_toArray, List.getElem_cons_succ, List.getElem_cons_zero, List.setIfInBounds_toArray, List.set_cons_zero, List.set_cons_succ]
                refine wpAnyX_one (i := 6) (by kernel_rfl) rfl (fun K hK => ?_)
                go_simp
                refine (HD1.out _).mono ?_
                rintro e wg ⟨rfl, hg⟩
                replace HB := Keep.mk (HB.out.grown hg.g)
                refine hK.out _ _ HB.out (fun hHeld => ?_)
                clear hK K hg
                refine wpAnyX_one (i := 13) (by kernel_rfl) rfl (fun K hK => ?_)
                go_simp
                refine (HD2.out _).mono ?_
                rintro e wg ⟨rfl, hg⟩
                replace HB := Keep.mk (HB.out.grown hg.g)
                refine hK.out _ _ HB.out (fun hHeld => ?_)
                clear hK K hg
                refine wpAnyX_take (i := 14) (oi := _) (v := ?_) rfl (by kernel_rfl) (by kernel_rfl) (by kernel_rfl) (by kernel_rfl) (by kernel_rfl) (fun _ _ _ h => h) (Or.inl ⟨by rfl, ?_⟩) (by assumption) ?_
                rotate_left
                · (intro w hSw; go_simp; first | done | (with_reducible rfl))
                simp only [Act.put, List.getElem_toArray, List.getElem_cons_succ, List.getElem_cons_zero, List.setIfInBounds_toArray, List.set_cons_zero, List.set_cons_succ]
                refine wpAnyX_done (by kernel_rfl) ?_ _
                go_wp2_with fail
                go_roundw
                case rel => exact ⟨b, i + 1, rfl, rfl, by omega, by omega, HX, HB⟩
                case measure => simp [intOf]; omega
            · have HBM : Keep (Bst L x y b L.length) := ⟨by rw [HM.out, show m = i by omega]; exact HBS.out⟩
              have HNX := Keep.mk (HI2.out.step HBM.out ht (by rw [HO.out]; exact HC.out))
              have hb1 : (b : Int) < (m : Int) := by omega
              have hb2 : b < m := by omega
              obtain ⟨i0, i1, i2, i3, i4⟩ := info3b
              obtain ⟨g9, c9, W9, ap, S9⟩ := Sep.app (t := 29) (bytes := 8) Try.underlying29 i1 i4 i2 i3 rfl (by omega) HB.out.swap [iv t.id] rfl (by intro u hu; simp at hu; subst hu; rfl) (len_o HMN.out HN.out) (by omega)
              have AP := Keep.mk ap
              have r0 : World.cell? wr ⟨g, b * 3, none⟩ = some (iv t.id) := (pls_rd HB.out k0m (by omega) HT.out : World.rangeAt wr g (b * 3) [iv t.id, iv t.x, iv t.y]) 0 _ rfl
              obtain ⟨o9, ho9⟩ : ∃ z, o + 1 = z := ⟨_, rfl⟩
              have HO9 : Keep ((O ++ [t]).length = o9) := ⟨by rw [List.length_append, List.length_singleton, HO.out]; exact ho9⟩
              rw [ho9] at AP S9
              have HS9 : Keep (Sep w0 W9 (rowV 75 3 (.slice none 0 0) (([] : List Pl)).length (pls (([] : List Pl))) :: rowV 75 3 (sl g m c2) m (pls L) :: rowV 3 1 (sl g9 o9 c9) o9 ((O ++ [t]).map (fun t => iv t.id)) :: boxA ab [iv x, iv y] 32 :: rgA rb M :: l)) := ⟨by
                have q := (S9.swap).nilV 75 3
                rw [List.map_append, List.map_cons, List.map_nil]
                exact q⟩
              clear ap S9 i1 i2 i3 i4 HB ho9 HBS HI2 ht hwi
              go_wp2_with (first
                | (at_builtin; refine wpList_append_run _ rfl (.tmp 77) (.tmp 83) 29 rfl _ _ rfl rfl AP.out ?_))
              clear r0 AP
              go_loopw [14, 15] (fun u14 u15 wy => ∃ (T : List Pl) (i : Nat), u15 = iv i ∧ i ≤ m ∧ Keep (T = kpt L b i) ∧ Keep (Sep w0 wy (rowV 75 3 u14 (T).length (pls (T)) :: rowV 75 3 (sl g m c2) m (pls L) :: rowV 3 1 (sl g9 o9 c9) o9 ((O ++ [t]).map (fun t => iv t.id)) :: boxA ab [iv x, iv y] 32 :: rgA rb M :: l))) (fun _ u15 _ => (m - intOf u15).toNat)
              case atStart => exact ⟨[], 0, rfl, by omega, ⟨by rw [kpt_zero]⟩, HS9⟩
              case round =>
                clear HS9
                obtain ⟨T, i, rfl, hi, hE, HS⟩ := hrel
                have hwi : IntKind.i64.wrap ((i : Int) + 1) = ((i + 1 : Nat) : Int) := by have := HN.out; have := HMN.out; rw [IntKind.wrap_i64]; omega
                by_cases hlt : i < m
                · obtain ⟨s, hs⟩ : ∃ s, L[i]? = some s := ⟨_, List.getElem?_eq_getElem (by rw [HM.out]; exact hlt)⟩
                  have HP := Keep.mk hs
                  have hi1 : (i : Int) < (m : Int) := by omega
                  clear hs
                  by_cases heq : i = b
                  · have HEQ : Keep (T = kpt L b (i + 1)) := ⟨by rw [kpt_yes HP.out heq]; exact hE.out⟩
                    subst heq
                    clear hE
                    go_wp2_with fail
                    go_roundw
                    case rel => exact ⟨T, i + 1, rfl, by omega, HEQ, HS⟩
                    case measure => simp [intOf]; omega
                  · have HEQ : Keep (T ++ [s] = kpt L b (i + 1)) := ⟨by rw [kpt_no HP.out heq, hE.out]⟩
                    have HLB : Keep ((T.length + 1) * 24 ≤ 140737488355328) := ⟨len_24 (by rw [hE.out]; exact kpt_le _ _ _) HN.out hlt (by have := HMN.out; omega)⟩
                    have dne : ((i : Int) == (b : Int)) = false := by simp; omega
                    have dne2 : ¬ (i : Int) = (b : Int) := by omega
                    clear hE
                    obtain ⟨g8, g8c, W8, ap8, S8⟩ := HS.out.appP s (HLB.out)
                    have AP8 := Keep.mk ap8
                    have RN8 := Keep.mk (pls_rd HS.out k1m (by omega) HP.out)
                    unfold plv at RN8
                    obtain ⟨n8, hn8⟩ : ∃ z, T.length + 1 = z := ⟨_, rfl⟩
                    rw [hn8] at AP8 S8
                    replace HS : Keep (Sep w0 W8 (rowV 75 3 (sl g8 n8 g8c) (T ++ [s]).length (pls (T ++ [s])) :: rowV 75 3 (sl g m c2) m (pls L) :: rowV 3 1 (sl g9 o9 c9) o9 ((O ++ [t]).map (fun t => iv t.id)) :: boxA ab [iv x, iv y] 32 :: rgA rb M :: l)) := ⟨S8⟩
                    clear ap8 S8 hn8
                    go_wp2_with (first
                      | (at_builtin; show wpList _ _ _ ({ dst := some 100, op := _, type := _, pos := _, after := _, guard := _ } :: _) _ _; refine wpList_append_run _ rfl (.tmp 94) (.tmp 99) 71 rfl _ _ rfl rfl AP8.out ?_)
                      | (show wpList _ _ _ ({ dst := some 99, op := Op.buildSlice 71 _ _, type := _, pos := _, after := _, guard := _ } :: _) _ _
                         refine wpList_bs_run rfl (.tmp 98) 71 rfl _ rfl (bs3_run _ _ _ _) ?_)
                      | (show wpList _ _ _ ({ dst := _, op := Op.load 75 _, type := _, pos := _, after := _, guard := _ } :: _) _ _
                         refine wpList_load_mid rfl 75 _ rfl _ _ rfl _ _ RN8.out hdu hdr info75 ?_)
                      | fail)
                    go_roundw
                    case rel => exact ⟨T ++ [s], i + 1, rfl, by omega, HEQ, HS⟩
                    case measure => simp [intOf]; omega
                · have HF : Keep (T = L.eraseIdx b) := ⟨by rw [hE.out, kpt_all (by rw [HM.out]; omega)]⟩
                  have HTL : Keep (T.length + 1 = m) := ⟨by
                    have e := (er_perm HT.out).length_eq
                    rw [List.length_cons, HM.out, ← HF.out] at e
                    exact e⟩
                  obtain ⟨a4, c4, e4⟩ := own_slice (HS.out.rowGet k0m)
                  have HFIN : Keep (∃ (L O : List Pl), Keep (Sep w0 wr (rowV 75 3 u14 (L).length (pls (L)) :: rowV 3 1 (sl g9 o9 c9) (O).length ((O).map (fun t => iv t.id)) :: boxA ab [iv x, iv y] 32 :: rgA rb M :: l)) ∧ Keep (RNst M x y r n0 L O) ∧ lenOf u14 = L.length) := ⟨T, O ++ [t], ⟨by rw [HO9.out]; exact (HS.out.swap).tail⟩, ⟨by rw [HF.out]; exact HNX.out⟩, by rw [e4]; rfl⟩
                  have HMS : Keep (lenOf u14 < m) := ⟨by rw [e4]; have := HTL.out; simp only [lenOf]; omega⟩
                  clear HS hE HF e4
                  go_wp2_with fail
                  go_roundw
                  case rel => exact HFIN.out
                  case measure => exact HMS.out
        · have HF : Keep (O = nst M x y r n0) := ⟨HI2.out.done (by
            by_cases h0 : 0 < m
            · exact Or.inr (fun q => hc ⟨h0, by rw [← HO.out]; exact q⟩)
            · exact Or.inl (List.eq_nil_of_length_eq_zero (by rw [HM.out]; omega)))⟩
          have HG : Keep (Sep w0 wr (nums (.slice a3 o c3) (nstL M x y r n0) :: rgA rb M :: l)) := ⟨by
            have q3 := HB.out.tail.swap.tail
            unfold nstL
            unfold nums
            rw [List.length_map, List.map_map, ← HF.out, HO.out]
            exact q3⟩
          clear HB HI2
          by_cases h0 : 0 < m
          · have h1 : ¬ (o : Int) < n0 := fun q => hc ⟨h0, q⟩
            have h00 : (0 : Int) < (m : Int) := by omega
            clear hc
            go_wp2_with fail
            go_ret
            exact ⟨_, rfl, HG.out⟩
          · obtain rfl : m = 0 := by omega
            clear hc
            go_wp2_with fail
            go_ret
            exact ⟨_, rfl, HG.out⟩
end Go.Proofs.Ytidpafmhmhojmaa
