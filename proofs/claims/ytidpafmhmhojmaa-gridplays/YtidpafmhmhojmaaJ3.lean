/- the reference's grid: Near. -/
import Derived.Test.YtidpafmhmhojmaaJ2
import Derived.Test.YtidpafmhmhojmaaP3
namespace Go.Proofs.Ytidpafmhmhojmaa
open Go Go.RowKit

theorem nr_yes {M : List Pl} {x y r : Int} {i : Nat} {t : Pl} (ht : M[i]? = some t) (hw : wn (d2 t.x t.y x y) r = true) : nr (M.take (i + 1)) x y r = nr (M.take i) x y r ++ [t] := by
  rw [d2_symm] at hw
  unfold nr
  rw [List.take_add_one, ht, Option.toList, List.filter_append]
  simp [hw]
theorem nr_no {M : List Pl} {x y r : Int} {i : Nat} {t : Pl} (ht : M[i]? = some t) (hw : wn (d2 t.x t.y x y) r = false) : nr (M.take (i + 1)) x y r = nr (M.take i) x y r := by
  rw [d2_symm] at hw
  unfold nr
  rw [List.take_add_one, ht, Option.toList, List.filter_append]
  simp [hw]
theorem nr_le (M : List Pl) (x y r : Int) (i : Nat) : (nr (M.take i) x y r).length ≤ i := by
  unfold nr
  exact Nat.le_trans (List.length_filter_le _ _) (by rw [List.length_take]; omega)
theorem len_8 {N i n : Nat} (h1 : N ≤ i) (h2 : (n + 4) * 24 ≤ 140737488355328) (h3 : i < n) : (N + 1) * 8 ≤ 140737488355328 := by omega
set_option maxRecDepth 100000 in
set_option maxHeartbeats 16000000 in
theorem rnear_c (w0 W : World) (l : List As) (rb : Nat) (M : List Pl) (x y r : Int) (hx : I64 x) (hy : I64 y) (hR : PlR M) (hn : (M.length + 4) * 24 ≤ 140737488355328) (h : Sep w0 W (rgA rb M :: l)) :
    Calls Try.prog 23 #[pt rb, vv x y, iv r] W fun e W' => ∃ v, e = .returned v ∧ Sep w0 W' (nums v (nrL M x y r) :: rgA rb M :: l) := by
  obtain ⟨a, c, h1⟩ := rg_open h
  have S1 := h1.newBox #[iv x, iv y] 32
  obtain ⟨W1, hW1⟩ : ∃ W1, W.alloc (.cells #[iv x, iv y] 32) = W1 := ⟨_, rfl⟩
  obtain ⟨ab, hab⟩ : ∃ b, W.heap.size = b := ⟨_, rfl⟩
  rw [hW1, hab] at S1
  obtain ⟨n, hnn⟩ : ∃ n, M.length = n := ⟨_, rfl⟩
  have HQ := Keep.mk hnn
  have HN : Keep ((n + 4) * 24 ≤ 140737488355328) := ⟨by rw [← hnn]; exact hn⟩
  rw [hnn] at S1
  have HS0 : Keep (Sep w0 W1 (rowV 3 1 (.slice none 0 0) (([] : List Pl)).length ((([] : List Pl)).map (fun t => iv t.id)) :: boxA rb [.slice a n c] 73 :: rowV 75 3 (.slice a n c) n (pls M) :: boxA ab [iv x, iv y] 32 :: l)) := ⟨(bk1 [_, _] S1).nilV 3 1⟩
  have HI := Keep.mk (And.intro hx hy)
  have HR := Keep.mk hR
  clear h h1 S1 hnn hn hx hy hR
  go_enter Try.func23, Try.ntmps23
  go_wp2_with fail
  clear hW1 hab
  go_loopw [7, 8] (fun u7 u8 wr => ∃ (T : List Pl) (i : Nat), i ≤ n ∧ u8 = iv i ∧ Keep (Sep w0 wr (rowV 3 1 u7 (T).length ((T).map (fun t => iv t.id)) :: boxA rb [.slice a n c] 73 :: rowV 75 3 (.slice a n c) n (pls M) :: boxA ab [iv x, iv y] 32 :: l)) ∧ Keep (T = nr (M.take i) x y r)) (fun _ u8 _ => (n - intOf u8).toNat)
  case atStart => exact ⟨[], 0, by omega, rfl, HS0, ⟨by simp [nr]⟩⟩
  case round =>
    clear HS0
    obtain ⟨T, i, hi, rfl, HB, hE⟩ := hrel
    have c0 := (HB.out.boxGet k1m).cellv 0 _ rfl
    by_cases hlt : i < n
    · obtain ⟨s, hs⟩ : ∃ s, M[i]? = some s := ⟨_, List.getElem?_eq_getElem (by rw [HQ.out]; exact hlt)⟩
      have HP := Keep.mk hs
      obtain ⟨g, c', e1, _⟩ := own_any (HB.out.rowGet k2m) (by omega)
      injection e1 with e1 _ e3
      subst e1 e3
      have hi1 : (i : Int) < (n : Int) := by omega
      have hwi : IntKind.i64.wrap ((i : Int) + 1) = ((i + 1 : Nat) : Int) := by have := HN.out; rw [IntKind.wrap_i64]; omega
      have HW := Keep.mk (fun w => rwithin_c s.x s.y x y r (HR.out s (List.mem_of_getElem? hs)).2.1 (HR.out s (List.mem_of_getElem? hs)).2.2 HI.out.1 HI.out.2 w)
      obtain ⟨b, hb⟩ : ∃ b, wn (d2 s.x s.y x y) r = b := ⟨_, rfl⟩
      rw [hb] at HW
      have HBB := Keep.mk hb
      clear hs hb
      cases b
      case false =>
        have HEQ : Keep (T = nr (M.take (i + 1)) x y r) := ⟨by rw [nr_no HP.out HBB.out]; exact hE.out⟩
        clear hE
        go_wp2_with fail
        refine region_X (S := fun w' => Sep w0 w' (rowV 3 1 u7 (T).length ((T).map (fun t => iv t.id)) :: boxA rb [sl g n c] 73 :: rowV 75 3 (sl g n c) n (pls M) :: boxA ab [iv x, iv y] 32 :: l)) [] (by kernel_rfl) (HB.out.grown (gr_drew _ _)) (fun hHeld => ?_)
        replace HB := Keep.mk hHeld
        obtain ⟨W0, hW0⟩ : ∃ W_, wr.drew = W_ := ⟨_, rfl⟩
        rw [hW0] at HB hHeld ⊢
        clear hW0
        refine wpAnyX_take (i := 0) (oi := _) (v := ?_) rfl (by kernel_rfl) (by kernel_rfl) (by kernel_rfl) (by kernel_rfl) (by kernel_rfl) (fun _ _ _ h => h) (Or.inl ⟨by rfl, ?_⟩) (by assumption) ?_
        rotate_left
        · (intro w hSw; go_simp; first | done | (with_reducible rfl))
        simp only [Act.put, List.getElem_toArray, List.getElem_cons_zero, List.setIfInBounds_toArray, List.set_cons_zero, List.set_cons_succ]
        refine wpAnyX_take (i := 1) (oi := _) (v := ?_) rfl (by kernel_rfl) (by kernel_rfl) (by kernel_rfl) (by kernel_rfl) (by kernel_rfl) (fun _ _ _ h => h) (Or.inl ⟨by rfl, ?_⟩) (by assumption) ?_
        rotate_left
        · (intro w hSw; go_simp; first | done | (with_reducible rfl))
        simp only [Act.put, List.getElem_toArray, List.getElem_cons_succ, List.getElem_cons_zero, List.setIfInBounds_toArray, List.set_cons_zero, List.set_cons_succ]
        refine wpAnyX_take (i := 2) (oi := _) (v := ?_) rfl (by kernel_rfl) (by kernel_rfl) (by kernel_rfl) (by kernel_rfl) (by kernel_rfl) (fun _ _ _ h => h) (Or.inl ⟨by rfl, ?_⟩) (by assumption) ?_
        rotate_left
        · (intro w hSw; go_simp; first | done | (with_reducible rfl))
        simp only [Act.put, List.getElem_toArray, List.getElem_cons_succ, List.getElem_cons_zero, List.setIfInBounds_toArray, List.set_cons_zero, List.set_cons_succ]
        refine wpAnyX_take (i := 3) (oi := _) (v := sl g n c) rfl (by kernel_rfl) (by kernel_rfl) (by kernel_rfl) (by kernel_rfl) (by kernel_rfl) (fun _ _ _ h => h) (Or.inl ⟨by rfl, ?_⟩) (by assumption) ?_
        · (intro w hSw; have q0 := (hSw.boxGet k1m).cellv 0 _ rfl; go_simp; first | done | rfl | (simp; done) | trace_state)
        simp only [Act.put, List.getElem_toArray, List.getElem_cons_succ, List.getElem_cons_zero, List.setIfInBounds_toArray, List.set_cons_zero, List.set_cons_succ]
        refine wpAnyX_take (i := 4) (oi := _) (v := ?_) rfl (by kernel_rfl) (by kernel_rfl) (by kernel_rfl) (by kernel_rfl) (by kernel_rfl) (fun _ _ _ h => h) (Or.inl ⟨by rfl, ?_⟩) (by assumption) ?_
        rotate_left
        · (intro w hSw; go_simp; first | done | (with_reducible rfl))
        simp only [Act.put, List.getElem_toArray, List.getElem_cons_succ, List.getElem_cons_zero, List.setIfInBounds_toArray, List.set_cons_zero, List.set_cons_succ]
        refine wpAnyX_take (i := 5) (oi := _) (v := ?_) rfl (by kernel_rfl) (by kernel_rfl) (by kernel_rfl) (by kernel_rfl) (by kernel_rfl) (fun _ _ _ h => h) (Or.inl ⟨by rfl, ?_⟩) (by assumption) ?_
        rotate_left
        · (intro w hSw; go_simp; first | done | (with_reducible rfl))
        simp only [Act.put, List.getElem_toArray, List.getElem_cons_succ, List.getElem_cons_zero, List.setIfInBounds_toArray, List.set_cons_zero, List.set_cons_succ]
        refine wpAnyX_take (i := 6) (oi := _) (v := ?_) rfl (by kernel_rfl) (by kernel_rfl) (by kernel_rfl) (by kernel_rfl) (by kernel_rfl) (fun _ _ _ h => h) (Or.inl ⟨by rfl, ?_⟩) (by assumption) ?_
        rotate_left
        · (intro w hSw; go_simp; first | done | (with_reducible rfl))
        simp only [Act.put, List.getElem_toArray, List.getElem_cons_succ, List.getElem_cons_zero, List.setIfInBounds_toArray, List.set_cons_zero, List.set_cons_succ]
        refine wpAnyX_take (i := 7) (oi := _) (v := .agg #[iv s.x, iv s.y]) rfl (by kernel_rfl) (by kernel_rfl) (by kernel_rfl) (by kernel_rfl) (by kernel_rfl) (fun _ _ _ h => h) (Or.inl ⟨by rfl, ?_⟩) (by assumption) ?_
        · (intro w hSw; have q1 : World.cell? w ⟨g, i * 3 + 1, none⟩ = some (iv s.x) := (pls_rd hSw k2m (by omega) HP.out : World.rangeAt w g (i * 3) [iv s.id, iv s.x, iv s.y]) 1 _ rfl; have q2 : World.cell? w ⟨g, i * 3 + 1 + 1, none⟩ = some (iv s.y) := (pls_rd hSw k2m (by omega) HP.out : World.rangeAt w g (i * 3) [iv s.id, iv s.x, iv s.y]) 2 _ rfl; go_simp; first | done | rfl | (simp; done) | trace_state)
        simp only [Act.put, List.getElem_toArray, List.getElem_cons_succ, List.getElem_cons_zero, List.setIfInBounds_toArray, List.set_cons_zero, List.set_cons_succ]
        refine wpAnyX_take (i := 8) (oi := _) (v := .agg #[iv x, iv y]) rfl (by kernel_rfl) (by kernel_rfl) (by kernel_rfl) (by kernel_rfl) (by kernel_rfl) (fun _ _ _ h => h) (Or.inl ⟨by rfl, ?_⟩) (by assumption) ?_
        · (intro w hSw; have q0 := (hSw.boxGet k3m).cellv 0 _ rfl; have q1 := (hSw.boxGet k3m).cellv 1 _ rfl; go_simp; first | done | rfl | (simp; done) | trace_state)
        simp only [Act.put, List.getElem_toArray, List.getElem_cons_succ, List.getElem_cons_zero, List.setIfInBounds_toArray, List.set_cons_zero, List.set_cons_succ]
        refine wpAnyX_take (i := 9) (oi := _) (v := ?_) rfl (by kernel_rfl) (by kernel_rfl) (by kernel_rfl) (by kernel_rfl) (by kernel_rfl) (fun _ _ _ h => h) (Or.inl ⟨by rfl, ?_⟩) (by assumption) ?_
        rotate_left
        · (intro w hSw; go_simp; first | done | (with_reducible rfl))
        simp only [Act.put, List.getElem_toArray, List.getElem_cons_succ, List.getElem_cons_zero, List.setIfInBounds_toArray, List.set_cons_zero, List.set_cons_succ]
        refine wpAnyX_one (i := 10) (by kernel_rfl) rfl (fun K hK => ?_)
        go_simp
        refine (HW.out _).mono ?_
        rintro e wg ⟨rfl, hg⟩
        replace HB := Keep.mk (HB.out.grown hg.g)
        refine hK.out _ _ HB.out (fun hHeld => ?_)
        clear hK K hg
        refine wpAnyX_done (by kernel_rfl) ?_ _
        go_wp2_with fail
        go_roundw
        case rel => exact ⟨T, i + 1, by omega, rfl, HB, HEQ⟩
        case measure => simp [intOf]; omega
      case true =>
        have HEQ : Keep (T ++ [s] = nr (M.take (i + 1)) x y r) := ⟨by rw [nr_yes HP.out HBB.out, hE.out]⟩
        have HLB : Keep ((T.length + 1) * 8 ≤ 140737488355328) := ⟨len_8 (by rw [hE.out]; exact nr_le _ _ _ _ _) HN.out hlt⟩
        clear hE
        go_wp2_with fail
        refine region_X (S := fun w' => Sep w0 w' (rowV 3 1 u7 (T).length ((T).map (fun t => iv t.id)) :: boxA rb [sl g n c] 73 :: rowV 75 3 (sl g n c) n (pls M) :: boxA ab [iv x, iv y] 32 :: l)) [] (by kernel_rfl) (HB.out.grown (gr_drew _ _)) (fun hHeld => ?_)
        replace HB := Keep.mk hHeld
        obtain ⟨W0, hW0⟩ : ∃ W_, wr.drew = W_ := ⟨_, rfl⟩
        rw [hW0] at HB hHeld ⊢
        clear hW0
        refine wpAnyX_take (i := 0) (oi := _) (v := ?_) rfl (by kernel_rfl) (by kernel_rfl) (by kernel_rfl) (by kernel_rfl) (by kernel_rfl) (fun _ _ _ h => h) (Or.inl ⟨by rfl, ?_⟩) (by assumption) ?_
        rotate_left
        · (intro w hSw; go_simp; first | done | (with_reducible rfl))
        simp only [Act.put, List.getElem_toArray, List.getElem_cons_zero, List.setIfInBounds_toArray, List.set_cons_zero, List.set_cons_succ]
        refine wpAnyX_take (i := 1) (oi := _) (v := ?_) rfl (by kernel_rfl) (by kernel_rfl) (by kernel_rfl) (by kernel_rfl) (by kernel_rfl) (fun _ _ _ h => h) (Or.inl ⟨by rfl, ?_⟩) (by assumption) ?_
        rotate_left
        · (intro w hSw; go_simp; first | done | (with_reducible rfl))
        simp only [Act.put, List.getElem_toArray, List.getElem_cons_succ, List.getElem_cons_zero, List.setIfInBounds_toArray, List.set_cons_zero, List.set_cons_succ]
        refine wpAnyX_take (i := 2) (oi := _) (v := ?_) rfl (by kernel_rfl) (by kernel_rfl) (by kernel_rfl) (by kernel_rfl) (by kernel_rfl) (fun _ _ _ h => h) (Or.inl ⟨by rfl, ?_⟩) (by assumption) ?_
        rotate_left
        · (intro w hSw; go_simp; first | done | (with_reducible rfl))
        simp only [Act.put, List.getElem_toArray, List.getElem_cons_succ, List.getElem_cons_zero, List.setIfInBounds_toArray, List.set_cons_zero, List.set_cons_succ]
        refine wpAnyX_take (i := 3) (oi := _) (v := sl g n c) rfl (by kernel_rfl) (by kernel_rfl) (by kernel_rfl) (by kernel_rfl) (by kernel_rfl) (fun _ _ _ h => h) (Or.inl ⟨by rfl, ?_⟩) (by assumption) ?_
        · (intro w hSw; have q0 := (hSw.boxGet k1m).cellv 0 _ rfl; go_simp; first | done | rfl | (simp; done) | trace_state)
        simp only [Act.put, List.getElem_toArray, List.getElem_cons_succ, List.getElem_cons_zero, List.setIfInBounds_toArray, List.set_cons_zero, List.set_cons_succ]
        refine wpAnyX_take (i := 4) (oi := _) (v := ?_) rfl (by kernel_rfl) (by kernel_rfl) (by kernel_rfl) (by kernel_rfl) (by kernel_rfl) (fun _ _ _ h => h) (Or.inl ⟨by rfl, ?_⟩) (by assumption) ?_
        rotate_left
        · (intro w hSw; go_simp; first | done | (with_reducible rfl))
        simp only [Act.put, List.getElem_toArray, List.getElem_cons_succ, List.getElem_cons_zero, List.setIfInBounds_toArray, List.set_cons_zero, List.set_cons_succ]
        refine wpAnyX_take (i := 5) (oi := _) (v := ?_) rfl (by kernel_rfl) (by kernel_rfl) (by kernel_rfl) (by kernel_rfl) (by kernel_rfl) (fun _ _ _ h => h) (Or.inl ⟨by rfl, ?_⟩) (by assumption) ?_
        rotate_left
        · (intro w hSw; go_simp; first | done | (with_reducible rfl))
        simp only [Act.put, List.getElem_toArray, List.getElem_cons_succ, List.getElem_cons_zero, List.setIfInBounds_toArray, List.set_cons_zero, List.set_cons_succ]
        refine wpAnyX_take (i := 6) (oi := _) (v := ?_) rfl (by kernel_rfl) (by kernel_rfl) (by kernel_rfl) (by kernel_rfl) (by kernel_rfl) (fun _ _ _ h => h) (Or.inl ⟨by rfl, ?_⟩) (by assumption) ?_
        rotate_left
        · (intro w hSw; go_simp; first | done | (with_reducible rfl))
        simp only [Act.put, List.getElem_toArray, List.getElem_cons_succ, List.getElem_cons_zero, List.setIfInBounds_toArray, List.set_cons_zero, List.set_cons_succ]
        refine wpAnyX_take (i := 7) (oi := _) (v := .agg #[iv s.x, iv s.y]) rfl (by kernel_rfl) (by kernel_rfl) (by kernel_rfl) (by kernel_rfl) (by kernel_rfl) (fun _ _ _ h => h) (Or.inl ⟨by rfl, ?_⟩) (by assumption) ?_
        · (intro w hSw; have q1 : World.cell? w ⟨g, i * 3 + 1, none⟩ = some (iv s.x) := (pls_rd hSw k2m (by omega) HP.out : World.rangeAt w g (i * 3) [iv s.id, iv s.x, iv s.y]) 1 _ rfl; have q2 : World.cell? w ⟨g, i * 3 + 1 + 1, none⟩ = some (iv s.y) := (pls_rd hSw k2m (by omega) HP.out : World.rangeAt w g (i * 3) [iv s.id, iv s.x, iv s.y]) 2 _ rfl; go_simp; first | done | rfl | (simp; done) | trace_state)
        simp only [Act.put, List.getElem_toArray, List.getElem_cons_succ, List.getElem_cons_zero, List.setIfInBounds_toArray, List.set_cons_zero, List.set_cons_succ]
        refine wpAnyX_take (i := 8) (oi := _) (v := .agg #[iv x, iv y]) rfl (by kernel_rfl) (by kernel_rfl) (by kernel_rfl) (by kernel_rfl) (by kernel_rfl) (fun _ _ _ h => h) (Or.inl ⟨by rfl, ?_⟩) (by assumption) ?_
        · (intro w hSw; have q0 := (hSw.boxGet k3m).cellv 0 _ rfl; have q1 := (hSw.boxGet k3m).cellv 1 _ rfl; go_simp; first | done | rfl | (simp; done) | trace_state)
        simp only [Act.put, List.getElem_toArray, List.getElem_cons_succ, List.getElem_cons_zero, List.setIfInBounds_toArray, List.set_cons_zero, List.set_cons_succ]
        refine wpAnyX_take (i := 9) (oi := _) (v := ?_) rfl (by kernel_rfl) (by kernel_rfl) (by kernel_rfl) (by kernel_rfl) (by kernel_rfl) (fun _ _ _ h => h) (Or.inl ⟨by rfl, ?_⟩) (by assumption) ?_
        rotate_left
        · (intro w hSw; go_simp; first | done | (with_reducible rfl))
        simp only [Act.put, List.getElem_toArray, List.getElem_cons_succ, List.getElem_cons_zero, List.setIfInBounds_toArray, List.set_cons_zero, List.set_cons_succ]
        refine wpAnyX_one (i := 10) (by kernel_rfl) rfl (fun K hK => ?_)
        go_simp
        refine (HW.out _).mono ?_
        rintro e wg ⟨rfl, hg⟩
        replace HB := Keep.mk (HB.out.grown hg.g)
        refine hK.out _ _ HB.out (fun hHeld => ?_)
        clear hK K hg
        refine wpAnyX_done (by kernel_rfl) ?_ _
        obtain ⟨i0, i1, i2, i3, i4⟩ := info3b
        obtain ⟨g9, c9, W9, ap, S9⟩ := Sep.app (t := 29) (bytes := 8) Try.underlying29 i1 i4 i2 i3 rfl (by omega) HB.out [iv s.id] rfl (by intro u hu; simp at hu; subst hu; rfl) HLB.out (by omega)
        have AP := Keep.mk ap
        have d0 := (HB.out.boxGet k1m).cellv 0 _ rfl
        have r0 : World.cell? _ ⟨g, i * 3, none⟩ = some (iv s.id) := (pls_rd HB.out k2m (by omega) HP.out : World.rangeAt _ g (i * 3) [iv s.id, iv s.x, iv s.y]) 0 _ rfl
        obtain ⟨n9, hn9⟩ : ∃ z, T.length + 1 = z := ⟨_, rfl⟩
        have HS9 : Keep (Sep w0 W9 (rowV 3 1 (sl g9 n9 c9) (T ++ [s]).length ((T ++ [s]).map (fun t => iv t.id)) :: boxA rb [sl g n c] 73 :: rowV 75 3 (sl g n c) n (pls M) :: boxA ab [iv x, iv y] 32 :: l)) := ⟨by
          rw [List.map_append, List.map_cons, List.map_nil, List.length_append, List.length_singleton, ← hn9]
          exact S9⟩
        rw [hn9] at AP
        clear ap S9 i1 i2 i3 i4 HB hn9
        go_wp2_with (first
          | (at_builtin; refine wpList_append_run _ rfl (.tmp 29) (.tmp 38) 29 rfl _ _ rfl rfl AP.out ?_))
        go_roundw
        case rel => exact ⟨T ++ [s], i + 1, by omega, rfl, HS9, HEQ⟩
        case measure => simp [intOf]; omega
    · have HF : Keep (T = nr M x y r) := ⟨by rw [hE.out, List.take_of_length_le (by rw [HQ.out]; omega)]⟩
      have HG : Keep (Sep w0 wr (nums u7 (nrL M x y r) :: rgA rb M :: l)) := ⟨by
        have q := HB.out
        have hq := HQ.out
        subst hq
        have q3 := (rg_shut (M := M) (bk1 [_, _] q)).third.tail.swap
        rw [HF.out] at q3
        unfold nrL
        unfold nums
        rw [List.length_map, List.map_map]
        exact q3⟩
      clear HB hE
      go_wp2_with fail
      go_ret
      exact ⟨_, rfl, HG.out⟩
end Go.Proofs.Ytidpafmhmhojmaa
