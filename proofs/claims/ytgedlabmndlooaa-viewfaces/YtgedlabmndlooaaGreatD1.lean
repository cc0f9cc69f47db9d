/- view: lay; the order of what is seen -/
import Derived.Test.YtgedlabmndlooaaGreatD0
import Derived.Test.YtgedlabmndlooaaGreatG8
namespace Go.Proofs.YtgedlabmndlooaaGreat
open Go Go.RowKit Go.Maps

theorem bsN (x : Sn) (W : World) : (Instr.buildSlice 27 1 #[(0, vlN x)]).run Tryz.prog W = .ok (sl W.heap.size 1 1) (W.alloc (.cells #[iv x.kd, iv x.id, iv x.x, iv x.y, iv x.hd] 33)) := by kernel_rfl
theorem undN : Tryz.prog.underlying 27 = some (.slice 33) := by kernel_rfl
def zN : Sn := ⟨0, 0, 0, 0, 0⟩
theorem infoBN : ∃ i, Tryz.prog.info? 33 = some i ∧ i.size = 5 ∧ i.bytes = 40 ∧ i.zero = some (.agg (snv zN).toArray) := by
  have h : (Tryz.prog.info? 33).map (fun i => (i.size, i.bytes, i.zero)) = some (5, 40, some (.agg (snv zN).toArray)) := by kernel_rfl
  cases e : Tryz.prog.info? 33 with
  | none => rw [e] at h; cases h
  | some i =>
    rw [e] at h
    simp only [Option.map_some, Option.some.injEq, Prod.mk.injEq] at h
    exact ⟨i, rfl, h.1, h.2.1, h.2.2⟩
/-- one more that is seen -/
theorem Sep.appN {w0 W : World} {l : List As} {v : Value} {L : List Sn} (x : Sn) (h : Sep w0 W (rowV 33 5 v L.length (fl snv L) :: l)) (hn : (L.length + 1) * 40 ≤ 140737488355328) :
    ∃ g c W', (Builtin.append_ #[27, 27] 27 #[v, sl W.heap.size 1 1]).run Tryz.prog (W.alloc (.cells #[iv x.kd, iv x.id, iv x.x, iv x.y, iv x.hd] 33)) = .ok (sl g (L.length + 1) c) W' ∧ Sep w0 W' (rowV 33 5 (sl g (L.length + 1) c) (L ++ [x]).length (fl snv (L ++ [x])) :: l) := by
  obtain ⟨i, i1, i2, i3, i4⟩ := infoBN
  obtain ⟨g, c, W', r, S⟩ := Sep.app undN i1 i4 i2 i3 rfl (by decide) h (snv x) rfl (snv_one x) hn (by decide)
  refine ⟨g, c, W', r, ?_⟩
  rw [fl_app, List.length_append, List.length_singleton, show fl snv [x] = snv x by simp [fl]]
  exact S
set_option maxRecDepth 100000 in
set_option maxHeartbeats 16000000 in
theorem lay_c (w0 W : World) (l : List As) (sb gb : Nat) (tk vc vt : Value) (r sh sd : Int) (M : List Pl) (L : List Sn) (x : Sn) (hx : I64 x.x ∧ I64 x.y) (hn : (L.length + 1) * 40 ≤ 140737488355328) (hml : M.length ≤ L.length)
    (h : Sep w0 W (boxA sb [tk, iv r, iv sh, vc, vt, pt gb] 80 :: rowV 33 5 vt L.length (fl snv L) :: gridA gb sd M :: l)) :
    Calls Tryz.prog 46 #[pt sb, vlN x] W fun e W' => e = .returned (.tuple #[]) ∧ ∃ vt', Sep w0 W' (boxA sb [tk, iv r, iv sh, vc, vt', pt gb] 80 :: rowV 33 5 vt' (L ++ [x]).length (fl snv (L ++ [x])) :: gridA gb sd (putM M ⟨(L.length : Int), x.x, x.y⟩) :: l) := by
  have S1 := h.newBox #[iv x.kd, iv x.id, iv x.x, iv x.y, iv x.hd] 33
  obtain ⟨bx, hbx⟩ : ∃ b, W.heap.size = b := ⟨_, rfl⟩
  obtain ⟨W1, hW1⟩ : ∃ w, W.alloc (.cells #[iv x.kd, iv x.id, iv x.x, iv x.y, iv x.hd] 33) = w := ⟨_, rfl⟩
  rw [hbx, hW1] at S1
  obtain ⟨a, cap, rfl⟩ := own_slice (h.rowGet k1m)
  obtain ⟨n, hnn⟩ : ∃ n, L.length = n := ⟨_, rfl⟩
  have HTL := Keep.mk hnn
  have HNB := Keep.mk hn
  have HOK : Keep (I64 (n : Int) ∧ I64 x.x ∧ I64 x.y) := ⟨⟨⟨by omega, by omega⟩, hx⟩⟩
  have HML : Keep ((M.length + 1) * 8 ≤ 140737488355328) := ⟨by omega⟩
  have HB : Keep (Sep w0 W1 (boxA bx (snv x) 33 :: boxA sb [tk, iv r, iv sh, vc, .slice a n cap, pt gb] 80 :: rowV 33 5 (.slice a n cap) L.length (fl snv L) :: gridA gb sd M :: l)) := ⟨by rw [hnn] at S1 ⊢; exact S1⟩
  rw [hnn]
  clear S1 h hn hnn hx hml
  go_enter Tryz.func46, Tryz.ntmps46
  go_wp2_with fail
  clear hbx hW1
  refine region_Y (S := fun w' => Sep w0 w' [boxA bx (snv x) 33, boxA sb [tk, iv r, iv sh, vc, .slice a n cap, pt gb] 80]) [] (by kernel_rfl) ?_
  obtain ⟨W0, hW0⟩ : ∃ W_, W1.drew = W_ := ⟨_, rfl⟩
  replace HB := Keep.mk (HB.out.grown (gr_drew _ none))
  rw [hW0] at HB ⊢
  clear hW0
  have hHeld : (fun w' => Sep w0 w' [boxA bx (snv x) 33, boxA sb [tk, iv r, iv sh, vc, .slice a n cap, pt gb] 80]) W0 := Sep.dropM (l := []) [_, _] _ (by simpa using HB.out)
  refine yp (i := 0) (v := ?_) rfl (Or.inl ⟨by rfl, ?_⟩) ?_
  rotate_left
  · (intro w hSw; go_simp; first | done | (with_reducible rfl))
  simp only [Act.put, A1, A3, A4, A5, A6]
  refine yp (i := 1) (v := ?_) rfl (Or.inl ⟨by rfl, ?_⟩) ?_
  rotate_left
  · (intro w hSw; go_simp; first | done | (with_reducible rfl))
  simp only [Act.put, A1, A2, A3, A4, A5, A6]
  refine yp (i := 2) (v := ?_) rfl (Or.inl ⟨by rfl, ?_⟩) ?_
  rotate_left
  · (intro w hSw; go_simp; first | done | (with_reducible rfl))
  simp only [Act.put, A1, A2, A3, A4, A5, A6]
  refine yt (i := 3) (v := ?_) rfl (Or.inl ⟨by rfl, ?_⟩) (by assumption) ?_
  rotate_left
  · (intro w hSw; have q := (hSw.boxGet k1m).cellv 5 _ rfl; go_simp; first | done | (with_reducible rfl))
  simp only [Act.put, A1, A2, A3, A4, A5, A6]
  refine yp (i := 4) (v := ?_) rfl (Or.inl ⟨by rfl, ?_⟩) ?_
  rotate_left
  · (intro w hSw; go_simp; first | done | (with_reducible rfl))
  simp only [Act.put, A1, A2, A3, A4, A5, A6]
  refine yp (i := 5) (v := ?_) rfl (Or.inl ⟨by rfl, ?_⟩) ?_
  rotate_left
  · (intro w hSw; go_simp; first | done | (with_reducible rfl))
  simp only [Act.put, A1, A2, A3, A4, A5, A6]
  refine yp (i := 6) (v := ?_) rfl (Or.inl ⟨by rfl, ?_⟩) ?_
  rotate_left
  · (intro w hSw; go_simp; first | done | (with_reducible rfl))
  simp only [Act.put, A1, A2, A3, A4, A5, A6]
  refine yt (i := 7) (v := ?_) rfl (Or.inl ⟨by rfl, ?_⟩) (by assumption) ?_
  rotate_left
  · (intro w hSw; have q := (hSw.boxGet k1m).cellv 4 _ rfl; go_simp; first | done | (with_reducible rfl))
  simp only [Act.put, A1, A2, A3, A4, A5, A6]
  refine yp (i := 8) (v := ?_) rfl (Or.inl ⟨by rfl, ?_⟩) ?_
  rotate_left
  · (intro w hSw; go_simp; first | done | (with_reducible rfl))
  simp only [Act.put, A1, A2, A3, A4, A5, A6]
  refine yp (i := 9) (v := ?_) rfl (Or.inl ⟨by rfl, ?_⟩) ?_
  rotate_left
  · (intro w hSw; go_simp; first | done | (with_reducible rfl))
  simp only [Act.put, A1, A2, A3, A4, A5, A6]
  refine yt (i := 10) (v := .agg #[iv x.x, iv x.y]) rfl (Or.inl ⟨by rfl, ?_⟩) (by assumption) ?_
  · (intro w hSw; have q2 := (hSw.boxGet k0m).cellv 2 _ rfl; have q3 := (hSw.boxGet k0m).cellv 3 _ rfl; go_simp; first | done | rfl | (simp; done) | trace_state)
  simp only [Act.put, A1, A2, A3, A4, A5, A6]
  refine wpAnyY_one (i := 11) (by kernel_rfl) rfl (fun K hK => ?_)
  go_simp
  refine (put_c w0 _ _ gb sd M (n : Int) x.x x.y HOK.out.1 HOK.out.2.1 HOK.out.2.2 HML.out (fr1 [_, _, _] HB.out)).mono ?_
  rintro e wg ⟨rfl, S_⟩
  have HB2 := Keep.mk (bk1 [_, _, _] S_)
  refine hK.out _ _ (fun _ => Sep.dropM (l := []) [_, _] _ (by simpa using HB2.out)) ?_
  clear hK K S_ HB hHeld
  have HB := HB2
  clear HB2
  refine wpAnyY_done (by kernel_rfl) ?_ _
  go_wp2_with fail
  refine region_Y (S := fun w' => Sep w0 w' [boxA bx (snv x) 33, boxA sb [tk, iv r, iv sh, vc, .slice a n cap, pt gb] 80]) [10] (by kernel_rfl) ?_
  obtain ⟨W0, hW0⟩ : ∃ W_, wg.drew = W_ := ⟨_, rfl⟩
  replace HB := Keep.mk (HB.out.grown (gr_drew _ none))
  rw [hW0] at HB ⊢
  clear hW0
  have hHeld : (fun w' => Sep w0 w' [boxA bx (snv x) 33, boxA sb [tk, iv r, iv sh, vc, .slice a n cap, pt gb] 80]) W0 := Sep.dropM (l := []) [_, _] _ (by simpa using HB.out)
  refine yp (i := 0) (v := ?_) rfl (Or.inl ⟨by rfl, ?_⟩) ?_
  rotate_left
  · (intro w hSw; go_simp; first | done | (with_reducible rfl))
  simp only [Act.put, A1, A3, A4, A5, A6]
  refine yp (i := 1) (v := ?_) rfl (Or.inl ⟨by rfl, ?_⟩) ?_
  rotate_left
  · (intro w hSw; go_simp; first | done | (with_reducible rfl))
  simp only [Act.put, A1, A2, A3, A4, A5, A6]
  refine yp (i := 2) (v := ?_) rfl (Or.inl ⟨by rfl, ?_⟩) ?_
  rotate_left
  · (intro w hSw; go_simp; first | done | (with_reducible rfl))
  simp only [Act.put, A1, A2, A3, A4, A5, A6]
  refine yp (i := 3) (v := ?_) rfl (Or.inl ⟨by rfl, ?_⟩) ?_
  rotate_left
  · (intro w hSw; go_simp; first | done | (with_reducible rfl))
  simp only [Act.put, A1, A2, A3, A4, A5, A6]
  refine yt (i := 4) (v := ?_) rfl (Or.inl ⟨by rfl, ?_⟩) (by assumption) ?_
  rotate_left
  · (intro w hSw; have q := (hSw.boxGet k1m).cellv 4 _ rfl; go_simp; first | done | (with_reducible rfl))
  simp only [Act.put, A1, A2, A3, A4, A5, A6]
  refine yt (i := 5) (v := .agg #[iv x.kd, iv x.id, iv x.x, iv x.y, iv x.hd]) rfl (Or.inl ⟨by rfl, ?_⟩) (by assumption) ?_
  · (intro w hSw; have q0 := (hSw.boxGet k0m).cellv 0 _ rfl; have q1 := (hSw.boxGet k0m).cellv 1 _ rfl; have q2 := (hSw.boxGet k0m).cellv 2 _ rfl; have q3 := (hSw.boxGet k0m).cellv 3 _ rfl; have q4 := (hSw.boxGet k0m).cellv 4 _ rfl; go_simp; first | done | rfl | (simp; done) | trace_state)
  simp only [Act.put, A1, A2, A3, A4, A5, A6]
  refine wpAnyY_one (i := 6) (by kernel_rfl) rfl (fun K hK => ?_)
  have bs := bsN x W0
  have g6 := gr_alloc W0 (.cells #[iv x.kd, iv x.id, iv x.x, iv x.y, iv x.hd] 33) none
  obtain ⟨g9, c9, w9, ap, S9⟩ := Sep.appN x (fr1 [_, _] HB.out) HNB.out
  have AP := Keep.mk ap
  have HS9 := Keep.mk S9
  clear ap S9
  obtain ⟨w6, hw6⟩ : ∃ w, W0.alloc (.cells #[iv x.kd, iv x.id, iv x.x, iv x.y, iv x.hd] 33) = w := ⟨_, rfl⟩
  obtain ⟨b6, hb6⟩ : ∃ b, W0.heap.size = b := ⟨_, rfl⟩
  rw [hw6, hb6] at bs AP
  rw [hw6] at g6
  go_simp
  refine hK.out _ _ (fun h => h.grown g6) ?_
  clear hK K hHeld bs hw6 hb6 HB g6
  refine wpAnyY_one (i := 7) (by kernel_rfl) rfl (fun K hK => ?_)
  rw [HTL.out] at AP HS9
  obtain ⟨n1, hn1⟩ : ∃ n1, n + 1 = n1 := ⟨_, rfl⟩
  rw [hn1] at AP HS9
  rw [if_pos (show Region.wanted _ _ = true from rfl)]
  refine wp_append_run (.tmp 20) (.tmp 22) 27 rfl _ _ rfl rfl AP.out ?_
  refine hK.out _ _ (fun _ => Sep.dropM (l := []) [_, _] _ (by simpa using HS9.out.tail)) ?_
  clear hK K
  simp only [Act.put, A1, A2, A3, A4, A5, A6]
  refine yp (i := 8) (v := ?_) rfl (Or.inl ⟨by rfl, ?_⟩) ?_
  rotate_left
  · (intro w hSw; go_simp; first | done | (with_reducible rfl))
  simp only [Act.put, A1, A2, A3, A4, A5, A6]
  refine yp (i := 9) (v := ?_) rfl (Or.inl ⟨by rfl, ?_⟩) ?_
  rotate_left
  · (intro w hSw; go_simp; first | done | (with_reducible rfl))
  simp only [Act.put, A1, A2, A3, A4, A5, A6]
  refine wpAnyY_late (i := 10) (by kernel_rfl) rfl (by kernel_rfl) (fun K hK => ?_)
  have c4 := (HS9.out.boxGet k2m).cellv 4 _ rfl
  have y4 := (HS9.out.boxGet k2m).frozen 4
  have S10 := (fr1 [_, _] HS9.out).boxPut 4 (sl g9 n1 c9)
  obtain ⟨w10, hw10⟩ : ∃ w, w9.setCell ⟨sb, 4, none⟩ (sl g9 n1 c9) = w := ⟨_, rfl⟩
  rw [hw10] at S10
  go_simp
  refine hK.out _ _ ?_
  clear hK K
  have HF := Keep.mk S10
  clear S10 c4 y4 hw10 HS9 AP
  refine wpAnyY_done (by kernel_rfl) ?_ _
  go_wp2_with fail
  go_end0
  refine ⟨rfl, sl g9 n1 c9, ?_⟩
  have q : Sep w0 w10 (boxA sb [tk, iv r, iv sh, vc, sl g9 n1 c9, pt gb] 80 :: rowV 33 5 (sl g9 n1 c9) (L ++ [x]).length (fl snv (L ++ [x])) :: boxA bx (snv x) 33 :: gridA gb sd (putM M ⟨(n : Int), x.x, x.y⟩) :: l) := HF.out
  exact Sep.dropM [_, _] [_] q
/-- the told order -/
def cfS (x y : Sn) : Int := orZ (Lib.compareInt x.kd y.kd) (Lib.compareInt x.id y.id)
theorem bs2 (a b : Int) (W : World) : (Instr.buildSlice 129 2 #[(0, iv a), (1, iv b)]).run Tryz.prog W = .ok (sl W.heap.size 2 2) (W.alloc (.cells #[iv a, iv b] 3)) := by kernel_rfl
set_option maxRecDepth 100000 in
set_option maxHeartbeats 16000000 in
theorem cmpS_n (x y : Sn) (W : World) : Calls Tryz.prog 68 #[vlN x, vlN y] W fun e w' => e = .returned (iv (cfS x y)) ∧ Gw W w' := by
  obtain ⟨W1, hW1⟩ : ∃ w, W.alloc (.cells #[iv x.kd, iv x.id, iv x.x, iv x.y, iv x.hd] 33) = w := ⟨_, rfl⟩
  obtain ⟨W2, hW2⟩ : ∃ w, W1.alloc (.cells #[iv y.kd, iv y.id, iv y.x, iv y.y, iv y.hd] 33) = w := ⟨_, rfl⟩
  obtain ⟨b1, hb1⟩ : ∃ b, W.heap.size = b := ⟨_, rfl⟩
  obtain ⟨b2, hb2⟩ : ∃ b, W1.heap.size = b := ⟨_, rfl⟩
  have g1 : Gw W W1 := by rw [← hW1]; exact Gw.alloc _ _
  have g2 : Gw W1 W2 := by rw [← hW2]; exact Gw.alloc _ _
  have HG := Keep.mk (g1.trans g2)
  have HX : Keep (Has W2 b1 (snv x) 33) := ⟨by
    have q := Has.newA W #[iv x.kd, iv x.id, iv x.x, iv x.y, iv x.hd] 33
    rw [hW1, hb1] at q
    exact q.kept g2.g (by simp)⟩
  have HY : Keep (Has W2 b2 (snv y) 33) := ⟨by
    have q := Has.newA W1 #[iv y.kd, iv y.id, iv y.x, iv y.y, iv y.hd] 33
    rw [hW2, hb2] at q
    exact q⟩
  clear g1 g2
  go_enter Tryz.func68, Tryz.ntmps68
  go_wp2_with fail
  clear hW1 hW2 hb1 hb2
  refine region_Y (S := fun w' => Gw W2 w') [] (by kernel_rfl) ?_
  obtain ⟨WB, hWB⟩ : ∃ W_, W2.drew = W_ := ⟨_, rfl⟩
  have HB := Keep.mk (Gw.drew W2)
  rw [hWB] at HB ⊢
  clear hWB
  have hHeld := HB.out
  refine yp (i := 0) (v := ?_) rfl (Or.inl ⟨by rfl, ?_⟩) ?_
  rotate_left
  · (intro w hSw; go_simp; first | done | (with_reducible rfl))
  simp only [Act.put, A1, A3, A4, A5, A6]
  refine yt (i := 1) (v := ?_) rfl (Or.inl ⟨by rfl, ?_⟩) (by assumption) ?_
  rotate_left
  · (intro w hSw; have q := (HX.out.kept hSw.g (by simp)).cellv 0 _ rfl; go_simp; first | done | (with_reducible rfl))
  simp only [Act.put, A1, A2, A3, A4, A5, A6]
  refine yp (i := 2) (v := ?_) rfl (Or.inl ⟨by rfl, ?_⟩) ?_
  rotate_left
  · (intro w hSw; go_simp; first | done | (with_reducible rfl))
  simp only [Act.put, A1, A2, A3, A4, A5, A6]
  refine yt (i := 3) (v := ?_) rfl (Or.inl ⟨by rfl, ?_⟩) (by assumption) ?_
  rotate_left
  · (intro w hSw; have q := (HY.out.kept hSw.g (by simp)).cellv 0 _ rfl; go_simp; first | done | (with_reducible rfl))
  simp only [Act.put, A1, A2, A3, A4, A5, A6]
  refine yp (i := 5) (v := ?_) rfl (Or.inl ⟨by rfl, ?_⟩) ?_
  rotate_left
  · (intro w hSw; go_simp; first | done | (with_reducible rfl))
  simp only [Act.put, A1, A2, A3, A4, A5, A6]
  refine yt (i := 6) (v := ?_) rfl (Or.inl ⟨by rfl, ?_⟩) (by assumption) ?_
  rotate_left
  · (intro w hSw; have q := (HX.out.kept hSw.g (by simp)).cellv 1 _ rfl; go_simp; first | done | (with_reducible rfl))
  simp only [Act.put, A1, A2, A3, A4, A5, A6]
  refine yp (i := 7) (v := ?_) rfl (Or.inl ⟨by rfl, ?_⟩) ?_
  rotate_left
  · (intro w hSw; go_simp; first | done | (with_reducible rfl))
  simp only [Act.put, A1, A2, A3, A4, A5, A6]
  refine yt (i := 8) (v := ?_) rfl (Or.inl ⟨by rfl, ?_⟩) (by assumption) ?_
  rotate_left
  · (intro w hSw; have q := (HY.out.kept hSw.g (by simp)).cellv 1 _ rfl; go_simp; first | done | (with_reducible rfl))
  simp only [Act.put, A1, A2, A3, A4, A5, A6]
  refine wpAnyY_one (i := 4) (by kernel_rfl) rfl (fun K hK => ?_)
  go_simp
  refine (cmp56 x.kd y.kd _).mono ?_
  rintro e wa ⟨rfl, hw⟩
  rw [hw]
  clear hw wa
  refine hK.out _ _ (fun h => h) ?_
  clear hK K
  refine wpAnyY_one (i := 9) (by kernel_rfl) rfl (fun K hK => ?_)
  go_simp
  refine (cmp56 x.id y.id _).mono ?_
  rintro e wb ⟨rfl, hw⟩
  rw [hw]
  clear hw wb
  refine hK.out _ _ (fun h => h) ?_
  clear hK K
  refine wpAnyY_one (i := 10) (by kernel_rfl) rfl (fun K hK => ?_)
  obtain ⟨c1, hc1⟩ : ∃ c, Lib.compareInt x.kd y.kd = c := ⟨_, rfl⟩
  obtain ⟨c2, hc2⟩ : ∃ c, Lib.compareInt x.id y.id = c := ⟨_, rfl⟩
  rw [hc1, hc2]
  have bs := bs2 c1 c2 WB
  have g6 := Gw.alloc WB (.cells #[iv c1, iv c2] 3)
  have d0 := (Has.newA WB #[iv c1, iv c2] 3).cellv 0 _ rfl
  have d1 := (Has.newA WB #[iv c1, iv c2] 3).cellv 1 _ rfl
  obtain ⟨w6, hw6⟩ : ∃ w, WB.alloc (.cells #[iv c1, iv c2] 3) = w := ⟨_, rfl⟩
  obtain ⟨b6, hb6⟩ : ∃ b, WB.heap.size = b := ⟨_, rfl⟩
  rw [hw6, hb6] at bs d0 d1
  rw [hw6] at g6
  have HD := Keep.mk (or_c c1 c2 b6 2 w6 d0 d1)
  replace HB := Keep.mk (HB.out.trans g6)
  have HC12 : Keep (orZ c1 c2 = cfS x y) := ⟨by rw [← hc1, ← hc2]; rfl⟩
  clear d0 d1 hc1 hc2
  go_simp
  refine hK.out _ _ (fun h => h.trans g6) ?_
  clear hK K bs hw6 hb6 g6
  refine wpAnyY_one (i := 11) (by kernel_rfl) rfl (fun K hK => ?_)
  go_simp
  refine HD.out.mono ?_
  rintro e wc ⟨rfl, hw⟩
  rw [hw]
  clear hw wc
  refine hK.out _ _ (fun h => h) ?_
  clear hK K
  refine wpAnyY_one (i := 12) (by kernel_rfl) rfl (fun K hK => ?_)
  go_simp
  refine hK.out _ _ (fun h => h) ?_
  clear hK K
  refine wpAnyY_done (by kernel_rfl) ?_ _
  go_wp2_with fail
  go_ret
  exact ⟨by rw [← HC12.out]; rfl, HG.out.trans HB.out⟩
end Go.Proofs.YtgedlabmndlooaaGreat
