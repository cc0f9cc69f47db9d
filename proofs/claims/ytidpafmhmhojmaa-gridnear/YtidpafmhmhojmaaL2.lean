/- the laws' answers. -/
import Derived.Test.YtidpafmhmhojmaaL1
namespace Go.Proofs.Ytidpafmhmhojmaa
open Go Go.RowKit

/-- a step of a script -/
structure Stp where
  op : Int
  id : Int
  x : Int
  y : Int
  r : Int
  n : Int
instance : Inhabited Stp := ⟨⟨0, 0, 0, 0, 0, 0⟩⟩
def stv (s : Stp) : List Value := [iv s.op, iv s.id, iv s.x, iv s.y, iv s.r, iv s.n]
def SOk (s : Stp) : Prop := I64 s.op ∧ I64 s.id ∧ I64 s.x ∧ I64 s.y ∧ I64 s.r ∧ I64 s.n
theorem stv_one (s : Stp) : ∀ u ∈ stv s, u.oneCell' = true := by
  intro u hu
  simp only [stv, List.mem_cons, List.not_mem_nil, or_false] at hu
  rcases hu with rfl | rfl | rfl | rfl | rfl | rfl <;> rfl
def ansM (M : List Pl) (s : Stp) : List Pl := if s.op = 1 then putM M ⟨s.id, s.x, s.y⟩ else if s.op = 2 then rmk M s.id else M
def ansL (M : List Pl) (s : Stp) : List Int :=
  [(M.length : Int)] ++ (if s.op = 1 then [] else if s.op = 2 then (if atB M s.id then [1] else []) else if s.op = 3 then (if atB M s.id then [atX M s.id, atY M s.id] else []) else if s.op = 4 then nrL M s.x s.y s.r else if s.op = 5 then nstL M s.x s.y s.r s.n else []) ++ [((ansM M s).length : Int)]
theorem ansM_len (M : List Pl) (s : Stp) : (ansM M s).length ≤ M.length + 1 := by
  unfold ansM
  split
  · exact len_put _ _
  · split
    · have : (rmk M s.id).length ≤ M.length := List.length_filter_le _ _
      omega
    · omega
theorem map_iv_len (L : List Int) : (L.map iv).length = L.length := List.length_map _
theorem Sep.appI {w0 W : World} {l : List As} {v : Value} {L : List Int} (h : Sep w0 W (nums v L :: l)) (zs : List Int) (h0 : 0 < zs.length) (hn : (L.length + zs.length) * 8 ≤ 140737488355328) :
    ∃ g c W', (Builtin.append_ #[29, 29] 29 #[v, sl W.heap.size zs.length zs.length]).run Try.prog (W.alloc (.cells (zs.map iv).toArray 3)) = .ok (sl g (L ++ zs).length c) W' ∧ Sep w0 W' (nums (sl g (L ++ zs).length c) (L ++ zs) :: l) := by
  obtain ⟨i, i1, i2, i3, i4⟩ := info3b
  obtain ⟨F, ⟨ho, rfl⟩, _, hu⟩ := h.use
  have hk := ho.kept (World.grownBy_alloc W (.cells (zs.map iv).toArray 3) none) (by cases v.ownBlock <;> simp)
  obtain ⟨v', w', r1, r2, r3, _, r5⟩ := run_append_own_at (P := Try.prog) (W.alloc (.cells (zs.map iv).toArray 3)) 0 29 29 3 i _ 1 8 Try.underlying29 i1 i4 i2 i3 rfl (by omega) v L.length (L.map iv) hk ⟨W.heap.size, 0, none⟩ zs.length zs.length (zs.map iv) (by simp) (fun j u hu => by
      rw [Addr.add_mid, Nat.zero_add]; exact (Has.newA W (zs.map iv).toArray 3).cellv j u (by simpa using hu)) (by intro u hu; obtain ⟨z, _, rfl⟩ := List.mem_map.1 hu; rfl) (by unfold maxLen; omega) hn (Nat.zero_le _)
  rw [← List.map_append, ← List.length_append] at r2
  obtain ⟨g, c, e1, _⟩ := own_any r2 (by rw [List.length_append]; omega)
  subst e1
  rw [heap1] at r5
  have gr := (World.grownBy_alloc W (.cells (zs.map iv).toArray 3) v.ownBlock).trans r3
  refine ⟨g, c, w', r1, hu w' [_] ((Fr.of gr).mono (fun i hi => .inl hi)) (Loc.one (a := rowV _ _ _ _ _) _ ⟨r2, rfl⟩ (fun i hi => ?_))⟩
  rcases r5 with q | q
  · exact .inl (by rw [← q]; exact hi)
  · rw [q] at hi
    injection hi with e
    exact .inr (by omega)
theorem Sep.appS {w0 W : World} {l : List As} {v sv : Value} {L K : List Int} (h : Sep w0 W (nums v L :: nums sv K :: l)) (hn : (L.length + K.length) * 8 ≤ 140737488355328) :
    ∃ v' W', (Builtin.append_ #[29, 29] 29 #[v, sv]).run Try.prog W = .ok v' W' ∧ Sep w0 W' (nums v' (L ++ K) :: nums sv K :: l) := by
  obtain ⟨i, i1, i2, i3, i4⟩ := info3b
  have hs := h.rowGet k1m
  obtain ⟨F, ⟨ho, rfl⟩, _, hu⟩ := h.use
  rcases row_parts h.tail with ⟨q1, rfl⟩ | ⟨g, c, rfl, _⟩
  · have e : K = [] := List.eq_nil_of_length_eq_zero q1
    subst e
    refine ⟨v, W, run_append_owned_none (P := Try.prog) W 0 29 29 3 i 1 Try.underlying29 i1 v L.length (L.map iv) ho, ?_⟩
    rw [List.append_nil]
    exact h
  · obtain ⟨_, _, hce⟩ := own_cap hs
    obtain ⟨v', w', r1, r2, r3, _, r5⟩ := run_append_own_at (P := Try.prog) W 0 29 29 3 i _ 1 8 Try.underlying29 i1 i4 i2 i3 rfl (by omega) v L.length (L.map iv) ho ⟨g, 0, none⟩ K.length c (K.map iv) (by simp) (fun j u hu => by
        rw [Addr.add_mid, Nat.zero_add]; exact (hce j u hu).1) (by intro u hu; obtain ⟨z, _, rfl⟩ := List.mem_map.1 hu; rfl) (by unfold maxLen; omega) hn (Nat.zero_le _)
    rw [← List.map_append, ← List.length_append] at r2
    refine ⟨v', w', r1, hu w' [_] ((Fr.of r3).mono (fun i hi => .inl hi)) (Loc.one (a := rowV _ _ _ _ _) _ ⟨r2, rfl⟩ (fun i hi => ?_))⟩
    rcases r5 with q | q
    · exact .inl (by rw [← q]; exact hi)
    · rw [q] at hi
      injection hi with e
      exact .inr (by omega)
theorem under34 : ∃ d, Try.prog.underlying 34 = some d ∧ d.isRow = true := ⟨_, Try.underlying34, rfl⟩
theorem info34 : (Try.prog.info? 34).map (·.size) = some 6 := by kernel_rfl
set_option maxRecDepth 100000 in
set_option maxHeartbeats 8000000 in
theorem ans_0 (w0 W : World) (l : List As) (gb : Nat) (sd : Int) (M : List Pl) (s : Stp) (hs : SOk s) (hn : M.length * 24 + 48 ≤ 140737488355328) (h : Sep w0 W (gridA gb sd M :: l)) (hop : s.op ≠ 1 ∧ s.op ≠ 2 ∧ s.op ≠ 3 ∧ s.op ≠ 4 ∧ s.op ≠ 5) :
    Calls Try.prog 17 #[pt gb, .agg #[iv s.op, iv s.id, iv s.x, iv s.y, iv s.r, iv s.n]] W fun e W' => ∃ v, e = .returned v ∧ Sep w0 W' (nums v (ansL M s) :: gridA gb sd (ansM M s) :: l) := by
  have HEM : Keep (ansM M s = M) := ⟨by unfold ansM; rw [if_neg hop.1, if_neg hop.2.1]⟩
  have HEL : Keep (ansL M s = [(M.length : Int)] ++ [((M.length : Nat) : Int)]) := ⟨by unfold ansL; rw [HEM.out, if_neg hop.1, if_neg hop.2.1, if_neg hop.2.2.1, if_neg hop.2.2.2.1, if_neg hop.2.2.2.2]; rfl⟩
  have HLL : Keep (([(M.length : Int)] : List Int).length ≤ 1) := ⟨by simp⟩
  have hML : (M.length : Nat) < 1000000000000000000 := by omega
  have S1 := h.newBox #[iv s.op, iv s.id, iv s.x, iv s.y, iv s.r, iv s.n] 34
  obtain ⟨W1, hW1⟩ : ∃ W1, W.alloc (.cells #[iv s.op, iv s.id, iv s.x, iv s.y, iv s.r, iv s.n] 34) = W1 := ⟨_, rfl⟩
  obtain ⟨ob, hob⟩ : ∃ b, W.heap.size = b := ⟨_, rfl⟩
  rw [hW1, hob] at S1
  have HL := Keep.mk (len_c w0 W1 _ gb sd M S1.swap)
  have S2 := S1.newRow [iv (M.length : Nat)] 3 1 rfl (by omega) (by omega)
  obtain ⟨W2, hW2⟩ : ∃ W2, W1.alloc (.cells #[iv (M.length : Nat)] 3) = W2 := ⟨_, rfl⟩
  obtain ⟨b5, hb5⟩ : ∃ b, W1.heap.size = b := ⟨_, rfl⟩
  replace S2 : Sep w0 W2 (nums (sl b5 1 1) [(M.length : Int)] :: boxA ob [iv s.op, iv s.id, iv s.x, iv s.y, iv s.r, iv s.n] 34 :: gridA gb sd M :: l) := by rw [← hW2, ← hb5]; exact S2
  have HS := Keep.mk S2
  have HO := Keep.mk hs
  have HN := Keep.mk hn
  have o0 := (S2.boxGet k1m).cellv 0 _ rfl
  have o1 := (S2.boxGet k1m).cellv 1 _ rfl
  have o2 := (S2.boxGet k1m).cellv 2 _ rfl
  have o3 := (S2.boxGet k1m).cellv 3 _ rfl
  have o4 := (S2.boxGet k1m).cellv 4 _ rfl
  have o5 := (S2.boxGet k1m).cellv 5 _ rfl
  clear h S1 S2 hs hn
  have HOP := Keep.mk hop
  clear hop
  go_enter Try.func17, Try.ntmps17
  go_wp2_with fail
  refine HL.out.mono ?_
  rintro e w1 ⟨rfl, hw⟩
  rw [hw]
  clear hw w1 HL
  have hop := HOP.out
  have d1 : (s.op == 1) = false := by simp; omega
  have d2 : (s.op == 2) = false := by simp; omega
  have d3 : (s.op == 3) = false := by simp; omega
  have d4 : (s.op == 4) = false := by simp; omega
  have d5 : (s.op == 5) = false := by simp; omega
  clear hop HOP
  go_wp2_with fail
  have HL := Keep.mk (len_c w0 W2 _ gb sd (M) (fr1 [_, _] HS.out))
  obtain ⟨g9, c9, W9, ap, S9⟩ := HS.out.appI [(((M).length : Nat) : Int)] (by simp) (by have := HLL.out; have := HN.out; simp only [List.length_singleton]; omega)
  have AP := Keep.mk ap
  have HE : Keep (Sep w0 W9 (nums (sl g9 (([(M.length : Int)]) ++ [(((M).length : Nat) : Int)]).length c9) (ansL M s) :: gridA gb sd (ansM M s) :: l)) := ⟨by
    rw [HEL.out, HEM.out]
    exact (S9.swap.tail)⟩
  obtain ⟨wb, hwb⟩ : ∃ b, (W2).heap.size = b := ⟨_, rfl⟩
  rw [hwb] at AP
  replace AP : Keep ((Builtin.append_ #[29, 29] 29 #[sl b5 1 1, sl wb 1 1]).run Try.prog (World.alloc W2 (.cells #[iv (((M).length : Nat) : Int)] 3)) = .ok (sl g9 (([(M.length : Int)]) ++ [(((M).length : Nat) : Int)]).length c9) W9) := AP
  generalize (([(M.length : Int)]) ++ [(((M).length : Nat) : Int)]).length = n9 at AP HE
  generalize (((M).length : Nat) : Int) = m2 at AP HL
  clear ap S9 HS HEL HEM HLL
  go_wp2_with fail
  refine HL.out.mono ?_
  rintro e w1 ⟨rfl, hw⟩
  rw [hw]
  clear hw w1 HL
  go_wp2_with (first
    | (at_builtin; refine wpList_append_run _ rfl (.tmp 69) (.tmp 72) 29 rfl _ _ rfl rfl AP.out ?_))
  go_ret
  exact ⟨_, rfl, HE.out⟩
set_option maxRecDepth 100000 in
set_option maxHeartbeats 8000000 in
theorem ans_1 (w0 W : World) (l : List As) (gb : Nat) (sd : Int) (M : List Pl) (s : Stp) (hs : SOk s) (hn : M.length * 24 + 48 ≤ 140737488355328) (h : Sep w0 W (gridA gb sd M :: l)) (hop : s.op = 1) :
    Calls Try.prog 17 #[pt gb, .agg #[iv s.op, iv s.id, iv s.x, iv s.y, iv s.r, iv s.n]] W fun e W' => ∃ v, e = .returned v ∧ Sep w0 W' (nums v (ansL M s) :: gridA gb sd (ansM M s) :: l) := by
  have HEM : Keep (ansM M s = putM M ⟨s.id, s.x, s.y⟩) := ⟨by unfold ansM; rw [if_pos hop]⟩
  have HEL : Keep (ansL M s = [(M.length : Int)] ++ [((putM M ⟨s.id, s.x, s.y⟩).length : Int)]) := ⟨by unfold ansL; rw [HEM.out, if_pos hop]; rfl⟩
  have HLL : Keep (([(M.length : Int)] : List Int).length ≤ 1) := ⟨by simp⟩
  have hML : (M.length : Nat) < 1000000000000000000 := by omega
  have S1 := h.newBox #[iv s.op, iv s.id, iv s.x, iv s.y, iv s.r, iv s.n] 34
  obtain ⟨W1, hW1⟩ : ∃ W1, W.alloc (.cells #[iv s.op, iv s.id, iv s.x, iv s.y, iv s.r, iv s.n] 34) = W1 := ⟨_, rfl⟩
  obtain ⟨ob, hob⟩ : ∃ b, W.heap.size = b := ⟨_, rfl⟩
  rw [hW1, hob] at S1
  have HL := Keep.mk (len_c w0 W1 _ gb sd M S1.swap)
  have S2 := S1.newRow [iv (M.length : Nat)] 3 1 rfl (by omega) (by omega)
  obtain ⟨W2, hW2⟩ : ∃ W2, W1.alloc (.cells #[iv (M.length : Nat)] 3) = W2 := ⟨_, rfl⟩
  obtain ⟨b5, hb5⟩ : ∃ b, W1.heap.size = b := ⟨_, rfl⟩
  replace S2 : Sep w0 W2 (nums (sl b5 1 1) [(M.length : Int)] :: boxA ob [iv s.op, iv s.id, iv s.x, iv s.y, iv s.r, iv s.n] 34 :: gridA gb sd M :: l) := by rw [← hW2, ← hb5]; exact S2
  have HS := Keep.mk S2
  have HO := Keep.mk hs
  have HN := Keep.mk hn
  have o0 := (S2.boxGet k1m).cellv 0 _ rfl
  have o1 := (S2.boxGet k1m).cellv 1 _ rfl
  have o2 := (S2.boxGet k1m).cellv 2 _ rfl
  have o3 := (S2.boxGet k1m).cellv 3 _ rfl
  have o4 := (S2.boxGet k1m).cellv 4 _ rfl
  have o5 := (S2.boxGet k1m).cellv 5 _ rfl
  clear h S1 S2 hs hn
  have HOP := Keep.mk hop
  clear hop
  go_enter Try.func17, Try.ntmps17
  go_wp2_with fail
  refine HL.out.mono ?_
  rintro e w1 ⟨rfl, hw⟩
  rw [hw]
  clear hw w1 HL
  have hop := HOP.out
  have d1 : (s.op == 1) = true := by simpa using hop
  clear hop HOP
  go_wp2_with fail
  refine (put_c w0 W2 _ gb sd M s.id s.x s.y HO.out.2.1 HO.out.2.2.1 HO.out.2.2.2.1 (by have := HN.out; omega) (fr1 [_, _] HS.out)).mono ?_
  rintro e W3 ⟨rfl, S3⟩
  replace HS : Keep (Sep w0 W3 (nums (sl b5 1 1) [(M.length : Int)] :: boxA ob [iv s.op, iv s.id, iv s.x, iv s.y, iv s.r, iv s.n] 34 :: gridA gb sd (putM M ⟨s.id, s.x, s.y⟩) :: l)) := ⟨bk1 [_, _] S3⟩
  clear S3
  have HL := Keep.mk (len_c w0 W3 _ gb sd (putM M ⟨s.id, s.x, s.y⟩) (fr1 [_, _] HS.out))
  obtain ⟨g9, c9, W9, ap, S9⟩ := HS.out.appI [(((putM M ⟨s.id, s.x, s.y⟩).length : Nat) : Int)] (by simp) (by have := HLL.out; have := HN.out; simp only [List.length_singleton]; omega)
  have AP := Keep.mk ap
  have HE : Keep (Sep w0 W9 (nums (sl g9 (([(M.length : Int)]) ++ [(((putM M ⟨s.id, s.x, s.y⟩).length : Nat) : Int)]).length c9) (ansL M s) :: gridA gb sd (ansM M s) :: l)) := ⟨by
    rw [HEL.out, HEM.out]
    exact (S9.swap.tail)⟩
  obtain ⟨wb, hwb⟩ : ∃ b, (W3).heap.size = b := ⟨_, rfl⟩
  rw [hwb] at AP
  replace AP : Keep ((Builtin.append_ #[29, 29] 29 #[sl b5 1 1, sl wb 1 1]).run Try.prog (World.alloc W3 (.cells #[iv (((putM M ⟨s.id, s.x, s.y⟩).length : Nat) : Int)] 3)) = .ok (sl g9 (([(M.length : Int)]) ++ [(((putM M ⟨s.id, s.x, s.y⟩).length : Nat) : Int)]).length c9) W9) := AP
  generalize (([(M.length : Int)]) ++ [(((putM M ⟨s.id, s.x, s.y⟩).length : Nat) : Int)]).length = n9 at AP HE
  generalize (((putM M ⟨s.id, s.x, s.y⟩).length : Nat) : Int) = m2 at AP HL
  clear ap S9 HS HEL HEM HLL
  go_wp2_with fail
  refine HL.out.mono ?_
  rintro e w1 ⟨rfl, hw⟩
  rw [hw]
  clear hw w1 HL
  go_wp2_with (first
    | (at_builtin; refine wpList_append_run _ rfl (.tmp 69) (.tmp 72) 29 rfl _ _ rfl rfl AP.out ?_))
  go_ret
  exact ⟨_, rfl, HE.out⟩
set_option maxRecDepth 100000 in
set_option maxHeartbeats 8000000 in
theorem ans_2t (w0 W : World) (l : List As) (gb : Nat) (sd : Int) (M : List Pl) (s : Stp) (hs : SOk s) (hn : M.length * 24 + 48 ≤ 140737488355328) (h : Sep w0 W (gridA gb sd M :: l)) (hop : s.op = 2) (hb : atB M s.id = true) :
    Calls Try.prog 17 #[pt gb, .agg #[iv s.op, iv s.id, iv s.x, iv s.y, iv s.r, iv s.n]] W fun e W' => ∃ v, e = .returned v ∧ Sep w0 W' (nums v (ansL M s) :: gridA gb sd (ansM M s) :: l) := by
  have HEM : Keep (ansM M s = rmk M s.id) := ⟨by unfold ansM; rw [if_neg (by omega), if_pos hop]⟩
  have HEL : Keep (ansL M s = ([(M.length : Int)] ++ [1]) ++ [((rmk M s.id).length : Int)]) := ⟨by unfold ansL; rw [HEM.out, if_neg (by omega), if_pos hop, hb]; rfl⟩
  have HLL : Keep (([(M.length : Int)] ++ [1] : List Int).length ≤ 2) := ⟨by simp⟩
  have hML : (M.length : Nat) < 1000000000000000000 := by omega
  have S1 := h.newBox #[iv s.op, iv s.id, iv s.x, iv s.y, iv s.r, iv s.n] 34
  obtain ⟨W1, hW1⟩ : ∃ W1, W.alloc (.cells #[iv s.op, iv s.id, iv s.x, iv s.y, iv s.r, iv s.n] 34) = W1 := ⟨_, rfl⟩
  obtain ⟨ob, hob⟩ : ∃ b, W.heap.size = b := ⟨_, rfl⟩
  rw [hW1, hob] at S1
  have HL := Keep.mk (len_c w0 W1 _ gb sd M S1.swap)
  have S2 := S1.newRow [iv (M.length : Nat)] 3 1 rfl (by omega) (by omega)
  obtain ⟨W2, hW2⟩ : ∃ W2, W1.alloc (.cells #[iv (M.length : Nat)] 3) = W2 := ⟨_, rfl⟩
  obtain ⟨b5, hb5⟩ : ∃ b, W1.heap.size = b := ⟨_, rfl⟩
  replace S2 : Sep w0 W2 (nums (sl b5 1 1) [(M.length : Int)] :: boxA ob [iv s.op, iv s.id, iv s.x, iv s.y, iv s.r, iv s.n] 34 :: gridA gb sd M :: l) := by rw [← hW2, ← hb5]; exact S2
  have HS := Keep.mk S2
  have HO := Keep.mk hs
  have HN := Keep.mk hn
  have o0 := (S2.boxGet k1m).cellv 0 _ rfl
  have o1 := (S2.boxGet k1m).cellv 1 _ rfl
  have o2 := (S2.boxGet k1m).cellv 2 _ rfl
  have o3 := (S2.boxGet k1m).cellv 3 _ rfl
  have o4 := (S2.boxGet k1m).cellv 4 _ rfl
  have o5 := (S2.boxGet k1m).cellv 5 _ rfl
  clear h S1 S2 hs hn
  have HOP := Keep.mk hop
  clear hop
  go_enter Try.func17, Try.ntmps17
  go_wp2_with fail
  refine HL.out.mono ?_
  rintro e w1 ⟨rfl, hw⟩
  rw [hw]
  clear hw w1 HL
  have hop := HOP.out
  have d1 : (s.op == 1) = false := by simp; omega
  have d2 : (s.op == 2) = true := by simpa using hop
  clear hop HOP
  go_wp2_with fail
  refine (delete_c w0 W2 _ gb sd M s.id HO.out.2.1 (by have := HN.out; omega) (fr1 [_, _] HS.out)).mono ?_
  rintro e W3 ⟨rfl, S3⟩
  rw [hb]
  replace HS : Keep (Sep w0 W3 (nums (sl b5 1 1) [(M.length : Int)] :: boxA ob [iv s.op, iv s.id, iv s.x, iv s.y, iv s.r, iv s.n] 34 :: gridA gb sd (rmk M s.id) :: l)) := ⟨bk1 [_, _] S3⟩
  clear S3
  obtain ⟨g8, c8, W8, ap8, S8⟩ := HS.out.appI [1] (by simp) (by simp)
  have AP8 := Keep.mk ap8
  obtain ⟨wb8, hwb8⟩ : ∃ b, W3.heap.size = b := ⟨_, rfl⟩
  rw [hwb8] at AP8
  replace AP8 : Keep ((Builtin.append_ #[29, 29] 29 #[sl b5 1 1, sl wb8 1 1]).run Try.prog (W3.alloc (.cells #[iv 1] 3)) = .ok (sl g8 2 c8) W8) := AP8
  replace HS : Keep (Sep w0 W8 (nums (sl g8 2 c8) ([(M.length : Int)] ++ [1]) :: boxA ob [iv s.op, iv s.id, iv s.x, iv s.y, iv s.r, iv s.n] 34 :: gridA gb sd (rmk M s.id) :: l)) := ⟨S8⟩
  clear ap8 S8
  go_wp2_with (first
    | (at_builtin; refine wpList_append_run _ rfl (.tmp 27) (.tmp 28) 29 rfl _ _ rfl rfl AP8.out ?_))
  have HL := Keep.mk (len_c w0 W8 _ gb sd (rmk M s.id) (fr1 [_, _] HS.out))
  obtain ⟨g9, c9, W9, ap, S9⟩ := HS.out.appI [(((rmk M s.id).length : Nat) : Int)] (by simp) (by have := HLL.out; have := HN.out; simp only [List.length_singleton]; omega)
  have AP := Keep.mk ap
  have HE : Keep (Sep w0 W9 (nums (sl g9 (([(M.length : Int)] ++ [1]) ++ [(((rmk M s.id).length : Nat) : Int)]).length c9) (ansL M s) :: gridA gb sd (ansM M s) :: l)) := ⟨by
    rw [HEL.out, HEM.out]
    exact (S9.swap.tail)⟩
  obtain ⟨wb, hwb⟩ : ∃ b, (W8).heap.size = b := ⟨_, rfl⟩
  rw [hwb] at AP
  replace AP : Keep ((Builtin.append_ #[29, 29] 29 #[sl g8 2 c8, sl wb 1 1]).run Try.prog (World.alloc W8 (.cells #[iv (((rmk M s.id).length : Nat) : Int)] 3)) = .ok (sl g9 (([(M.length : Int)] ++ [1]) ++ [(((rmk M s.id).length : Nat) : Int)]).length c9) W9) := AP
  generalize (([(M.length : Int)] ++ [1]) ++ [(((rmk M s.id).length : Nat) : Int)]).length = n9 at AP HE
  generalize (((rmk M s.id).length : Nat) : Int) = m2 at AP HL
  clear ap S9 HS HEL HEM HLL
  go_wp2_with fail
  refine HL.out.mono ?_
  rintro e w1 ⟨rfl, hw⟩
  rw [hw]
  clear hw w1 HL
  go_wp2_with (first
    | (at_builtin; refine wpList_append_run _ rfl (.tmp 69) (.tmp 72) 29 rfl _ _ rfl rfl AP.out ?_))
  go_ret
  exact ⟨_, rfl, HE.out⟩
set_option maxRecDepth 100000 in
set_option maxHeartbeats 8000000 in
theorem ans_2f (w0 W : World) (l : List As) (gb : Nat) (sd : Int) (M : List Pl) (s : Stp) (hs : SOk s) (hn : M.length * 24 + 48 ≤ 140737488355328) (h : Sep w0 W (gridA gb sd M :: l)) (hop : s.op = 2) (hb : atB M s.id = false) :
    Calls Try.prog 17 #[pt gb, .agg #[iv s.op, iv s.id, iv s.x, iv s.y, iv s.r, iv s.n]] W fun e W' => ∃ v, e = .returned v ∧ Sep w0 W' (nums v (ansL M s) :: gridA gb sd (ansM M s) :: l) := by
  have HEM : Keep (ansM M s = rmk M s.id) := ⟨by unfold ansM; rw [if_neg (by omega), if_pos hop]⟩
  have HEL : Keep (ansL M s = ([(M.length : Int)]) ++ [((rmk M s.id).length : Int)]) := ⟨by unfold ansL; rw [HEM.out, if_neg (by omega), if_pos hop, hb]; rfl⟩
  have HLL : Keep (([(M.length : Int)] : List Int).length ≤ 2) := ⟨by simp⟩
  have hML : (M.length : Nat) < 1000000000000000000 := by omega
  have S1 := h.newBox #[iv s.op, iv s.id, iv s.x, iv s.y, iv s.r, iv s.n] 34
  obtain ⟨W1, hW1⟩ : ∃ W1, W.alloc (.cells #[iv s.op, iv s.id, iv s.x, iv s.y, iv s.r, iv s.n] 34) = W1 := ⟨_, rfl⟩
  obtain ⟨ob, hob⟩ : ∃ b, W.heap.size = b := ⟨_, rfl⟩
  rw [hW1, hob] at S1
  have HL := Keep.mk (len_c w0 W1 _ gb sd M S1.swap)
  have S2 := S1.newRow [iv (M.length : Nat)] 3 1 rfl (by omega) (by omega)
  obtain ⟨W2, hW2⟩ : ∃ W2, W1.alloc (.cells #[iv (M.length : Nat)] 3) = W2 := ⟨_, rfl⟩
  obtain ⟨b5, hb5⟩ : ∃ b, W1.heap.size = b := ⟨_, rfl⟩
  replace S2 : Sep w0 W2 (nums (sl b5 1 1) [(M.length : Int)] :: boxA ob [iv s.op, iv s.id, iv s.x, iv s.y, iv s.r, iv s.n] 34 :: gridA gb sd M :: l) := by rw [← hW2, ← hb5]; exact S2
  have HS := Keep.mk S2
  have HO := Keep.mk hs
  have HN := Keep.mk hn
  have o0 := (S2.boxGet k1m).cellv 0 _ rfl
  have o1 := (S2.boxGet k1m).cellv 1 _ rfl
  have o2 := (S2.boxGet k1m).cellv 2 _ rfl
  have o3 := (S2.boxGet k1m).cellv 3 _ rfl
  have o4 := (S2.boxGet k1m).cellv 4 _ rfl
  have o5 := (S2.boxGet k1m).cellv 5 _ rfl
  clear h S1 S2 hs hn
  have HOP := Keep.mk hop
  clear hop
  go_enter Try.func17, Try.ntmps17
  go_wp2_with fail
  refine HL.out.mono ?_
  rintro e w1 ⟨rfl, hw⟩
  rw [hw]
  clear hw w1 HL
  have hop := HOP.out
  have d1 : (s.op == 1) = false := by simp; omega
  have d2 : (s.op == 2) = true := by simpa using hop
  clear hop HOP
  go_wp2_with fail
  refine (delete_c w0 W2 _ gb sd M s.id HO.out.2.1 (by have := HN.out; omega) (fr1 [_, _] HS.out)).mono ?_
  rintro e W3 ⟨rfl, S3⟩
  rw [hb]
  replace HS : Keep (Sep w0 W3 (nums (sl b5 1 1) [(M.length : Int)] :: boxA ob [iv s.op, iv s.id, iv s.x, iv s.y, iv s.r, iv s.n] 34 :: gridA gb sd (rmk M s.id) :: l)) := ⟨bk1 [_, _] S3⟩
  clear S3
  go_wp2_with fail
  have HL := Keep.mk (len_c w0 W3 _ gb sd (rmk M s.id) (fr1 [_, _] HS.out))
  obtain ⟨g9, c9, W9, ap, S9⟩ := HS.out.appI [(((rmk M s.id).length : Nat) : Int)] (by simp) (by have := HLL.out; have := HN.out; simp only [List.length_singleton]; omega)
  have AP := Keep.mk ap
  have HE : Keep (Sep w0 W9 (nums (sl g9 (([(M.length : Int)]) ++ [(((rmk M s.id).length : Nat) : Int)]).length c9) (ansL M s) :: gridA gb sd (ansM M s) :: l)) := ⟨by
    rw [HEL.out, HEM.out]
    exact (S9.swap.tail)⟩
  obtain ⟨wb, hwb⟩ : ∃ b, (W3).heap.size = b := ⟨_, rfl⟩
  rw [hwb] at AP
  replace AP : Keep ((Builtin.append_ #[29, 29] 29 #[sl b5 1 1, sl wb 1 1]).run Try.prog (World.alloc W3 (.cells #[iv (((rmk M s.id).length : Nat) : Int)] 3)) = .ok (sl g9 (([(M.length : Int)]) ++ [(((rmk M s.id).length : Nat) : Int)]).length c9) W9) := AP
  generalize (([(M.length : Int)]) ++ [(((rmk M s.id).length : Nat) : Int)]).length = n9 at AP HE
  generalize (((rmk M s.id).length : Nat) : Int) = m2 at AP HL
  clear ap S9 HS HEL HEM HLL
  go_wp2_with fail
  refine HL.out.mono ?_
  rintro e w1 ⟨rfl, hw⟩
  rw [hw]
  clear hw w1 HL
  go_wp2_with (first
    | (at_builtin; refine wpList_append_run _ rfl (.tmp 69) (.tmp 72) 29 rfl _ _ rfl rfl AP.out ?_))
  go_ret
  exact ⟨_, rfl, HE.out⟩
set_option maxRecDepth 100000 in
set_option maxHeartbeats 8000000 in
theorem ans_3t (w0 W : World) (l : List As) (gb : Nat) (sd : Int) (M : List Pl) (s : Stp) (hs : SOk s) (hn : M.length * 24 + 48 ≤ 140737488355328) (h : Sep w0 W (gridA gb sd M :: l)) (hop : s.op = 3) (hb : atB M s.id = true) :
    Calls Try.prog 17 #[pt gb, .agg #[iv s.op, iv s.id, iv s.x, iv s.y, iv s.r, iv s.n]] W fun e W' => ∃ v, e = .returned v ∧ Sep w0 W' (nums v (ansL M s) :: gridA gb sd (ansM M s) :: l) := by
  have HEM : Keep (ansM M s = M) := ⟨by unfold ansM; rw [if_neg (by omega), if_neg (by omega)]⟩
  have HEL : Keep (ansL M s = ([(M.length : Int)] ++ [atX M s.id, atY M s.id]) ++ [((M.length : Nat) : Int)]) := ⟨by unfold ansL; rw [HEM.out, if_neg (by omega), if_neg (by omega), if_pos hop, hb]; rfl⟩
  have HLL : Keep (([(M.length : Int)] ++ [atX M s.id, atY M s.id] : List Int).length ≤ 3) := ⟨by simp⟩
  have hML : (M.length : Nat) < 1000000000000000000 := by omega
  have S1 := h.newBox #[iv s.op, iv s.id, iv s.x, iv s.y, iv s.r, iv s.n] 34
  obtain ⟨W1, hW1⟩ : ∃ W1, W.alloc (.cells #[iv s.op, iv s.id, iv s.x, iv s.y, iv s.r, iv s.n] 34) = W1 := ⟨_, rfl⟩
  obtain ⟨ob, hob⟩ : ∃ b, W.heap.size = b := ⟨_, rfl⟩
  rw [hW1, hob] at S1
  have HL := Keep.mk (len_c w0 W1 _ gb sd M S1.swap)
  have S2 := S1.newRow [iv (M.length : Nat)] 3 1 rfl (by omega) (by omega)
  obtain ⟨W2, hW2⟩ : ∃ W2, W1.alloc (.cells #[iv (M.length : Nat)] 3) = W2 := ⟨_, rfl⟩
  obtain ⟨b5, hb5⟩ : ∃ b, W1.heap.size = b := ⟨_, rfl⟩
  replace S2 : Sep w0 W2 (nums (sl b5 1 1) [(M.length : Int)] :: boxA ob [iv s.op, iv s.id, iv s.x, iv s.y, iv s.r, iv s.n] 34 :: gridA gb sd M :: l) := by rw [← hW2, ← hb5]; exact S2
  have HS := Keep.mk S2
  have HO := Keep.mk hs
  have HN := Keep.mk hn
  have o0 := (S2.boxGet k1m).cellv 0 _ rfl
  have o1 := (S2.boxGet k1m).cellv 1 _ rfl
  have o2 := (S2.boxGet k1m).cellv 2 _ rfl
  have o3 := (S2.boxGet k1m).cellv 3 _ rfl
  have o4 := (S2.boxGet k1m).cellv 4 _ rfl
  have o5 := (S2.boxGet k1m).cellv 5 _ rfl
  clear h S1 S2 hs hn
  have HOP := Keep.mk hop
  clear hop
  go_enter Try.func17, Try.ntmps17
  go_wp2_with fail
  refine HL.out.mono ?_
  rintro e w1 ⟨rfl, hw⟩
  rw [hw]
  clear hw w1 HL
  have hop := HOP.out
  have d1 : (s.op == 1) = false := by simp; omega
  have d2 : (s.op == 2) = false := by simp; omega
  have d3 : (s.op == 3) = true := by simpa using hop
  clear hop HOP
  go_wp2_with fail
  refine (at_c w0 W2 _ gb sd M s.id HO.out.2.1 (fr1 [_, _] HS.out)).mono ?_
  rintro e W3 ⟨rfl, g3⟩
  rw [hb]
  generalize atX M s.id = px at *
  generalize atY M s.id = py at *
  have S3 := (HS.out.grown g3).newBox #[iv px, iv py] 32
  obtain ⟨W4, hW4⟩ : ∃ W4, W3.alloc (.cells #[iv px, iv py] 32) = W4 := ⟨_, rfl⟩
  obtain ⟨ab, hab⟩ : ∃ b, W3.heap.size = b := ⟨_, rfl⟩
  rw [hW4, hab] at S3
  have x0 := (S3.boxGet k0m).cellv 0 _ rfl
  have x1 := (S3.boxGet k0m).cellv 1 _ rfl
  replace HS : Keep (Sep w0 W4 (nums (sl b5 1 1) [(M.length : Int)] :: boxA ob [iv s.op, iv s.id, iv s.x, iv s.y, iv s.r, iv s.n] 34 :: gridA gb sd M :: l)) := ⟨S3.tail⟩
  clear S3 g3
  obtain ⟨g8, c8, W8, ap8, S8⟩ := HS.out.appI [px, py] (by simp) (by simp)
  have AP8 := Keep.mk ap8
  obtain ⟨wb8, hwb8⟩ : ∃ b, W4.heap.size = b := ⟨_, rfl⟩
  rw [hwb8] at AP8
  replace AP8 : Keep ((Builtin.append_ #[29, 29] 29 #[sl b5 1 1, sl wb8 2 2]).run Try.prog (W4.alloc (.cells #[iv px, iv py] 3)) = .ok (sl g8 3 c8) W8) := AP8
  replace HS : Keep (Sep w0 W8 (nums (sl g8 3 c8) ([(M.length : Int)] ++ [px, py]) :: boxA ob [iv s.op, iv s.id, iv s.x, iv s.y, iv s.r, iv s.n] 34 :: gridA gb sd M :: l)) := ⟨S8⟩
  clear ap8 S8
  go_wp2_with (first
    | (at_builtin; refine wpList_append_run _ rfl (.tmp 40) (.tmp 45) 29 rfl _ _ rfl rfl AP8.out ?_))
  have HL := Keep.mk (len_c w0 W8 _ gb sd (M) (fr1 [_, _] HS.out))
  obtain ⟨g9, c9, W9, ap, S9⟩ := HS.out.appI [(((M).length : Nat) : Int)] (by simp) (by have := HLL.out; have := HN.out; simp only [List.length_singleton]; omega)
  have AP := Keep.mk ap
  have HE : Keep (Sep w0 W9 (nums (sl g9 (([(M.length : Int)] ++ [px, py]) ++ [(((M).length : Nat) : Int)]).length c9) (ansL M s) :: gridA gb sd (ansM M s) :: l)) := ⟨by
    rw [HEL.out, HEM.out]
    exact (S9.swap.tail)⟩
  obtain ⟨wb, hwb⟩ : ∃ b, (W8).heap.size = b := ⟨_, rfl⟩
  rw [hwb] at AP
  replace AP : Keep ((Builtin.append_ #[29, 29] 29 #[sl g8 3 c8, sl wb 1 1]).run Try.prog (World.alloc W8 (.cells #[iv (((M).length : Nat) : Int)] 3)) = .ok (sl g9 (([(M.length : Int)] ++ [px, py]) ++ [(((M).length : Nat) : Int)]).length c9) W9) := AP
  generalize (([(M.length : Int)] ++ [px, py]) ++ [(((M).length : Nat) : Int)]).length = n9 at AP HE
  generalize (((M).length : Nat) : Int) = m2 at AP HL
  clear ap S9 HS HEL HEM HLL
  go_wp2_with fail
  refine HL.out.mono ?_
  rintro e w1 ⟨rfl, hw⟩
  rw [hw]
  clear hw w1 HL
  go_wp2_with (first
    | (at_builtin; refine wpList_append_run _ rfl (.tmp 69) (.tmp 72) 29 rfl _ _ rfl rfl AP.out ?_))
  go_ret
  exact ⟨_, rfl, HE.out⟩
set_option maxRecDepth 100000 in
set_option maxHeartbeats 8000000 in
theorem ans_3f (w0 W : World) (l : List As) (gb : Nat) (sd : Int) (M : List Pl) (s : Stp) (hs : SOk s) (hn : M.length * 24 + 48 ≤ 140737488355328) (h : Sep w0 W (gridA gb sd M :: l)) (hop : s.op = 3) (hb : atB M s.id = false) :
    Calls Try.prog 17 #[pt gb, .agg #[iv s.op, iv s.id, iv s.x, iv s.y, iv s.r, iv s.n]] W fun e W' => ∃ v, e = .returned v ∧ Sep w0 W' (nums v (ansL M s) :: gridA gb sd (ansM M s) :: l) := by
  have HEM : Keep (ansM M s = M) := ⟨by unfold ansM; rw [if_neg (by omega), if_neg (by omega)]⟩
  have HEL : Keep (ansL M s = ([(M.length : Int)]) ++ [((M.length : Nat) : Int)]) := ⟨by unfold ansL; rw [HEM.out, if_neg (by omega), if_neg (by omega), if_pos hop, hb]; rfl⟩
  have HLL : Keep (([(M.length : Int)] : List Int).length ≤ 3) := ⟨by simp⟩
  have hML : (M.length : Nat) < 1000000000000000000 := by omega
  have S1 := h.newBox #[iv s.op, iv s.id, iv s.x, iv s.y, iv s.r, iv s.n] 34
  obtain ⟨W1, hW1⟩ : ∃ W1, W.alloc (.cells #[iv s.op, iv s.id, iv s.x, iv s.y, iv s.r, iv s.n] 34) = W1 := ⟨_, rfl⟩
  obtain ⟨ob, hob⟩ : ∃ b, W.heap.size = b := ⟨_, rfl⟩
  rw [hW1, hob] at S1
  have HL := Keep.mk (len_c w0 W1 _ gb sd M S1.swap)
  have S2 := S1.newRow [iv (M.length : Nat)] 3 1 rfl (by omega) (by omega)
  obtain ⟨W2, hW2⟩ : ∃ W2, W1.alloc (.cells #[iv (M.length : Nat)] 3) = W2 := ⟨_, rfl⟩
  obtain ⟨b5, hb5⟩ : ∃ b, W1.heap.size = b := ⟨_, rfl⟩
  replace S2 : Sep w0 W2 (nums (sl b5 1 1) [(M.length : Int)] :: boxA ob [iv s.op, iv s.id, iv s.x, iv s.y, iv s.r, iv s.n] 34 :: gridA gb sd M :: l) := by rw [← hW2, ← hb5]; exact S2
  have HS := Keep.mk S2
  have HO := Keep.mk hs
  have HN := Keep.mk hn
  have o0 := (S2.boxGet k1m).cellv 0 _ rfl
  have o1 := (S2.boxGet k1m).cellv 1 _ rfl
  have o2 := (S2.boxGet k1m).cellv 2 _ rfl
  have o3 := (S2.boxGet k1m).cellv 3 _ rfl
  have o4 := (S2.boxGet k1m).cellv 4 _ rfl
  have o5 := (S2.boxGet k1m).cellv 5 _ rfl
  clear h S1 S2 hs hn
  have HOP := Keep.mk hop
  clear hop
  go_enter Try.func17, Try.ntmps17
  go_wp2_with fail
  refine HL.out.mono ?_
  rintro e w1 ⟨rfl, hw⟩
  rw [hw]
  clear hw w1 HL
  have hop := HOP.out
  have d1 : (s.op == 1) = false := by simp; omega
  have d2 : (s.op == 2) = false := by simp; omega
  have d3 : (s.op == 3) = true := by simpa using hop
  clear hop HOP
  go_wp2_with fail
  refine (at_c w0 W2 _ gb sd M s.id HO.out.2.1 (fr1 [_, _] HS.out)).mono ?_
  rintro e W3 ⟨rfl, g3⟩
  rw [hb]
  generalize atX M s.id = px at *
  generalize atY M s.id = py at *
  have S3 := (HS.out.grown g3).newBox #[iv px, iv py] 32
  obtain ⟨W4, hW4⟩ : ∃ W4, W3.alloc (.cells #[iv px, iv py] 32) = W4 := ⟨_, rfl⟩
  obtain ⟨ab, hab⟩ : ∃ b, W3.heap.size = b := ⟨_, rfl⟩
  rw [hW4, hab] at S3
  have x0 := (S3.boxGet k0m).cellv 0 _ rfl
  have x1 := (S3.boxGet k0m).cellv 1 _ rfl
  replace HS : Keep (Sep w0 W4 (nums (sl b5 1 1) [(M.length : Int)] :: boxA ob [iv s.op, iv s.id, iv s.x, iv s.y, iv s.r, iv s.n] 34 :: gridA gb sd M :: l)) := ⟨S3.tail⟩
  clear S3 g3
  go_wp2_with fail
  have HL := Keep.mk (len_c w0 W4 _ gb sd (M) (fr1 [_, _] HS.out))
  obtain ⟨g9, c9, W9, ap, S9⟩ := HS.out.appI [(((M).length : Nat) : Int)] (by simp) (by have := HLL.out; have := HN.out; simp only [List.length_singleton]; omega)
  have AP := Keep.mk ap
  have HE : Keep (Sep w0 W9 (nums (sl g9 (([(M.length : Int)]) ++ [(((M).length : Nat) : Int)]).length c9) (ansL M s) :: gridA gb sd (ansM M s) :: l)) := ⟨by
    rw [HEL.out, HEM.out]
    exact (S9.swap.tail)⟩
  obtain ⟨wb, hwb⟩ : ∃ b, (W4).heap.size = b := ⟨_, rfl⟩
  rw [hwb] at AP
  replace AP : Keep ((Builtin.append_ #[29, 29] 29 #[sl b5 1 1, sl wb 1 1]).run Try.prog (World.alloc W4 (.cells #[iv (((M).length : Nat) : Int)] 3)) = .ok (sl g9 (([(M.length : Int)]) ++ [(((M).length : Nat) : Int)]).length c9) W9) := AP
  generalize (([(M.length : Int)]) ++ [(((M).length : Nat) : Int)]).length = n9 at AP HE
  generalize (((M).length : Nat) : Int) = m2 at AP HL
  clear ap S9 HS HEL HEM HLL
  go_wp2_with fail
  refine HL.out.mono ?_
  rintro e w1 ⟨rfl, hw⟩
  rw [hw]
  clear hw w1 HL
  go_wp2_with (first
    | (at_builtin; refine wpList_append_run _ rfl (.tmp 69) (.tmp 72) 29 rfl _ _ rfl rfl AP.out ?_))
  go_ret
  exact ⟨_, rfl, HE.out⟩
set_option maxRecDepth 100000 in
set_option maxHeartbeats 8000000 in
theorem ans_4 (w0 W : World) (l : List As) (gb : Nat) (sd : Int) (M : List Pl) (s : Stp) (hs : SOk s) (hn : M.length * 24 + 48 ≤ 140737488355328) (h : Sep w0 W (gridA gb sd M :: l)) (hop : s.op = 4) :
    Calls Try.prog 17 #[pt gb, .agg #[iv s.op, iv s.id, iv s.x, iv s.y, iv s.r, iv s.n]] W fun e W' => ∃ v, e = .returned v ∧ Sep w0 W' (nums v (ansL M s) :: gridA gb sd (ansM M s) :: l) := by
  have HEM : Keep (ansM M s = M) := ⟨by unfold ansM; rw [if_neg (by omega), if_neg (by omega)]⟩
  have HEL : Keep (ansL M s = ([(M.length : Int)] ++ nrL M s.x s.y s.r) ++ [((M.length : Nat) : Int)]) := ⟨by unfold ansL; rw [HEM.out, if_neg (by omega), if_neg (by omega), if_neg (by omega), if_pos hop]⟩
  have HKL : Keep ((nrL M s.x s.y s.r).length ≤ M.length) := ⟨by unfold nrL; rw [List.length_map]; exact nr_len M s.x s.y s.r⟩
  have HLL : Keep (([(M.length : Int)] ++ nrL M s.x s.y s.r).length ≤ M.length + 1) := ⟨by rw [List.length_append, List.length_singleton]; have := HKL.out; omega⟩
  have hML : (M.length : Nat) < 1000000000000000000 := by omega
  have S1 := h.newBox #[iv s.op, iv s.id, iv s.x, iv s.y, iv s.r, iv s.n] 34
  obtain ⟨W1, hW1⟩ : ∃ W1, W.alloc (.cells #[iv s.op, iv s.id, iv s.x, iv s.y, iv s.r, iv s.n] 34) = W1 := ⟨_, rfl⟩
  obtain ⟨ob, hob⟩ : ∃ b, W.heap.size = b := ⟨_, rfl⟩
  rw [hW1, hob] at S1
  have HL := Keep.mk (len_c w0 W1 _ gb sd M S1.swap)
  have S2 := S1.newRow [iv (M.length : Nat)] 3 1 rfl (by omega) (by omega)
  obtain ⟨W2, hW2⟩ : ∃ W2, W1.alloc (.cells #[iv (M.length : Nat)] 3) = W2 := ⟨_, rfl⟩
  obtain ⟨b5, hb5⟩ : ∃ b, W1.heap.size = b := ⟨_, rfl⟩
  replace S2 : Sep w0 W2 (nums (sl b5 1 1) [(M.length : Int)] :: boxA ob [iv s.op, iv s.id, iv s.x, iv s.y, iv s.r, iv s.n] 34 :: gridA gb sd M :: l) := by rw [← hW2, ← hb5]; exact S2
  have HS := Keep.mk S2
  have HO := Keep.mk hs
  have HN := Keep.mk hn
  have o0 := (S2.boxGet k1m).cellv 0 _ rfl
  have o1 := (S2.boxGet k1m).cellv 1 _ rfl
  have o2 := (S2.boxGet k1m).cellv 2 _ rfl
  have o3 := (S2.boxGet k1m).cellv 3 _ rfl
  have o4 := (S2.boxGet k1m).cellv 4 _ rfl
  have o5 := (S2.boxGet k1m).cellv 5 _ rfl
  clear h S1 S2 hs hn
  have HOP := Keep.mk hop
  clear hop
  go_enter Try.func17, Try.ntmps17
  go_wp2_with fail
  refine HL.out.mono ?_
  rintro e w1 ⟨rfl, hw⟩
  rw [hw]
  clear hw w1 HL
  have hop := HOP.out
  have d1 : (s.op == 1) = false := by simp; omega
  have d2 : (s.op == 2) = false := by simp; omega
  have d3 : (s.op == 3) = false := by simp; omega
  have d4 : (s.op == 4) = true := by simpa using hop
  clear hop HOP
  go_wp2_with fail
  refine (near_c w0 W2 _ gb sd M s.x s.y s.r HO.out.2.2.1 HO.out.2.2.2.1 (by have := HN.out; omega) (fr1 [_, _] HS.out)).mono ?_
  rintro e W3 ⟨v3, rfl, S3⟩
  generalize nrL M s.x s.y s.r = K at *
  have S4 : Sep w0 W3 (nums (sl b5 1 1) [(M.length : Int)] :: nums v3 K :: boxA ob [iv s.op, iv s.id, iv s.x, iv s.y, iv s.r, iv s.n] 34 :: gridA gb sd M :: l) := by
    have q := fr1 [_, _] S3
    exact q.perm (((List.Perm.swap _ _ _).cons _).cons _)
  obtain ⟨v8, W8, ap8, S8⟩ := S4.appS (by have := HKL.out; have := HN.out; simp only [List.length_singleton]; omega)
  have AP8 := Keep.mk ap8
  replace HS : Keep (Sep w0 W8 (nums v8 ([(M.length : Int)] ++ K) :: boxA ob [iv s.op, iv s.id, iv s.x, iv s.y, iv s.r, iv s.n] 34 :: gridA gb sd M :: l)) := ⟨S8.swap.tail⟩
  obtain ⟨a8, c8, e8⟩ := own_slice (S8.rowGet k0m)
  generalize ([(M.length : Int)] ++ K).length = n8 at e8
  subst e8
  clear ap8 S8 S3 S4
  go_wp2_with (first
    | (at_builtin; refine wpList_append_run _ rfl (.tmp 49) (.tmp 55) 29 rfl _ _ rfl rfl AP8.out ?_))
  have HL := Keep.mk (len_c w0 W8 _ gb sd (M) (fr1 [_, _] HS.out))
  obtain ⟨g9, c9, W9, ap, S9⟩ := HS.out.appI [(((M).length : Nat) : Int)] (by simp) (by have := HLL.out; have := HN.out; simp only [List.length_singleton]; omega)
  have AP := Keep.mk ap
  have HE : Keep (Sep w0 W9 (nums (sl g9 (([(M.length : Int)] ++ K) ++ [(((M).length : Nat) : Int)]).length c9) (ansL M s) :: gridA gb sd (ansM M s) :: l)) := ⟨by
    rw [HEL.out, HEM.out]
    exact (S9.swap.tail)⟩
  obtain ⟨wb, hwb⟩ : ∃ b, (W8).heap.size = b := ⟨_, rfl⟩
  rw [hwb] at AP
  replace AP : Keep ((Builtin.append_ #[29, 29] 29 #[.slice a8 n8 c8, sl wb 1 1]).run Try.prog (World.alloc W8 (.cells #[iv (((M).length : Nat) : Int)] 3)) = .ok (sl g9 (([(M.length : Int)] ++ K) ++ [(((M).length : Nat) : Int)]).length c9) W9) := AP
  generalize (([(M.length : Int)] ++ K) ++ [(((M).length : Nat) : Int)]).length = n9 at AP HE
  generalize (((M).length : Nat) : Int) = m2 at AP HL
  clear ap S9 HS HEL HEM HLL
  go_wp2_with fail
  refine HL.out.mono ?_
  rintro e w1 ⟨rfl, hw⟩
  rw [hw]
  clear hw w1 HL
  go_wp2_with (first
    | (at_builtin; refine wpList_append_run _ rfl (.tmp 69) (.tmp 72) 29 rfl _ _ rfl rfl AP.out ?_))
  go_ret
  exact ⟨_, rfl, HE.out⟩
set_option maxRecDepth 100000 in
set_option maxHeartbeats 8000000 in
theorem ans_5 (w0 W : World) (l : List As) (gb : Nat) (sd : Int) (M : List Pl) (s : Stp) (hs : SOk s) (hn : M.length * 24 + 48 ≤ 140737488355328) (h : Sep w0 W (gridA gb sd M :: l)) (hop : s.op = 5) :
    Calls Try.prog 17 #[pt gb, .agg #[iv s.op, iv s.id, iv s.x, iv s.y, iv s.r, iv s.n]] W fun e W' => ∃ v, e = .returned v ∧ Sep w0 W' (nums v (ansL M s) :: gridA gb sd (ansM M s) :: l) := by
  have HEM : Keep (ansM M s = M) := ⟨by unfold ansM; rw [if_neg (by omega), if_neg (by omega)]⟩
  have HEL : Keep (ansL M s = ([(M.length : Int)] ++ nstL M s.x s.y s.r s.n) ++ [((M.length : Nat) : Int)]) := ⟨by unfold ansL; rw [HEM.out, if_neg (by omega), if_neg (by omega), if_neg (by omega), if_neg (by omega), if_pos hop]⟩
  have HKL : Keep ((nstL M s.x s.y s.r s.n).length ≤ M.length) := ⟨by unfold nstL nst; rw [List.length_map, List.length_take, (srtD_perm s.x s.y _).length_eq]; have := nr_len M s.x s.y s.r; omega⟩
  have HLL : Keep (([(M.length : Int)] ++ nstL M s.x s.y s.r s.n).length ≤ M.length + 1) := ⟨by rw [List.length_append, List.length_singleton]; have := HKL.out; omega⟩
  have hML : (M.length : Nat) < 1000000000000000000 := by omega
  have S1 := h.newBox #[iv s.op, iv s.id, iv s.x, iv s.y, iv s.r, iv s.n] 34
  obtain ⟨W1, hW1⟩ : ∃ W1, W.alloc (.cells #[iv s.op, iv s.id, iv s.x, iv s.y, iv s.r, iv s.n] 34) = W1 := ⟨_, rfl⟩
  obtain ⟨ob, hob⟩ : ∃ b, W.heap.size = b := ⟨_, rfl⟩
  rw [hW1, hob] at S1
  have HL := Keep.mk (len_c w0 W1 _ gb sd M S1.swap)
  have S2 := S1.newRow [iv (M.length : Nat)] 3 1 rfl (by omega) (by omega)
  obtain ⟨W2, hW2⟩ : ∃ W2, W1.alloc (.cells #[iv (M.length : Nat)] 3) = W2 := ⟨_, rfl⟩
  obtain ⟨b5, hb5⟩ : ∃ b, W1.heap.size = b := ⟨_, rfl⟩
  replace S2 : Sep w0 W2 (nums (sl b5 1 1) [(M.length : Int)] :: boxA ob [iv s.op, iv s.id, iv s.x, iv s.y, iv s.r, iv s.n] 34 :: gridA gb sd M :: l) := by rw [← hW2, ← hb5]; exact S2
  have HS := Keep.mk S2
  have HO := Keep.mk hs
  have HN := Keep.mk hn
  have o0 := (S2.boxGet k1m).cellv 0 _ rfl
  have o1 := (S2.boxGet k1m).cellv 1 _ rfl
  have o2 := (S2.boxGet k1m).cellv 2 _ rfl
  have o3 := (S2.boxGet k1m).cellv 3 _ rfl
  have o4 := (S2.boxGet k1m).cellv 4 _ rfl
  have o5 := (S2.boxGet k1m).cellv 5 _ rfl
  clear h S1 S2 hs hn
  have HOP := Keep.mk hop
  clear hop
  go_enter Try.func17, Try.ntmps17
  go_wp2_with fail
  refine HL.out.mono ?_
  rintro e w1 ⟨rfl, hw⟩
  rw [hw]
  clear hw w1 HL
  have hop := HOP.out
  have d1 : (s.op == 1) = false := by simp; omega
  have d2 : (s.op == 2) = false := by simp; omega
  have d3 : (s.op == 3) = false := by simp; omega
  have d4 : (s.op == 4) = false := by simp; omega
  have d5 : (s.op == 5) = true := by simpa using hop
  clear hop HOP
  go_wp2_with fail
  refine (nearest_c w0 W2 _ gb sd M s.x s.y s.r s.n HO.out.2.2.1 HO.out.2.2.2.1 (by have := HN.out; omega) (fr1 [_, _] HS.out)).mono ?_
  rintro e W3 ⟨v3, rfl, S3⟩
  generalize nstL M s.x s.y s.r s.n = K at *
  have S4 : Sep w0 W3 (nums (sl b5 1 1) [(M.length : Int)] :: nums v3 K :: boxA ob [iv s.op, iv s.id, iv s.x, iv s.y, iv s.r, iv s.n] 34 :: gridA gb sd M :: l) := by
    have q := fr1 [_, _] S3
    exact q.perm (((List.Perm.swap _ _ _).cons _).cons _)
  obtain ⟨v8, W8, ap8, S8⟩ := S4.appS (by have := HKL.out; have := HN.out; simp only [List.length_singleton]; omega)
  have AP8 := Keep.mk ap8
  replace HS : Keep (Sep w0 W8 (nums v8 ([(M.length : Int)] ++ K) :: boxA ob [iv s.op, iv s.id, iv s.x, iv s.y, iv s.r, iv s.n] 34 :: gridA gb sd M :: l)) := ⟨S8.swap.tail⟩
  obtain ⟨a8, c8, e8⟩ := own_slice (S8.rowGet k0m)
  generalize ([(M.length : Int)] ++ K).length = n8 at e8
  subst e8
  clear ap8 S8 S3 S4
  go_wp2_with (first
    | (at_builtin; refine wpList_append_run _ rfl (.tmp 59) (.tmp 67) 29 rfl _ _ rfl rfl AP8.out ?_))
  have HL := Keep.mk (len_c w0 W8 _ gb sd (M) (fr1 [_, _] HS.out))
  obtain ⟨g9, c9, W9, ap, S9⟩ := HS.out.appI [(((M).length : Nat) : Int)] (by simp) (by have := HLL.out; have := HN.out; simp only [List.length_singleton]; omega)
  have AP := Keep.mk ap
  have HE : Keep (Sep w0 W9 (nums (sl g9 (([(M.length : Int)] ++ K) ++ [(((M).length : Nat) : Int)]).length c9) (ansL M s) :: gridA gb sd (ansM M s) :: l)) := ⟨by
    rw [HEL.out, HEM.out]
    exact (S9.swap.tail)⟩
  obtain ⟨wb, hwb⟩ : ∃ b, (W8).heap.size = b := ⟨_, rfl⟩
  rw [hwb] at AP
  replace AP : Keep ((Builtin.append_ #[29, 29] 29 #[.slice a8 n8 c8, sl wb 1 1]).run Try.prog (World.alloc W8 (.cells #[iv (((M).length : Nat) : Int)] 3)) = .ok (sl g9 (([(M.length : Int)] ++ K) ++ [(((M).length : Nat) : Int)]).length c9) W9) := AP
  generalize (([(M.length : Int)] ++ K) ++ [(((M).length : Nat) : Int)]).length = n9 at AP HE
  generalize (((M).length : Nat) : Int) = m2 at AP HL
  clear ap S9 HS HEL HEM HLL
  go_wp2_with fail
  refine HL.out.mono ?_
  rintro e w1 ⟨rfl, hw⟩
  rw [hw]
  clear hw w1 HL
  go_wp2_with (first
    | (at_builtin; refine wpList_append_run _ rfl (.tmp 69) (.tmp 72) 29 rfl _ _ rfl rfl AP.out ?_))
  go_ret
  exact ⟨_, rfl, HE.out⟩

theorem answers_c (w0 W : World) (l : List As) (gb : Nat) (sd : Int) (M : List Pl) (s : Stp) (hs : SOk s) (hn : M.length * 24 + 48 ≤ 140737488355328) (h : Sep w0 W (gridA gb sd M :: l)) :
    Calls Try.prog 17 #[pt gb, .agg #[iv s.op, iv s.id, iv s.x, iv s.y, iv s.r, iv s.n]] W fun e W' => ∃ v, e = .returned v ∧ Sep w0 W' (nums v (ansL M s) :: gridA gb sd (ansM M s) :: l) := by
  by_cases h1 : s.op = 1
  · exact ans_1 w0 W l gb sd M s hs hn h h1
  · by_cases h2 : s.op = 2
    · cases hb : atB M s.id
      · exact ans_2f w0 W l gb sd M s hs hn h h2 hb
      · exact ans_2t w0 W l gb sd M s hs hn h h2 hb
    · by_cases h3 : s.op = 3
      · cases hb : atB M s.id
        · exact ans_3f w0 W l gb sd M s hs hn h h3 hb
        · exact ans_3t w0 W l gb sd M s hs hn h h3 hb
      · by_cases h4 : s.op = 4
        · exact ans_4 w0 W l gb sd M s hs hn h h4
        · by_cases h5 : s.op = 5
          · exact ans_5 w0 W l gb sd M s hs hn h h5
          · exact ans_0 w0 W l gb sd M s hs hn h ⟨h1, h2, h3, h4, h5⟩
end Go.Proofs.Ytidpafmhmhojmaa
