/- grid: Delete. -/
import Derived.Test.YtidpafmhmhojmaaG8
namespace Go.Proofs.Ytidpafmhmhojmaa
open Go Go.RowKit

theorem Jok.like {sd : Int} {u u' : Tg} {R : List Tg} {C : List Cl} {o : Option Nat} (h : Jok sd (u :: R) C o) (hb : u'.b = u.b) (hp : u'.p = u.p) (hc : cel sd u' = cel sd u) : Jok sd (u' :: R) C o where
  to t ht ho := by
    rcases List.mem_cons.1 ht with rfl | ht
    · have := h.to u (List.mem_cons_self ..) (by rw [← hb]; exact ho)
      rw [hc, hp, hb]; exact this
    · exact h.to t (List.mem_cons_of_mem _ ht) ho
  fro d hd i b hib := by
    obtain ⟨t, ht, h1, h2, h3, h4⟩ := h.fro d hd i b hib
    rcases List.mem_cons.1 ht with rfl | ht
    · exact ⟨u', List.mem_cons_self .., by rw [hb, h1], by rw [hp, h2], by rw [hc, h3], h4⟩
    · exact ⟨t, List.mem_cons_of_mem _ ht, h1, h2, h3, h4⟩
  ne := h.ne
  kd := h.kd
  bd := by
    obtain ⟨h1, h2⟩ := List.pairwise_cons.1 h.bd
    exact List.pairwise_cons.2 ⟨fun d hd => by rw [hb]; exact h1 d hd, h2⟩
  sz := by
    have := h.sz
    simpa using this
theorem swap_last {α : Type} (P Q : List α) (a u v : α) : ((P ++ a :: (Q ++ [u])).set P.length v).take (P.length + 1 + Q.length) = P ++ v :: Q := by
  rw [List.set_append_right _ _ (Nat.le_refl _), Nat.sub_self, List.set_cons_zero, show P ++ v :: (Q ++ [u]) = (P ++ v :: Q) ++ [u] by simp, List.take_append_of_le_length (by simp; omega), List.take_of_length_le (by simp; omega)]
theorem take_last {α : Type} (P : List α) (a v : α) : ((P ++ [a]).set P.length v).take P.length = P := by
  rw [List.take_set_of_le (Nat.le_refl _), List.take_append_of_le_length (Nat.le_refl _), List.take_length]
set_option maxRecDepth 100000 in
set_option maxHeartbeats 8000000 in
/-- the walk, whatever drop does with the list of all -/
theorem del_w (w0 W : World) (l : List As) (gb : Nat) (sd : Int) (M : List Pl) (va : Value) (gg m cc : Nat) (mi mc : Nat) (A : List Tg) (C : List Cl) (g : Gok sd A C M) (t : Tg) (ht : t ∈ A) (hif : idf A t.id = some (t.b + 1)) (hn : M.length * 8 ≤ 140737488355328)
    (hd : ∀ (A1 : List Tg) (C1 : List Cl) (w0 W : World) (l : List As), A1.map core = A.map core → Jok sd A1 C1 (some t.b) → Sep w0 W (gRow va A1 :: (A1.map tgA ++ l)) → Calls Try.prog 38 #[va, iv 0, pt t.b] W fun e W' => e = .returned (sl gg m cc) ∧ ∃ A2, Gok sd A2 C1 (rmk M t.id) ∧ idf A2 = upd (idf A) t.id none ∧ A2.length + 1 = A.length ∧ Sep w0 W' (gRow (sl gg m cc) A2 :: (A2.map tgA ++ l)))
    (h : Sep w0 W (gOpen gb sd va mi mc A C l)) :
    Calls Try.prog 21 #[pt gb, iv t.id] W fun e W' => e = .returned (.bool true) ∧ Sep w0 W' (gridA gb sd (rmk M t.id) :: l) := by
  have hlen := g.len
  have hid := (g.rg t ht).1
  have hl := (h.mapGet m_ids).look t.id hid
  rw [hif] at hl
  replace hl : (Instr.lookup 52 (.map (some mi)) (iv t.id) false).run Try.prog W = .ok (pt t.b) W := hl
  have c1 := (h.boxGet k0m).cellv 2 _ rfl
  have HL := Keep.mk (leave_c w0 W _ gb mc sd va (.map (some mi)) A C t ht g.hs (g.rg t ht).2.1 (g.rg t ht).2.2 g.j (by omega) h)
  have HD := Keep.mk hd
  have HI := Keep.mk hid
  have HX := Keep.mk (And.intro hif hlen)
  clear h g hid hn hlen hif ht hd
  go_enter Try.func21, Try.ntmps21
  go_wp2_with fail
  refine HL.out.mono ?_
  rintro e W2 ⟨rfl, A1, C1, hco, hJ, S2⟩
  have S2' : Sep w0 W2 (gOpen gb sd va mi mc A1 C1 l) := by
    unfold gOpen
    rw [idf_core hco, pt_core hco, len_core hco]
    exact S2
  have c2 := (S2'.boxGet k0m).cellv 1 _ rfl
  have S3 := g_flat S2'
  have S4 : Sep w0 W2 (gRow va A1 :: (A1.map tgA ++ ([gIds mi A1, gbx gb sd va (.map (some mi)) mc, mapA cellsM mc C1.length (clf C1)] ++ (C1.map clA ++ l)))) := by
    have q := fr1 [_] S3
    refine q.perm (List.Perm.cons _ ?_)
    exact pm3 [_, _, _] (A1.map tgA) (C1.map clA ++ l)
  have HC := Keep.mk (HD.out A1 C1 w0 W2 _ hco hJ S4)
  have HCO := Keep.mk hco
  clear S2 S2' S3 S4 hco hJ HL HD
  go_wp2_with fail
  refine HC.out.mono ?_
  rintro e W3 ⟨rfl, A2, g2, ei, el, S5⟩
  have S6 : Sep w0 W3 (gbx gb sd va (.map (some mi)) mc :: gIds mi A1 :: gRow (sl gg m cc) A2 :: mapA cellsM mc C1.length (clf C1) :: (A2.map tgA ++ (C1.map clA ++ l))) := by
    have q : Sep w0 W3 (gRow (sl gg m cc) A2 :: gIds mi A1 :: gbx gb sd va (.map (some mi)) mc :: mapA cellsM mc C1.length (clf C1) :: (A2.map tgA ++ (C1.map clA ++ l))) := S5.perm (List.Perm.cons _ (pm3 (A2.map tgA) [_, _, _] (C1.map clA ++ l)))
    exact (fr1 [_, _] q).perm ((List.Perm.swap _ _ _).cons _)
  have x6 := (S6.boxGet k0m).cellv 1 _ rfl
  have y6 := (S6.boxGet k0m).frozen 1
  have S7 := S6.boxPut 1 (sl gg m cc)
  obtain ⟨W7, hW7⟩ : ∃ W7, W3.setCell ⟨gb, 1, none⟩ (sl gg m cc) = W7 := ⟨_, rfl⟩
  rw [hW7] at S7
  have x7 := (S7.boxGet k0m).cellv 2 _ rfl
  obtain ⟨W8, r8, m8, G8, _⟩ := (S7.mapGet k1m).drop t.id HI.out 0
  replace r8 : (Builtin.delete_ #[52, 3] 0 #[.map (some mi), iv t.id]).run Try.prog W7 = .ok (.tuple #[]) W8 := r8
  rw [idf_core HCO.out, HX.out.1, len_core HCO.out] at m8
  have S8 := (fr1 [_] S7).mapTo m8 G8
  have HF : Keep (Sep w0 W8 (gridA gb sd (rmk M t.id) :: l)) := by
    refine ⟨grid_shut (va := (sl gg m cc)) (mi := mi) (mc := mc) g2 (g_unflat ?_)⟩
    have q : Sep w0 W8 (mapA idsM mi A2.length (idf A2) :: gbx gb sd (sl gg m cc) (.map (some mi)) mc :: gRow (sl gg m cc) A2 :: mapA cellsM mc C1.length (clf C1) :: (A2.map tgA ++ (C1.map clA ++ l))) := by
      rw [ei, show A2.length = A.length - 1 by omega]
      exact S8
    exact q.perm ((List.Perm.swap _ _ _).cons _)
  clear S5 S6 S7 S8 g2 m8 G8 HC ei el HX
  go_wp2_with fail
  go_ret
  exact ⟨rfl, HF.out⟩
set_option maxRecDepth 100000 in
set_option maxHeartbeats 8000000 in
theorem delete_c (w0 W : World) (l : List As) (gb : Nat) (sd : Int) (M : List Pl) (id : Int) (hid : I64 id) (hn : M.length * 8 ≤ 140737488355328) (h : Sep w0 W (gridA gb sd M :: l)) :
    Calls Try.prog 21 #[pt gb, iv id] W fun e W' => e = .returned (.bool (atB M id)) ∧ Sep w0 W' (gridA gb sd (rmk M id) :: l) := by
  obtain ⟨va, mi, mc, A, C, g, h1⟩ := grid_open h
  rcases g.look id with ⟨q1, q2, q3⟩ | ⟨t, ht, rfl, q1, q2⟩
  · have hl := (h1.mapGet m_ids).look id hid
    rw [q2] at hl
    replace hl : (Instr.lookup 52 (.map (some mi)) (iv id) false).run Try.prog W = .ok (.pointer none) W := hl
    have c1 := (h1.boxGet k0m).cellv 2 _ rfl
    have e1 : atB M id = false := by unfold atB; rw [q1]; rfl
    have HF : Keep (Sep w0 W (gridA gb sd (rmk M id) :: l)) := ⟨by rw [rmk_none q1]; exact h⟩
    rw [e1]
    clear h h1 g q1 q2 q3 e1 hid
    go_enter Try.func21, Try.ntmps21
    go_wp2_with fail
    go_ret
    exact ⟨rfl, HF.out⟩
  · have e1 : atB M t.id = true := by unfold atB; rw [q1]; rfl
    rw [e1]
    have hlen := g.len
    have hpos : 0 < A.length := List.length_pos_of_mem ht
    obtain ⟨gg, cc, ev, _⟩ := own_any (h1.rowGet m_all) hpos
    obtain ⟨m, hm⟩ : ∃ m, A.length = m + 1 := ⟨A.length - 1, by omega⟩
    rw [hm] at ev
    refine del_w w0 W l gb sd M va gg m cc mi mc A C g t ht q2 hn ?_ h1
    clear h h1
    subst ev
    intro A1 C1 w0 W l hco hJ S
    obtain ⟨t1, ht1, hct⟩ := mid_core hco ht
    have hb1 : t1.b = t.b := (congrArg Tg.b hct : (core t1).b = (core t).b)
    have hi1 : t1.id = t.id := (congrArg Tg.id hct : (core t1).id = (core t).id)
    have hst1 := st_core hco g.st
    have hl1 := len_core hco
    obtain ⟨P, Q, hPQ⟩ := List.append_of_mem ht1
    have hts : t1.s = P.length := hst1 P.length t1 (by rw [hPQ, List.getElem?_append_right (Nat.le_refl _), Nat.sub_self]; rfl)
    have hrg1 : ∀ v ∈ A1, I64 v.id ∧ I64 v.x ∧ I64 v.y := by
      intro v hv
      obtain ⟨z, hz, e⟩ := mem_core hco hv
      have e1 : z.id = v.id := (congrArg Tg.id e : (core z).id = (core v).id)
      have e2 : z.x = v.x := (congrArg Tg.x e : (core z).x = (core v).x)
      have e3 : z.y = v.y := (congrArg Tg.y e : (core z).y = (core v).y)
      rw [← e1, ← e2, ← e3]
      exact g.rg z hz
    have hidd1 : A1.Pairwise (fun a b => a.id ≠ b.id) := by
      have h1 : (A1.map plOf).Pairwise (fun a b : Pl => a.id ≠ b.id) := by
        rw [pl_core hco]
        exact (g.con.pairwise_iff (fun {_ _} q => Ne.symm q)).2 g.srt.ne
      exact (List.pairwise_map.1 h1).imp (fun q => q)
    have hcon1 : (A1.map plOf).Perm M := by rw [pl_core hco]; exact g.con
    have hidf : ∀ R : List Tg, A1.Perm (t1 :: R) → idf R = upd (idf A) t.id none := by
      intro R hp
      rw [← idf_core hco, idf_perm hidd1 hp, ← hi1]
      have := (hp.pairwise_iff (R := fun a b : Tg => a.id ≠ b.id) (fun {_ _} q => Ne.symm q)).1 hidd1
      exact (idf_del (fun u hu => ((List.pairwise_cons.1 this).1 u hu).symm)).symm
    have hrm : ∀ R : List Tg, A1.Perm (t1 :: R) → (R.map plOf).Perm (rmk M t.id) := by
      intro R hp
      have hp2 : (plOf t1 :: R.map plOf).Perm M := ((hp.map plOf).symm).trans hcon1
      have := rmk_of hp2 g.srt
      rw [show (plOf t1).id = t.id from hi1] at this
      exact this
    rw [← hb1] at hJ ⊢
    rcases List.eq_nil_or_concat Q with rfl | ⟨Q', u, hQ⟩
    · -- the last of all
      have hPm : P.length = m := by
        have := congrArg List.length hPQ
        simp at this
        omega
      have hp : A1.Perm (t1 :: P) := by rw [hPQ]; exact List.perm_append_comm
      have S1 : Sep w0 W (rowV 57 1 (sl gg (m + 1) cc) (m + 1) (A1.map (fun t => pt t.b)) :: boxA t1.b [iv t1.id, iv t1.x, iv t1.y, iv P.length, iv t1.p] 60 :: (P.map tgA ++ l)) := by
        have q := Sep.permM [gRow (sl gg (m + 1) cc) A1] hp S
        rw [← hts, ← hm, ← hl1]
        rw [← hm, ← hl1] at q
        exact q
      have hx : (A1.map (fun t => pt t.b))[m]? = some (pt t1.b) := by
        rw [hPQ, List.getElem?_map, List.getElem?_append_right (by omega), hPm, Nat.sub_self]; rfl
      have hcon := dropL0 w0 W _ gg m cc P.length _ t1.b _ _ _ _ hPm (by omega) hx S1
      refine hcon.mono ?_
      rintro e W' ⟨rfl, S2⟩
      refine ⟨rfl, P, ?_, hidf P hp, by omega, ?_⟩
      · refine ⟨g.hs, (hJ.perm hp (List.Perm.refl _)).gone, fun i v hv => ?_, fun v hv => hrg1 v (hp.mem_iff.2 (List.mem_cons_of_mem _ hv)), hrm P hp, g.srt.rmk _⟩
        have hi := (List.getElem?_eq_some_iff.1 hv).1
        exact hst1 i v (by rw [hPQ, List.getElem?_append_left hi]; exact hv)
      · have e : ((A1.map (fun t => pt t.b)).set P.length (pt t1.b)).take m = P.map (fun t => pt t.b) := by
          rw [hPQ, List.map_append, List.map_cons, List.map_nil, ← hPm]
          have := take_last (P.map (fun t : Tg => pt t.b)) (pt t1.b) (pt t1.b)
          rw [List.length_map] at this
          exact this
        rw [e] at S2
        have q := S2.swap.tail
        show Sep w0 W' (rowV 57 1 (sl gg m cc) P.length (P.map (fun t => pt t.b)) :: _)
        rw [hPm]
        exact q
    · -- another comes to stand there
      rw [List.concat_eq_append] at hQ
      subst hQ
      have hPm : P.length + 1 + Q'.length = m := by
        have := congrArg List.length hPQ
        simp at this
        omega
      have hp : A1.Perm (t1 :: u :: (P ++ Q')) := by
        rw [hPQ]
        refine List.perm_middle.trans (List.Perm.cons _ ?_)
        rw [← List.append_assoc]
        exact List.perm_append_comm
      have hp2 : (u :: (P ++ Q')).Perm (P ++ u :: Q') := List.perm_middle.symm
      have hJ2 := hJ.perm hp (List.Perm.refl _)
      have hus : u.s = m := hst1 m u (by rw [hPQ, List.getElem?_append_right (by omega), show m - P.length = Q'.length + 1 by omega, List.getElem?_cons_succ, List.getElem?_append_right (Nat.le_refl _), Nat.sub_self]; rfl)
      have S1 : Sep w0 W (rowV 57 1 (sl gg (m + 1) cc) (m + 1) (A1.map (fun t => pt t.b)) :: boxA t1.b [iv t1.id, iv t1.x, iv t1.y, iv P.length, iv t1.p] 60 :: boxA u.b [iv u.id, iv u.x, iv u.y, iv u.s, iv u.p] 60 :: ((P ++ Q').map tgA ++ l)) := by
        have q := Sep.permM [gRow (sl gg (m + 1) cc) A1] hp S
        rw [← hts, ← hm, ← hl1]
        rw [← hm, ← hl1] at q
        exact q
      have hx : (A1.map (fun t => pt t.b))[m]? = some (pt u.b) := by
        rw [List.getElem?_map, hPQ, List.getElem?_append_right (by omega), show m - P.length = Q'.length + 1 by omega, List.getElem?_cons_succ, List.getElem?_append_right (Nat.le_refl _), Nat.sub_self]; rfl
      have hcon := dropM0 w0 W _ gg m cc P.length _ t1.b u.b _ _ _ _ _ _ _ _ _ (by omega) (by omega) hx S1
      refine hcon.mono ?_
      rintro e W' ⟨rfl, S2⟩
      have hpu : ({ u with s := P.length } :: (P ++ Q') : List Tg).Perm (P ++ { u with s := P.length } :: Q') := List.perm_middle.symm
      refine ⟨rfl, P ++ { u with s := P.length } :: Q', ?_, ?_, by simp; omega, ?_⟩
      · refine ⟨g.hs, (hJ2.gone.like (u' := { u with s := P.length }) rfl rfl rfl).perm hpu (List.Perm.refl _), fun i v hv => ?_, fun v hv => ?_, ?_, g.srt.rmk _⟩
        · by_cases hi : i < P.length
          · rw [List.getElem?_append_left hi] at hv
            exact hst1 i v (by rw [hPQ, List.getElem?_append_left hi]; exact hv)
          · rw [List.getElem?_append_right (by omega)] at hv
            by_cases hi2 : i = P.length
            · subst hi2
              rw [Nat.sub_self] at hv
              have := Option.some.inj hv
              rw [← this]
            · rw [show i - P.length = (i - P.length - 1) + 1 by omega, List.getElem?_cons_succ] at hv
              have hlt := (List.getElem?_eq_some_iff.1 hv).1
              exact hst1 i v (by rw [hPQ, List.getElem?_append_right (by omega), show i - P.length = (i - P.length - 1) + 1 by omega, List.getElem?_cons_succ, List.getElem?_append_left hlt]; exact hv)
        · rcases List.mem_cons.1 (hpu.mem_iff.2 hv) with rfl | hv
          · exact hrg1 u (hp.mem_iff.2 (List.mem_cons_of_mem _ (List.mem_cons_self ..)))
          · exact hrg1 v (hp.mem_iff.2 (List.mem_cons_of_mem _ (List.mem_cons_of_mem _ hv)))
        · refine ((hpu.map plOf).symm).trans ?_
          exact hrm (u :: (P ++ Q')) hp
      · have hd1 : ({ u with s := P.length } :: (P ++ Q') : List Tg).Pairwise (fun a b => a.id ≠ b.id) := by
          have := (hp.pairwise_iff (R := fun a b : Tg => a.id ≠ b.id) (fun {_ _} q => Ne.symm q)).1 hidd1
          obtain ⟨h1, h2⟩ := List.pairwise_cons.1 (List.pairwise_cons.1 this).2
          exact List.pairwise_cons.2 ⟨h1, h2⟩
        rw [← idf_perm hd1 hpu, ← hidf _ hp]
        funext k
        rw [idf_cons, idf_cons]
      · have e : ((A1.map (fun t => pt t.b)).set P.length (pt u.b)).take m = (P ++ { u with s := P.length } :: Q').map (fun t => pt t.b) := by
          rw [hPQ, List.map_append, List.map_cons, List.map_append, List.map_cons, List.map_nil, ← hPm]
          have := swap_last (P.map (fun t : Tg => pt t.b)) (Q'.map (fun t : Tg => pt t.b)) (pt t1.b) (pt u.b) (pt u.b)
          rw [List.length_map, List.length_map] at this
          rw [this, List.map_append, List.map_cons]
        rw [e] at S2
        have q := S2.swap.tail
        have q2 : Sep w0 W' ([rowV 57 1 (sl gg m cc) m ((P ++ { u with s := P.length } :: Q').map (fun t => pt t.b))] ++ (({ u with s := P.length } :: (P ++ Q') : List Tg).map tgA ++ l)) := q
        have q3 := Sep.permM _ hpu q2
        have el : (P ++ { u with s := P.length } :: Q').length = m := by simp; omega
        show Sep w0 W' (rowV 57 1 (sl gg m cc) (P ++ { u with s := P.length } :: Q').length _ :: _)
        rw [el]
        exact q3
end Go.Proofs.Ytidpafmhmhojmaa
