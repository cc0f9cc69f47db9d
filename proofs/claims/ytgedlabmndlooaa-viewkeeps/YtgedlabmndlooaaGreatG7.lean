/- grid: Put. -/
import Derived.Test.YtgedlabmndlooaaGreatG6
namespace Go.Proofs.YtgedlabmndlooaaGreat
open Go Go.RowKit

section
variable {w0 W : World} {gb : Nat} {sd : Int} {va : Value} {mi mc : Nat} {A : List Tg} {C : List Cl} {l : List As}
set_option maxRecDepth 100000 in
theorem g_in {a : As} (h : Sep w0 W (a :: gOpen gb sd va mi mc A C l)) : Sep w0 W (gOpen gb sd va mi mc A C (a :: l)) := by
  rw [← gOpen_app] at h ⊢
  exact h.perm List.perm_middle.symm
set_option maxRecDepth 100000 in
theorem g_out {a : As} (h : Sep w0 W (gOpen gb sd va mi mc A C (a :: l))) : Sep w0 W (a :: gOpen gb sd va mi mc A C l) := by
  rw [← gOpen_app] at h ⊢
  exact h.perm List.perm_middle
abbrev gIds (mi : Nat) (A : List Tg) : As := mapA idsM mi A.length (idf A)
abbrev gRow (va : Value) (A : List Tg) : As := rowV 119 1 va A.length (A.map (fun t => pt t.b))
set_option maxRecDepth 100000 in
theorem g_flat (h : Sep w0 W (gOpen gb sd va mi mc A C l)) : Sep w0 W (gIds mi A :: gRow va A :: gbx gb sd va (.map (some mi)) mc :: mapA cellsM mc C.length (clf C) :: (A.map tgA ++ (C.map clA ++ l))) := by
  have e : gOpen gb sd va mi mc A C l = (gbx gb sd va (.map (some mi)) mc :: mapA cellsM mc C.length (clf C) :: (A.map tgA ++ C.map clA)) ++ ([gIds mi A, gRow va A] ++ l) := by
    simp only [gOpen, List.cons_append, List.append_assoc, List.nil_append]
  rw [e] at h
  have h2 := h.perm (pm3 _ _ _)
  simpa only [List.cons_append, List.append_assoc, List.nil_append] using h2
set_option maxRecDepth 100000 in
theorem g_unflat (h : Sep w0 W (gIds mi A :: gRow va A :: gbx gb sd va (.map (some mi)) mc :: mapA cellsM mc C.length (clf C) :: (A.map tgA ++ (C.map clA ++ l)))) : Sep w0 W (gOpen gb sd va mi mc A C l) := by
  have e : gOpen gb sd va mi mc A C l = (gbx gb sd va (.map (some mi)) mc :: mapA cellsM mc C.length (clf C) :: (A.map tgA ++ C.map clA)) ++ ([gIds mi A, gRow va A] ++ l) := by
    simp only [gOpen, List.cons_append, List.append_assoc, List.nil_append]
  rw [e]
  have h1 : Sep w0 W ([gIds mi A, gRow va A] ++ ((gbx gb sd va (.map (some mi)) mc :: mapA cellsM mc C.length (clf C) :: (A.map tgA ++ C.map clA)) ++ l)) := by
    simpa only [List.cons_append, List.append_assoc, List.nil_append] using h
  exact h1.perm (pm3 _ _ _)
end
set_option maxRecDepth 100000 in
theorem pl_core {A' B : List Tg} (h : A'.map core = B.map core) : A'.map plOf = B.map plOf := by
  have e : ∀ L : List Tg, L.map plOf = (L.map core).map plOf := fun L => by rw [List.map_map]; rfl
  rw [e A', h, ← e B]
set_option maxRecDepth 100000 in
theorem pt_core {A' B : List Tg} (h : A'.map core = B.map core) : A'.map (fun t => pt t.b) = B.map (fun t => pt t.b) := by
  have e : ∀ L : List Tg, L.map (fun t => pt t.b) = (L.map core).map (fun t => pt t.b) := fun L => by rw [List.map_map]; rfl
  rw [e A', h, ← e B]
set_option maxRecDepth 100000 in
theorem len_core {A' B : List Tg} (h : A'.map core = B.map core) : A'.length = B.length := by
  rw [← List.length_map (f := core), h, List.length_map]
set_option maxRecDepth 100000 in
theorem mem_core {A' B : List Tg} (h : A'.map core = B.map core) {t : Tg} (ht : t ∈ A') : ∃ u ∈ B, core u = core t := by
  have : core t ∈ B.map core := by rw [← h]; exact List.mem_map_of_mem ht
  obtain ⟨u, hu, e⟩ := List.mem_map.1 this
  exact ⟨u, hu, e⟩
set_option maxRecDepth 100000 in
theorem Gok.of_core {sd : Int} {A' B : List Tg} {C : List Cl} {M : List Pl} (hs : 1 ≤ sd ∧ sd ≤ 1099511627776) (j : Jok sd A' C none) (hc : A'.map core = B.map core) (st : ∀ (i : Nat) (t : Tg), B[i]? = some t → t.s = i) (rg : ∀ t ∈ B, I64 t.id ∧ I64 t.x ∧ I64 t.y)
    (con : (B.map plOf).Perm M) (srt : Srt M) : Gok sd A' C M where
  hs := hs
  j := j
  st i t h := by
    have h1 : (A'.map core)[i]? = some (core t) := by rw [List.getElem?_map, h]; rfl
    rw [hc, List.getElem?_map] at h1
    cases hb : B[i]? with
    | none => rw [hb] at h1; cases h1
    | some u =>
      rw [hb] at h1
      have e := Option.some.inj h1
      have : (core u).s = (core t).s := congrArg Tg.s e
      replace this : u.s = t.s := this
      rw [← this]
      exact st i u hb
  rg t ht := by
    obtain ⟨u, hu, e⟩ := mem_core hc ht
    have e1 : u.id = t.id := (congrArg Tg.id e : (core u).id = (core t).id)
    have e2 : u.x = t.x := (congrArg Tg.x e : (core u).x = (core t).x)
    have e3 : u.y = t.y := (congrArg Tg.y e : (core u).y = (core t).y)
    rw [← e1, ← e2, ← e3]
    exact rg u hu
  con := by rw [pl_core hc]; exact con
  srt := srt
set_option maxRecDepth 100000 in
theorem Sep.blk {w0 W : World} {l : List As} {b c : Nat} {cs ds : List Value} {t u : TypeId} (h : Sep w0 W (boxA b cs t :: l)) (hm : boxA c ds u ∈ l) : b ≠ c := h.boxNe hm
def setxy (b : Nat) (x y : Int) (A : List Tg) : List Tg := A.map (fun u => if u.b = b then { u with x := x, y := y } else u)
set_option maxRecDepth 100000 in
theorem setxy_perm {A R : List Tg} {t : Tg} (x y : Int) (hp : A.Perm (t :: R)) (hn : ∀ u ∈ R, t.b ≠ u.b) : (setxy t.b x y A).Perm ({ t with x := x, y := y } :: R) := by
  have h := hp.map (fun u => if u.b = t.b then { u with x := x, y := y } else u)
  rw [List.map_cons, if_pos rfl] at h
  refine h.trans (List.Perm.cons _ ?_)
  have e : R.map (fun u => if u.b = t.b then { u with x := x, y := y } else u) = R := by
    conv => rhs; rw [← List.map_id R]
    refine List.map_congr_left fun u hu => ?_
    rw [if_neg (Ne.symm (hn u hu))]; rfl
  rw [e]
set_option maxRecDepth 100000 in
theorem info60 : (Tryz.prog.info? 122).map (·.size) = some 5 := by kernel_rfl
set_option maxRecDepth 100000 in
theorem rmk_of {M R : List Pl} {t : Pl} (hp : (t :: R).Perm M) (hs : Srt M) : R.Perm (rmk M t.id) := by
  have h1 : (t :: R).Pairwise (fun a b : Pl => a.id ≠ b.id) := (hp.pairwise_iff (fun {_ _} q => Ne.symm q)).2 hs.ne
  have h2 := (List.pairwise_cons.1 h1).1
  have h3 : (rmk (t :: R) t.id).Perm (rmk M t.id) := hp.filter _
  have h4 : rmk (t :: R) t.id = R := by
    unfold rmk
    rw [List.filter_cons]
    simp only [ne_eq, not_true_eq_false, decide_false, Bool.false_eq_true, if_false]
    exact List.filter_eq_self.2 (fun u hu => by simpa using (h2 u hu).symm)
  rw [h4] at h3
  exact h3
set_option maxRecDepth 100000 in
set_option maxHeartbeats 8000000 in
theorem put_new (w0 W : World) (l : List As) (gb : Nat) (sd : Int) (M : List Pl) (id x y : Int) (hid : I64 id) (hx : I64 x) (hy : I64 y) (hn : (M.length + 1) * 8 ≤ 140737488355328) (va : Value) (mi mc : Nat) (A : List Tg) (C : List Cl) (g : Gok sd A C M) (hlk : look M id = none) (hif : idf A id = none) (hno : ∀ t ∈ A, t.id ≠ id)
    (h : Sep w0 W (gOpen gb sd va mi mc A C l)) :
    Calls Tryz.prog 59 #[pt gb, iv id, vv x y] W fun e W' => e = .returned (.tuple #[]) ∧ Sep w0 W' (gridA gb sd (putM M ⟨id, x, y⟩) :: l) := by
  have hlen := g.len
  have S1 := h.newBox #[iv x, iv y] 24
  obtain ⟨W1, hW1⟩ : ∃ W1, W.alloc (.cells #[iv x, iv y] 24) = W1 := ⟨_, rfl⟩
  obtain ⟨ab, hab⟩ : ∃ b, W.heap.size = b := ⟨_, rfl⟩
  rw [hW1, hab] at S1
  have hl := (S1.mapGet (List.mem_cons_of_mem _ m_ids)).look id hid
  rw [hif] at hl
  replace hl : (Instr.lookup 99 (.map (some mi)) (iv id) false).run Tryz.prog W1 = .ok (.pointer none) W1 := hl
  have c1 := (S1.boxGet k1m).cellv 2 _ rfl
  have S2 := S1.newBox #[iv id, iv 0, iv 0, iv 0, iv 0] 122
  obtain ⟨W2, hW2⟩ : ∃ W2, W1.alloc (.cells #[iv id, iv 0, iv 0, iv 0, iv 0] 122) = W2 := ⟨_, rfl⟩
  obtain ⟨tb, htb⟩ : ∃ b, W1.heap.size = b := ⟨_, rfl⟩
  rw [hW2, htb] at S2
  have hfresh : ∀ u ∈ A, tb ≠ u.b := fun u hu => S2.blk (c := u.b) (ds := [iv u.id, iv u.x, iv u.y, iv u.s, iv u.p]) (u := 122) (List.mem_cons_of_mem _ (m_tg hu))
  have c2 := (S2.boxGet k2m).cellv 2 _ rfl
  have S2a : Sep w0 W2 ([boxA tb [iv id, iv 0, iv 0, iv 0, iv 0] 122, boxA ab [iv x, iv y] 24] ++ gOpen gb sd va mi mc A C l) := S2
  have S2b : Sep w0 W2 (gIds mi A :: gRow va A :: gbx gb sd va (.map (some mi)) mc :: mapA cellsM mc C.length (clf C) :: (A.map tgA ++ (C.map clA ++ (boxA tb [iv id, iv 0, iv 0, iv 0, iv 0] 122 :: boxA ab [iv x, iv y] 24 :: l)))) := g_flat (by
    have := S2a
    rw [← gOpen_app] at this ⊢
    exact this.perm (pm3 _ _ _))
  obtain ⟨W3, r3, m3, G3, _⟩ := (S2b.mapGet k0m).put id hid (tb + 1) (by omega)
  replace r3 : (Instr.mapUpdate 99 (.map (some mi)) (iv id) (pt tb)).run Tryz.prog W2 = .ok () W3 := r3
  rw [hif] at m3
  have S3 := S2b.mapTo m3 G3
  -- the row first, the thing second
  have S3b : Sep w0 W3 (gRow va A :: boxA tb [iv id, iv 0, iv 0, iv 0, iv 0] 122 :: (mapA idsM mi (A.length + 1) (upd (idf A) id (some (tb + 1))) :: gbx gb sd va (.map (some mi)) mc :: mapA cellsM mc C.length (clf C) :: (A.map tgA ++ (C.map clA ++ (boxA ab [iv x, iv y] 24 :: l))))) := by
    have q : Sep w0 W3 (([mapA idsM mi (A.length + 1) (upd (idf A) id (some (tb + 1))), gRow va A, gbx gb sd va (.map (some mi)) mc, mapA cellsM mc C.length (clf C)] ++ (A.map tgA ++ C.map clA)) ++ boxA tb [iv id, iv 0, iv 0, iv 0, iv 0] 122 :: (boxA ab [iv x, iv y] 24 :: l)) := by
      simpa only [List.cons_append, List.append_assoc, List.nil_append, Option.isSome_none, Bool.false_eq_true, if_false] using S3
    have q2 := fr1 _ q
    have q3 := fr1 [_, _] q2
    simpa only [List.cons_append, List.append_assoc, List.nil_append, List.append_eq] using q3
  have c3 := (S3b.boxGet (List.mem_cons_of_mem _ k2m)).cellv 1 _ rfl
  have HL := Keep.mk (lay0_c w0 W3 _ va A.length _ tb _ _ _ _ _ (by omega) S3b)
  have hG := Keep.mk g
  have HF := Keep.mk hfresh
  have HNO := Keep.mk (And.intro hlk hno)
  have HI := Keep.mk (And.intro hid (And.intro hx hy))
  have HN : Keep ((A.length + 1) * 8 ≤ 140737488355328) := ⟨by omega⟩
  clear h S1 S2 S2a S2b S3 S3b m3 G3 g hfresh hlk hno hid hx hy hn hlen hif
  obtain ⟨du, hdu, hdr⟩ := under32
  go_enter Tryz.func59, Tryz.ntmps59
  go_wp2_with fail
  refine HL.out.mono ?_
  rintro e W4 ⟨g9, c9, rfl, S4⟩
  have S5 := (fr1 [_, _, _] S4).boxPut 1 (sl g9 (A.length + 1) c9)
  have x4 := (S4.boxGet k3m).cellv 1 _ rfl
  have y4 := (S4.boxGet k3m).frozen 1
  obtain ⟨W5, hW5⟩ : ∃ W5, W4.setCell ⟨gb, 1, none⟩ (sl g9 (A.length + 1) c9) = W5 := ⟨_, rfl⟩
  rw [hW5] at S5
  have hm5 : boxA ab [iv x, iv y] 24 ∈ (boxA gb ([iv sd, va, .map (some mi), .map (some mc)].set 1 (sl g9 (A.length + 1) c9)) 103 :: ([rowV 119 1 (sl g9 (A.length + 1) c9) (A.length + 1) (A.map (fun t => pt t.b) ++ [pt tb]), boxA tb [iv id, iv 0, iv 0, iv A.length, iv 0] 122, mapA idsM mi (A.length + 1) (upd (idf A) id (some (tb + 1)))] ++ mapA cellsM mc C.length (clf C) :: (A.map tgA ++ (C.map clA ++ (boxA ab [iv x, iv y] 24 :: l))))) := by
    simp
  have a0 := (S5.boxGet hm5).cellv 0 _ rfl
  have a1 := (S5.boxGet hm5).cellv 1 _ rfl
  have b0 := (S5.boxGet k2m).cellv 1 _ rfl
  have b1 := (S5.boxGet k2m).cellv 2 _ rfl
  have f0 := (S5.boxGet k2m).frozen 1
  have f1 := (S5.boxGet k2m).frozen 2
  have S6 := ((fr1 [_, _] S5).boxPut 1 (iv x)).boxPut 2 (iv y)
  obtain ⟨W6, hW6⟩ : ∃ W6, (W5.setCell ⟨tb, 1, none⟩ (iv x)).setCell ⟨tb, 2, none⟩ (iv y) = W6 := ⟨_, rfl⟩
  rw [hW6] at S6
  have HB := Keep.mk S6
  clear S4 S5 S6 HL hm5
  generalize hnn : A.length + 1 = n1 at *
  go_wp2_with fail
  have hjn : Jok sd (⟨tb, id, x, y, A.length, 0⟩ :: A) C (some tb) := hG.out.j.new (t := ⟨tb, id, x, y, A.length, 0⟩) HF.out
  have hpB : (⟨tb, id, x, y, A.length, 0⟩ :: A : List Tg).Perm (A ++ [⟨tb, id, x, y, A.length, 0⟩]) := List.perm_append_comm (l₁ := [_])
  obtain ⟨t1, ht1⟩ : ∃ t1 : Tg, t1 = ⟨tb, id, x, y, A.length, 0⟩ := ⟨_, rfl⟩
  have hb1 : t1.b = tb := by rw [ht1]
  have hS : Sep w0 W6 (gbx gb sd (sl g9 n1 c9) (.map (some mi)) mc :: mapA cellsM mc C.length (clf C) :: ((A ++ [t1]).map tgA ++ (C.map clA ++ (rowV 119 1 (sl g9 n1 c9) n1 (A.map (fun t => pt t.b) ++ [pt tb]) :: mapA idsM mi n1 (upd (idf A) id (some (tb + 1))) :: boxA ab [iv x, iv y] 24 :: l)))) := by
    have q0 : Sep w0 W6 (boxA tb [iv id, iv x, iv y, iv A.length, iv 0] 122 :: gbx gb sd (sl g9 n1 c9) (.map (some mi)) mc :: rowV 119 1 (sl g9 n1 c9) n1 (A.map (fun t => pt t.b) ++ [pt tb]) :: mapA idsM mi n1 (upd (idf A) id (some (tb + 1))) :: mapA cellsM mc C.length (clf C) :: (A.map tgA ++ (C.map clA ++ (boxA ab [iv x, iv y] 24 :: l)))) := HB.out
    have q1 := (fr1 [_, _, _, _] (fr1 [_] q0)).swap
    have q2 : Sep w0 W6 ([gbx gb sd (sl g9 n1 c9) (.map (some mi)) mc, mapA cellsM mc C.length (clf C), boxA tb [iv id, iv x, iv y, iv A.length, iv 0] 122] ++ ([rowV 119 1 (sl g9 n1 c9) n1 (A.map (fun t => pt t.b) ++ [pt tb]), mapA idsM mi n1 (upd (idf A) id (some (tb + 1)))] ++ ((A.map tgA ++ C.map clA) ++ (boxA ab [iv x, iv y] 24 :: l)))) := by
      rw [List.append_assoc]
      exact q1
    have q3 := q2.perm ((pm3 _ _ _).append_left _)
    have q4 : Sep w0 W6 ([gbx gb sd (sl g9 n1 c9) (.map (some mi)) mc, mapA cellsM mc C.length (clf C)] ++ ((t1 :: A).map tgA ++ (C.map clA ++ (rowV 119 1 (sl g9 n1 c9) n1 (A.map (fun t => pt t.b) ++ [pt tb]) :: mapA idsM mi n1 (upd (idf A) id (some (tb + 1))) :: boxA ab [iv x, iv y] 24 :: l)))) := by
      rw [List.append_assoc] at q3
      rw [ht1]
      exact q3
    exact Sep.permM [_, _] (by rw [ht1]; exact hpB) q4
  rw [← hb1]
  refine (enter_c w0 W6 _ gb mc sd _ _ (A ++ [t1]) C t1 (List.mem_append_right _ (List.mem_singleton_self _)) hG.out.hs (by rw [ht1]; exact HI.out.2.1) (by rw [ht1]; exact HI.out.2.2) (by rw [hb1, ht1]; exact hjn.perm hpB (List.Perm.refl _)) (by rw [List.length_append, List.length_singleton, hnn]; exact HN.out) hS).mono ?_
  rintro e W7 ⟨rfl, A', C', hco, hJ, S7⟩
  have HE : Keep (Sep w0 W7 (gridA gb sd (putM M ⟨id, x, y⟩) :: l)) := by
    refine ⟨?_⟩
    have el : A'.length = n1 := by rw [len_core hco, List.length_append, List.length_singleton, hnn]
    have er : A'.map (fun t => pt t.b) = A.map (fun t => pt t.b) ++ [pt tb] := by rw [pt_core hco, List.map_append, List.map_cons, List.map_nil, hb1]
    have eB : (A ++ [t1]).Pairwise (fun a b => a.id ≠ b.id) := by
      refine List.pairwise_append.2 ⟨hG.out.idd, List.pairwise_singleton _ _, fun a ha b hb => ?_⟩
      rw [List.mem_singleton] at hb
      subst hb
      rw [ht1]
      exact HNO.out.2 a ha
    have ei : idf A' = upd (idf A) id (some (tb + 1)) := by
      rw [idf_core hco, idf_perm eB (A' := t1 :: A) List.perm_append_comm]
      have := idf_new (t := t1) (R := A)
      rw [← this, ht1]
    have hgok : Gok sd A' C' (putM M ⟨id, x, y⟩) := by
      refine Gok.of_core hG.out.hs hJ hco (fun i t hi => ?_) (fun t ht => ?_) ?_ (hG.out.srt.put _)
      · by_cases hlt : i < A.length
        · rw [List.getElem?_append_left hlt] at hi
          exact hG.out.st i t hi
        · rw [List.getElem?_append_right (by omega)] at hi
          have h1 := (List.getElem?_eq_some_iff.1 hi).1
          simp only [List.length_singleton] at h1
          have e2 : i = A.length := by omega
          subst e2
          rw [Nat.sub_self] at hi
          have := Option.some.inj hi
          rw [← this, ht1]
      · rcases List.mem_append.1 ht with ht | ht
        · exact hG.out.rg t ht
        · rw [List.mem_singleton] at ht
          rw [ht, ht1]
          exact HI.out
      · rw [List.map_append, List.map_cons, List.map_nil]
        refine List.perm_append_comm.trans ?_
        have hr : rmk M id = M := rmk_none HNO.out.1
        unfold putM
        refine List.Perm.trans ?_ (ins_perm _ _).symm
        show (plOf t1 :: A.map plOf).Perm _
        rw [ht1]
        refine List.Perm.cons _ ?_
        show (A.map plOf).Perm (rmk M id)
        rw [hr]
        exact hG.out.con
    refine (grid_shut (va := sl g9 n1 c9) (mi := mi) (mc := mc) (l := boxA ab [iv x, iv y] 24 :: l) hgok ?_).swap.tail
    unfold gOpen
    rw [ei, er, el]
    exact S7.perm ((((List.Perm.swap _ _ _).append_left _).append_left _).append_left [_, _])
  clear S7 hS hJ hco hjn hpB
  go_wp2_with fail
  go_end0
  exact ⟨rfl, HE.out⟩
end Go.Proofs.YtgedlabmndlooaaGreat
