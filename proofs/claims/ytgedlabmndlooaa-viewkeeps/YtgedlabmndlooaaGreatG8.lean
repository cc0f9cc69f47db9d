/- grid: Put of what is there, Put, Delete. -/
import Derived.Test.YtgedlabmndlooaaGreatG7
namespace Go.Proofs.YtgedlabmndlooaaGreat
open Go Go.RowKit

set_option maxRecDepth 100000 in
theorem idf_like {φ : Tg → Tg} (h1 : ∀ u, (φ u).id = u.id) (h2 : ∀ u, (φ u).b = u.b) (A : List Tg) : idf (A.map φ) = idf A := by
  induction A with
  | nil => rfl
  | cons t R ih =>
    funext k
    rw [List.map_cons, idf_cons, idf_cons, ih, h1, h2]
set_option maxRecDepth 100000 in
theorem mid_core {A B : List Tg} (h : A.map core = B.map core) {t : Tg} (ht : t ∈ B) : ∃ u ∈ A, core u = core t := mem_core h.symm ht
set_option maxRecDepth 100000 in
theorem st_core {A' B : List Tg} (hc : A'.map core = B.map core) (st : ∀ (i : Nat) (t : Tg), B[i]? = some t → t.s = i) : ∀ (i : Nat) (t : Tg), A'[i]? = some t → t.s = i := by
  intro i t h
  have h1 : (A'.map core)[i]? = some (core t) := by rw [List.getElem?_map, h]; rfl
  rw [hc, List.getElem?_map] at h1
  cases hb : B[i]? with
  | none => rw [hb] at h1; cases h1
  | some u =>
    rw [hb] at h1
    have e := Option.some.inj h1
    have : (core u).s = (core t).s := congrArg Tg.s e
    replace this : u.s = t.s := this
    rw [← this]
    exact st i u hb
set_option maxRecDepth 100000 in
set_option maxHeartbeats 8000000 in
theorem put_old (w0 W : World) (l : List As) (gb : Nat) (sd : Int) (M : List Pl) (x y : Int) (hx : I64 x) (hy : I64 y) (hn : M.length * 8 ≤ 140737488355328) (va : Value) (mi mc : Nat) (A : List Tg) (C : List Cl) (g : Gok sd A C M) (t : Tg) (ht : t ∈ A) (hif : idf A t.id = some (t.b + 1))
    (h : Sep w0 W (gOpen gb sd va mi mc A C l)) :
    Calls Tryz.prog 59 #[pt gb, iv t.id, vv x y] W fun e W' => e = .returned (.tuple #[]) ∧ Sep w0 W' (gridA gb sd (putM M ⟨t.id, x, y⟩) :: l) := by
  have hlen := g.len
  have hid := (g.rg t ht).1
  have S1 := h.newBox #[iv x, iv y] 24
  obtain ⟨W1, hW1⟩ : ∃ W1, W.alloc (.cells #[iv x, iv y] 24) = W1 := ⟨_, rfl⟩
  obtain ⟨ab, hab⟩ : ∃ b, W.heap.size = b := ⟨_, rfl⟩
  rw [hW1, hab] at S1
  have hl := (S1.mapGet (List.mem_cons_of_mem _ m_ids)).look t.id hid
  rw [hif] at hl
  replace hl : (Instr.lookup 99 (.map (some mi)) (iv t.id) false).run Tryz.prog W1 = .ok (pt t.b) W1 := hl
  have c1 := (S1.boxGet k1m).cellv 2 _ rfl
  have HL := Keep.mk (leave_c w0 W1 _ gb mc sd va (.map (some mi)) A C t ht g.hs (g.rg t ht).2.1 (g.rg t ht).2.2 g.j (by omega) (g_in S1))
  have hG := Keep.mk g
  have HT := Keep.mk ht
  have HI := Keep.mk (And.intro hid (And.intro hx hy))
  have HN : Keep (A.length * 8 ≤ 140737488355328) := ⟨by omega⟩
  clear h S1 g hid hx hy hn hlen hif ht
  go_enter Tryz.func59, Tryz.ntmps59
  go_wp2_with fail
  refine HL.out.mono ?_
  rintro e W2 ⟨rfl, A1, C1, hco, hJ, S2⟩
  obtain ⟨t1, ht1, hct⟩ := mid_core hco HT.out
  have hb1 : t1.b = t.b := (congrArg Tg.b hct : (core t1).b = (core t).b)
  have hi1 : t1.id = t.id := (congrArg Tg.id hct : (core t1).id = (core t).id)
  obtain ⟨R1, hA1⟩ := mem_perm ht1
  have S3 : Sep w0 W2 ([gbx gb sd va (.map (some mi)) mc, mapA cellsM mc C1.length (clf C1), tgA t1] ++ (R1.map tgA ++ (C1.map clA ++ (gIds mi A :: gRow va A :: boxA ab [iv x, iv y] 24 :: l)))) := Sep.permM [_, _] hA1 S2
  have S4 : Sep w0 W2 (boxA t.b [iv t1.id, iv t1.x, iv t1.y, iv t1.s, iv t1.p] 122 :: ([gbx gb sd va (.map (some mi)) mc, mapA cellsM mc C1.length (clf C1)] ++ (R1.map tgA ++ (C1.map clA ++ (gIds mi A :: gRow va A :: boxA ab [iv x, iv y] 24 :: l))))) := by
    rw [← hb1]
    exact fr1 [_, _] S3
  have hm4 : boxA ab [iv x, iv y] 24 ∈ boxA t.b [iv t1.id, iv t1.x, iv t1.y, iv t1.s, iv t1.p] 122 :: ([gbx gb sd va (.map (some mi)) mc, mapA cellsM mc C1.length (clf C1)] ++ (R1.map tgA ++ (C1.map clA ++ (gIds mi A :: gRow va A :: boxA ab [iv x, iv y] 24 :: l)))) := by
    simp
  have a0 := (S4.boxGet hm4).cellv 0 _ rfl
  have a1 := (S4.boxGet hm4).cellv 1 _ rfl
  have b0 := (S4.boxGet k0m).cellv 1 _ rfl
  have b1 := (S4.boxGet k0m).cellv 2 _ rfl
  have f0 := (S4.boxGet k0m).frozen 1
  have f1 := (S4.boxGet k0m).frozen 2
  have S6 := (S4.boxPut 1 (iv x)).boxPut 2 (iv y)
  obtain ⟨W6, hW6⟩ : ∃ W6, (W2.setCell ⟨t.b, 1, none⟩ (iv x)).setCell ⟨t.b, 2, none⟩ (iv y) = W6 := ⟨_, rfl⟩
  rw [hW6] at S6
  have hJ1 := hJ.perm hA1 (List.Perm.refl C1)
  rw [← hb1] at hJ1
  have hbn := (List.pairwise_cons.1 hJ1.bd).1
  have hJ2 := hJ1.move (t' := { t1 with x := x, y := y }) rfl
  have hpx := setxy_perm x y hA1 hbn
  have hS : Sep w0 W6 (gbx gb sd va (.map (some mi)) mc :: mapA cellsM mc C1.length (clf C1) :: ((setxy t1.b x y A1).map tgA ++ (C1.map clA ++ (gIds mi A :: gRow va A :: boxA ab [iv x, iv y] 24 :: l)))) := by
    refine Sep.permM [_, _] hpx.symm ?_
    have q : Sep w0 W6 ([gbx gb sd va (.map (some mi)) mc, mapA cellsM mc C1.length (clf C1)] ++ boxA t.b [iv t1.id, iv x, iv y, iv t1.s, iv t1.p] 122 :: (R1.map tgA ++ (C1.map clA ++ (gIds mi A :: gRow va A :: boxA ab [iv x, iv y] 24 :: l)))) := bk1 [_, _] S6
    rw [← hb1] at q
    exact q
  have hm2 : ({ t1 with x := x, y := y } : Tg) ∈ setxy t1.b x y A1 := hpx.mem_iff.2 (List.mem_cons_self ..)
  have HE := Keep.mk (enter_c w0 W6 _ gb mc sd _ _ (setxy t1.b x y A1) C1 { t1 with x := x, y := y } hm2 hG.out.hs HI.out.2.1 HI.out.2.2 (hJ2.perm hpx.symm (List.Perm.refl _)) (by unfold setxy; rw [List.length_map, len_core hco]; exact HN.out) hS)
  have HE2 : Keep (Calls Tryz.prog 76 #[pt gb, pt t.b] W6 _) := ⟨by rw [← hb1]; exact HE.out⟩
  have HCO := Keep.mk hco
  have HA1 := Keep.mk hA1
  have HPX := Keep.mk hpx
  have HIB := Keep.mk (And.intro hi1 hb1)
  clear HE S2 S3 S4 S6 hS hm4 hJ hJ1 hJ2 hbn hco hA1 hpx hct ht1 hm2 HL hi1 hb1
  go_wp2_with fail
  refine HE2.out.mono ?_
  rintro e W7 ⟨rfl, A', C', hco2, hJ, S7⟩
  have HF : Keep (Sep w0 W7 (gridA gb sd (putM M ⟨t.id, x, y⟩) :: l)) := by
    refine ⟨?_⟩
    obtain ⟨hi1, hb1⟩ := HIB.out
    have el : A'.length = A.length := by rw [len_core hco2]; unfold setxy; rw [List.length_map, len_core HCO.out]
    have e2 : (setxy t1.b x y A1).map (fun t => pt t.b) = A1.map (fun t => pt t.b) := by
      unfold setxy
      rw [List.map_map]
      refine List.map_congr_left fun u _ => ?_
      simp only [Function.comp]
      split <;> rfl
    have er : A'.map (fun t => pt t.b) = A.map (fun t => pt t.b) := by rw [pt_core hco2, e2, pt_core HCO.out]
    have ei : idf A' = idf A := by
      rw [idf_core hco2]
      unfold setxy
      rw [idf_like (fun u => by split <;> rfl) (fun u => by split <;> rfl), idf_core HCO.out]
    have hst1 := st_core HCO.out hG.out.st
    have hgok : Gok sd A' C' (putM M ⟨t.id, x, y⟩) := by
      refine Gok.of_core hG.out.hs hJ hco2 (fun i u hi => ?_) (fun u hu => ?_) ?_ (hG.out.srt.put _)
      · unfold setxy at hi
        rw [List.getElem?_map] at hi
        cases hb : A1[i]? with
        | none => rw [hb] at hi; cases hi
        | some v =>
          rw [hb] at hi
          have := hst1 i v hb
          have e := Option.some.inj hi
          rw [← e, ← this]
          dsimp only
          split <;> rfl
      · have hmem : ∀ v ∈ A1, I64 v.id ∧ I64 v.x ∧ I64 v.y := by
          intro v hv
          obtain ⟨z, hz, e⟩ := mem_core HCO.out hv
          have e1 : z.id = v.id := (congrArg Tg.id e : (core z).id = (core v).id)
          have e2 : z.x = v.x := (congrArg Tg.x e : (core z).x = (core v).x)
          have e3 : z.y = v.y := (congrArg Tg.y e : (core z).y = (core v).y)
          rw [← e1, ← e2, ← e3]
          exact hG.out.rg z hz
        rcases List.mem_cons.1 (HPX.out.mem_iff.1 hu) with rfl | hu
        · exact ⟨(hmem t1 (HA1.out.mem_iff.2 (List.mem_cons_self ..))).1, HI.out.2⟩
        · exact hmem u (HA1.out.mem_iff.2 (List.mem_cons_of_mem _ hu))
      · refine (HPX.out.map plOf).trans ?_
        unfold putM
        refine List.Perm.trans ?_ (ins_perm _ _).symm
        show (plOf { t1 with x := x, y := y } :: R1.map plOf).Perm _
        have e3 : plOf { t1 with x := x, y := y } = ⟨t.id, x, y⟩ := by unfold plOf; rw [← hi1]
        rw [e3]
        refine List.Perm.cons _ ?_
        show (R1.map plOf).Perm (rmk M t.id)
        have hp : (plOf t1 :: R1.map plOf).Perm M := by
          refine List.Perm.trans ?_ hG.out.con
          rw [← pl_core HCO.out]
          exact (HA1.out.map plOf).symm
        have := rmk_of hp hG.out.srt
        rw [show (plOf t1).id = t.id from hi1] at this
        exact this
    refine (grid_shut (va := va) (mi := mi) (mc := mc) (l := boxA ab [iv x, iv y] 24 :: l) hgok ?_).swap.tail
    unfold gOpen
    rw [ei, er, el]
    exact S7
  clear S7 hJ hco2 HE2
  go_wp2_with fail
  go_end0
  exact ⟨rfl, HF.out⟩
set_option maxRecDepth 100000 in
theorem put_c (w0 W : World) (l : List As) (gb : Nat) (sd : Int) (M : List Pl) (id x y : Int) (hid : I64 id) (hx : I64 x) (hy : I64 y) (hn : (M.length + 1) * 8 ≤ 140737488355328) (h : Sep w0 W (gridA gb sd M :: l)) :
    Calls Tryz.prog 59 #[pt gb, iv id, vv x y] W fun e W' => e = .returned (.tuple #[]) ∧ Sep w0 W' (gridA gb sd (putM M ⟨id, x, y⟩) :: l) := by
  obtain ⟨va, mi, mc, A, C, g, h1⟩ := grid_open h
  rcases g.look id with ⟨q1, q2, q3⟩ | ⟨t, ht, rfl, q1, q2⟩
  · exact put_new w0 W l gb sd M id x y hid hx hy hn va mi mc A C g q1 q2 q3 h1
  · exact put_old w0 W l gb sd M x y hx hy (by omega) va mi mc A C g t ht q2 h1
end Go.Proofs.YtgedlabmndlooaaGreat
