/- SmoothKeeps -/
import Derived.Test.YtfhhneibdmjfgaaB3
namespace Go.Proofs.Ytfhhneibdmjfgaa
open Go Go.RowKit Go.Maps Sm
set_option maxRecDepth 1000000
attribute [local go_sem] run_store_fl
structure Pk where
  va : Value
  vo : Value
  n : Nat
/-- the mark of the list number t -/
def mkP (t : Nat) : Pt := ⟨floatOfInt .f32 ((t : Int) + 1), 0, 3239051264⟩
def csP (t m : Nat) : List Value := pls (List.replicate m (mkP t))
def rdsX (d : Nat) (cs : Nat → Nat → List Value) : List Pk → Nat → List As
  | [], _ => []
  | p :: r, t => prK p.va p.n (cs t p.n) p.vo (p.n + d) (cs t (p.n + d)) :: rdsX d cs r (t + 1)
theorem rdsX_app (d : Nat) (cs : Nat → Nat → List Value) : ∀ (P : List Pk) (p : Pk) (t : Nat), rdsX d cs (P ++ [p]) t = rdsX d cs P t ++ [prK p.va p.n (cs (t + P.length) p.n) p.vo (p.n + d) (cs (t + P.length) (p.n + d))]
  | [], p, t => rfl
  | q :: r, p, t => by
    rw [List.cons_append, rdsX, rdsX_app d cs r p (t + 1), rdsX, List.length_cons, List.cons_append, show t + 1 + r.length = t + (r.length + 1) by omega]
theorem rdsX_mem (d : Nat) (cs : Nat → Nat → List Value) : ∀ (P : List Pk) (t i : Nat) (p : Pk), P[i]? = some p → prK p.va p.n (cs (t + i) p.n) p.vo (p.n + d) (cs (t + i) (p.n + d)) ∈ rdsX d cs P t
  | [], _, _, _, h => by simp at h
  | q :: r, t, 0, p, h => by
    simp only [List.getElem?_cons_zero, Option.some.injEq] at h
    subst h
    exact List.mem_cons_self ..
  | q :: r, t, i + 1, p, h => by
    have := rdsX_mem d cs r (t + 1) i p (by simpa using h)
    rw [show t + 1 + i = t + (i + 1) by omega] at this
    exact List.mem_cons_of_mem _ this
theorem row_cell {W : World} {e : TypeId} {g n c k : Nat} {xs : List Value} {t : Value} (h : W.ownsRow 0 e 1 (sl g n c) n xs) (hn : 0 < n) (hk : xs[k]? = some t) : W.cell? ⟨g, k, none⟩ = some t := by
  obtain ⟨g', c', e, q⟩ := own_any h hn
  injection e with e1
  injection e1 with e1
  injection e1 with e1
  subst e1
  exact (q k t hk).1
theorem pls_cons (p : Pt) (L : List Pt) : pls (p :: L) = fv p.x :: fv p.y :: fv p.a :: pls L := rfl
theorem pls_len (L : List Pt) : (pls L).length = L.length * 3 := by
  induction L with
  | nil => rfl
  | cons p r ih => rw [pls_cons]; simp only [List.length_cons, ih]; omega
theorem pls_app (L M : List Pt) : pls (L ++ M) = pls L ++ pls M := by unfold pls; simp
theorem pls_set : ∀ (L : List Pt) (j : Nat) (p : Pt), j < L.length → (((pls L).set (j * 3) (fv p.x)).set (j * 3 + 1) (fv p.y)).set (j * 3 + 2) (fv p.a) = pls (L.set j p)
  | [], _, _, h => by simp at h
  | q :: r, 0, p, _ => rfl
  | q :: r, j + 1, p, h => by
    rw [pls_cons, show (j + 1) * 3 = j * 3 + 1 + 1 + 1 by omega]
    simp only [List.set_cons_succ]
    rw [pls_set r j p (by simpa using h), pls_cons]
theorem rep_set (m : Pt) (P : List Pt) {i : Nat} (h : i < P.length) : (List.replicate i m ++ P.drop i).set i m = List.replicate (i + 1) m ++ P.drop (i + 1) := by
  rw [List.set_append_right _ _ (by simp), List.length_replicate, Nat.sub_self, List.drop_eq_getElem_cons h, List.set_cons_zero, List.replicate_succ', List.append_assoc]
  rfl
theorem csP_succ (t m : Nat) : csP t (m + 1) = csP t m ++ ptv (mkP t) := by
  unfold csP
  rw [List.replicate_succ', pls_app]
  rfl
theorem csP_get (t : Nat) {m i : Nat} (h : i < m) : (csP t m)[i * 3]? = some (fv (mkP t).x) ∧ (csP t m)[i * 3 + 1]? = some (fv (mkP t).y) ∧ (csP t m)[i * 3 + 2]? = some (fv (mkP t).a) :=
  pls_get (by rw [List.getElem?_replicate, if_pos h])
theorem bsR (a : Option Addr) (n c : Nat) (W : World) : (Instr.buildSlice 49 1 #[(0, .slice a n c)]).run Try.prog W = .ok (.slice (some ⟨W.heap.size, 0, none⟩) 1 1) (W.alloc (.cells #[.slice a n c] 34)) := by cases a <;> kernel_rfl
theorem infoSl : ∃ i, Try.prog.info? 34 = some i ∧ i.size = 1 ∧ i.bytes = 24 ∧ i.zero = some (.slice none 0 0) := by
  have h : (Try.prog.info? 34).map (fun i => (i.size, i.bytes, i.zero)) = some (1, 24, some (.slice none 0 0)) := by kernel_rfl
  cases e : Try.prog.info? 34 with
  | none => rw [e] at h; cases h
  | some i =>
    rw [e] at h
    simp only [Option.map_some, Option.some.injEq, Prod.mk.injEq] at h
    exact ⟨i, rfl, h.1, h.2.1, h.2.2⟩
/-- a list more in a list of lists -/
theorem Sep.appR {w0 W : World} {l : List As} {v : Value} {n : Nat} {xs : List Value} (a : Option Addr) (m c : Nat) (h : Sep w0 W (rowV 34 1 v n xs :: l)) (hn : (n + 1) * 24 ≤ 140737488355328) :
    ∃ g9 c9 W', (Builtin.append_ #[49, 49] 49 #[v, sl W.heap.size 1 1]).run Try.prog (W.alloc (.cells #[.slice a m c] 34)) = .ok (sl g9 (n + 1) c9) W' ∧ Sep w0 W' (rowV 34 1 (sl g9 (n + 1) c9) (n + 1) (xs ++ [.slice a m c]) :: l) := by
  obtain ⟨i, i1, i2, i3, i4⟩ := infoSl
  exact Sep.app (t := 49) Try.underlying49 i1 i4 i2 i3 rfl (by decide) h [.slice a m c] rfl (fun u hu => by
    rcases List.mem_cons.1 hu with rfl | hu
    · rfl
    · cases hu) hn (by decide)
/-- a mark more -/
theorem Sep.appK {w0 W : World} {l : List As} {o : Option Nat} {xs : List Value} {v : Value} (t n : Nat) (h : Sep w0 W (lvK 37 3 o xs v n (csP t n) :: l)) (hm : (n + 1) * 12 ≤ 140737488355328) :
    ∃ g9 c9 W', (Builtin.append_ #[34, 34] 34 #[v, sl W.heap.size 1 1]).run Try.prog (W.alloc (.cells #[fv (mkP t).x, fv (mkP t).y, fv (mkP t).a] 37)) = .ok (sl g9 (n + 1) c9) W' ∧ Sep w0 W' (lvK 37 3 o xs (sl g9 (n + 1) c9) (n + 1) (csP t (n + 1)) :: l) := by
  obtain ⟨i, i1, i2, i3, i4⟩ := infoPl
  rw [csP_succ]
  exact Sep.lwApp (t := 34) Try.underlying34 i1 i4 i2 i3 rfl (by decide) (by decide) 1 (ptv (mkP t)) rfl (ptv_one _) (by decide) h hm
theorem mk_self : ∀ k : Fin 4, eqF (mkP k.val).x (mkP k.val).x = true ∧ eqF (mkP k.val).y (mkP k.val).y = true ∧ eqF (mkP k.val).a (mkP k.val).a = true := by decide +kernel
theorem wpList_bs1 {P : Program} {w : World} {ops : Array Oper} {rest : List Oper} {o : Oper} {a : Act} {Q : Exit → Act → World → Prop} (hgd : o.guard = none) (x : Operand) (t : TypeId)
    (ho : o.op = .buildSlice t 1 #[(0, x)]) (v : Value) (hx : a.eval x = v) {v' : Value} {w' : World}
    (hr : (Instr.buildSlice t 1 #[(0, v)]).run P w = .ok v' w') (h : wpList P ops Q rest (a.put o.dst v') w') : wpList P ops Q (o :: rest) a w :=
  wpList_plain hgd fun _ hK => by
    unfold Oper.wp
    simp only [execOp, ho, Sem.run_bind, Sem.run_pure, Result.andThen_ok, List.map_toArray, List.map_cons, List.map_nil, hx, hr]
    exact hK _ _ h
set_option maxHeartbeats 64000000 in
theorem keeps_c (w0 : World) (ta tb : Int) (a b : Cr) (va vb : Value) (A B : List Sn) (t : Nat) (hA : RdS w0 va A) (hB : RdS w0 vb B) (hO : ∀ x ∈ A, SnOk x) (hOB : ∀ x ∈ B, SnOk x) (hn : A.length ≤ 1048576) (hm : B.length ≤ 1048576) :
    Calls Try.prog 6 #[.agg (vwA ta a va), .agg (vwA tb b vb), fv t] w0 fun e w' => e = .returned (.bool true) ∧ w0.grownBy w' none := by
  have HBT : Keep (∀ W, w0.grownBy W none → Calls Try.prog 10 #[.agg (vwA ta a va), .agg (vwA tb b vb), fv t] W fun e W' => ∃ v P, e = .returned v ∧ P.map vP = betV a b A B (V t) ∧ Sep W W' [rowV 37 3 v P.length (pls P)]) :=
    ⟨fun W g => between_c W ta tb a b va vb A B t (hA.kept g) (hB.kept g) hO hOB (by omega) (by omega)⟩
  have HLN : Keep ((betV a b A B (V t)).length ≤ 1048577) := ⟨by
    unfold betV
    rw [List.length_append]
    have h1 : (ownV a b (V t)).length ≤ 1 := by unfold ownV; split <;> simp
    have h2 := List.length_filterMap_le (oneV B (V t)) A
    omega⟩
  generalize betV a b A B (V t) = BV at *
  clear hA hB hO hOB hn hm
  have HS := Keep.mk (((Sep.nil w0).newBox (vwA ta a va) 29).newBox (vwA tb b vb) 29)
  simp only [World.size_alloc] at HS
  go_enter Try.func6, Try.ntmps6
  go_wp2_with fail
  obtain ⟨xb, hxb⟩ : ∃ xb, w0.heap.size = xb := ⟨_, rfl⟩
  obtain ⟨yb, hyb⟩ : ∃ yb, xb + 1 = yb := ⟨_, rfl⟩
  rw [hxb, hyb] at HS
  try rw [hxb]
  try rw [hyb]
  clear hxb hyb
  generalize (w0.alloc (.cells (vwA ta a va) 29)).alloc (.cells (vwA tb b vb) 29) = W1 at HS ⊢
  refine (alive_c W1).mono ?_
  rintro e W2 ⟨rfl, g⟩
  have HS2 : Keep (Sep w0 W2 [boxA xb (vwL ta a va) 29, boxA yb (vwL tb b vb) 29]) := ⟨HS.out.swap.grown g⟩
  clear HS g
  obtain ⟨du9, hdu9, hdr9⟩ := und29
  have HRX := Keep.mk ((HS2.out.boxGet k0m).range)
  have HRY := Keep.mk ((HS2.out.boxGet k1m).range)
  go_wp2_with (first
    | (show wpList _ _ _ ({ dst := some 20, op := Op.load 29 (Operand.tmp 3), type := _, pos := _, after := _, guard := _ } :: _) _ _; refine load_g (by rfl) 29 (.tmp 3) rfl xb 0 rfl (vwL ta a va) du9 (HRX.out) hdu9 hdr9 info29 ?_)
    | (show wpList _ _ _ ({ dst := some 21, op := Op.load 29 (Operand.tmp 4), type := _, pos := _, after := _, guard := _ } :: _) _ _; refine load_g (by rfl) 29 (.tmp 4) rfl yb 0 rfl (vwL tb b vb) du9 (HRY.out) hdu9 hdr9 info29 ?_))
  clear HRX HRY
  refine (HBT.out W2 HS2.out.1).mono ?_
  rintro e W3 ⟨v7, P0, rfl, hP0, S3⟩
  have HP0 := Keep.mk hP0
  have HI : Keep (Sep w0 W3 (rowV 34 1 (.slice none 0 0) 0 [] :: rowV 34 1 (.slice none 0 0) 0 [] :: rowV 37 3 v7 P0.length (pls P0) :: boxA xb (vwL ta a va) 29 :: boxA yb (vwL tb b vb) 29 :: rdsX 40 csP [] 0)) := ⟨((Sep.merge HS2.out S3).nilV 34 1).nilV 34 1⟩
  clear HS2 S3 hP0
  go_wp2_with fail
  go_loopw [8, 9, 10] (fun v8 v9 u wr => ∃ (k : Nat) (Q : List Pk), k ≤ 4 ∧ u = iv k ∧ Keep (Q.length = k ∧ ∀ p ∈ Q, p.n ≤ 1048577) ∧ Keep (Sep w0 wr (rowV 34 1 v8 k (Q.map Pk.va) :: rowV 34 1 v9 k (Q.map Pk.vo) :: rowV 37 3 v7 P0.length (pls P0) :: boxA xb (vwL ta a va) 29 :: boxA yb (vwL tb b vb) 29 :: rdsX 40 csP Q 0))) (fun _ _ u _ => (4 - intOf u).toNat)
  case atStart => exact ⟨0, [], by omega, rfl, ⟨rfl, fun p h => by cases h⟩, HI⟩
  case round =>
    clear HI
    obtain ⟨k, Q, hk, rfl, HQ, HS⟩ := hrel
    by_cases hlk : k < 4
    · have hk0 : (0 : Int) ≤ (k : Int) := by omega
      have hk1 : (k : Int) < 4 := by omega
      have hwk : IntKind.i64.wrap ((k : Int) + 1) = ((k + 1 : Nat) : Int) := by rw [wi _ (by omega) (by omega)]; omega
      have HRX := Keep.mk ((HS.out.boxGet (b := xb) (cs := vwL ta a va) (t := 29) (by simp)).range)
      have HRY := Keep.mk ((HS.out.boxGet (b := yb) (cs := vwL tb b vb) (t := 29) (by simp)).range)
      go_wp2_with (first
        | (show wpList _ _ _ ({ dst := some 28, op := Op.load 29 (Operand.tmp 3), type := _, pos := _, after := _, guard := _ } :: _) _ _; refine load_g (by rfl) 29 (.tmp 3) rfl xb 0 rfl (vwL ta a va) du9 (HRX.out) hdu9 hdr9 info29 ?_)
        | (show wpList _ _ _ ({ dst := some 29, op := Op.load 29 (Operand.tmp 4), type := _, pos := _, after := _, guard := _ } :: _) _ _; refine load_g (by rfl) 29 (.tmp 4) rfl yb 0 rfl (vwL tb b vb) du9 (HRY.out) hdu9 hdr9 info29 ?_))
      clear HRX HRY
      refine (HBT.out wr HS.out.1).mono ?_
      rintro e W4 ⟨lv, P, rfl, hP, S4⟩
      have HS4 := Keep.mk (Sep.merge HS.out S4)
      have HPP := Keep.mk (hP.trans HP0.out.symm)
      have HPL : Keep (P.length ≤ 1048577) := ⟨by
        have := congrArg List.length hP
        rw [List.length_map] at this
        rw [this]
        exact HLN.out⟩
      clear S4 HS hP
      go_wp2_with fail
      refine (same_c W4 lv v7 P P0 (rdP_row (HS4.out.rowGet (by simp))) (rdP_row (HS4.out.rowGet (by simp))) HPP.out (by have := HPL.out; omega)).mono ?_
      rintro e W5 ⟨rfl, g5⟩
      have HS5 := Keep.mk ((HS4.out.grown g5).newBox #[fv (mkP k).x, fv (mkP k).y, fv (mkP k).a] 37)
      have hmx : Keep (floatOfInt .f32 ((k : Int) + 1) = (mkP k).x) := ⟨rfl⟩
      clear g5 HS4
      go_wp2_with fail
      obtain ⟨n, hnP⟩ : ∃ n, P.length = n := ⟨_, rfl⟩
      have HS6 : Keep (Sep w0 (W5.alloc (.cells #[fv (floatOfInt .f32 ((k : Int) + 1)), fv 0, fv 3239051264] 37)) (rowV 37 3 lv n (pls P) :: boxA W5.heap.size (ptv (mkP k)) 37 :: rowV 34 1 u8 k (Q.map Pk.va) :: rowV 34 1 u9 k (Q.map Pk.vo) :: rowV 37 3 v7 P0.length (pls P0) :: boxA xb (vwL ta a va) 29 :: boxA yb (vwL tb b vb) 29 :: rdsX 40 csP Q 0)) := ⟨by rw [← hnP]; exact HS5.out.swap⟩
      obtain ⟨la, lc, rfl⟩ := own_slice (HS6.out.rowGet k0m)
      have HNP := Keep.mk hnP
      obtain ⟨mb, hmb⟩ : ∃ b, W5.heap.size = b := ⟨_, rfl⟩
      rw [hmb] at HS6
      try rw [hmb]
      have hnb : n ≤ 1048577 := by rw [← hnP]; exact HPL.out
      clear HS5 hmx hnP hmb HPP HPL
      generalize W5.alloc (.cells #[fv (floatOfInt .f32 ((k : Int) + 1)), fv 0, fv 3239051264] 37) = W6 at HS6 ⊢
      go_loopw [13] (fun u wr => ∃ i : Nat, i ≤ n ∧ u = iv i ∧ Keep (Sep w0 wr (rowV 37 3 (.slice la n lc) n (pls (List.replicate i (mkP k) ++ P.drop i)) :: boxA mb (ptv (mkP k)) 37 :: rowV 34 1 u8 k (Q.map Pk.va) :: rowV 34 1 u9 k (Q.map Pk.vo) :: rowV 37 3 v7 P0.length (pls P0) :: boxA xb (vwL ta a va) 29 :: boxA yb (vwL tb b vb) 29 :: rdsX 40 csP Q 0))) (fun u _ => (n - intOf u).toNat)
      case atStart => exact ⟨0, by omega, rfl, HS6⟩
      case round =>
        clear HS6
        obtain ⟨i, hi, rfl, HS⟩ := hrel
        by_cases hli : i < n
        · obtain ⟨g, c', e, q⟩ := own_any (HS.out.rowGet k0m) (by omega)
          as_aux_lemma =>
            injection e with e _ _
            subst e
            obtain ⟨p, hp⟩ : ∃ p, (List.replicate i (mkP k) ++ P.drop i)[i]? = some p := ⟨_, List.getElem?_eq_getElem (by simp [HNP.out]; omega)⟩
            obtain ⟨a1, a2, a3⟩ := pls_get hp
            obtain ⟨x0, y0⟩ := q _ _ a1
            obtain ⟨x1, y1⟩ := q _ _ a2
            obtain ⟨x2, y2⟩ := q _ _ a3
            have l0 : wr.cell? ⟨mb, 0, none⟩ = some (fv (mkP k).x) := (HS.out.boxGet k1m).cellv 0 _ rfl
            have l1 : wr.cell? ⟨mb, 1, none⟩ = some (fv (mkP k).y) := (HS.out.boxGet k1m).cellv 1 _ rfl
            have l2 : wr.cell? ⟨mb, 2, none⟩ = some (fv (mkP k).a) := (HS.out.boxGet k1m).cellv 2 _ rfl
            have hi0 : (0 : Int) ≤ (i : Int) := by omega
            have hi1 : (i : Int) < (n : Nat) := by omega
            have hti : ((i : Nat) : Int).toNat = i := by omega
            have hwi : IntKind.i64.wrap ((i : Int) + 1) = ((i + 1 : Nat) : Int) := by rw [wi _ (by omega) (by omega)]; omega
            have S7 := ((HS.out.rowSet (i * 3) (fv (mkP k).x)).rowSet (i * 3 + 1) (fv (mkP k).y)).rowSet (i * 3 + 2) (fv (mkP k).a)
            rw [pls_set _ i (mkP k) (by simp [HNP.out]; omega), rep_set _ _ (by rw [HNP.out]; exact hli)] at S7
            have HS7 := Keep.mk S7
            clear S7 HS q hp a1 a2 a3
            go_wp2_with fail
            go_roundw
            case rel => exact ⟨i + 1, by omega, rfl, HS7⟩
            case measure => simp [intOf]; omega
        · have hi1 : ¬ (i : Int) < (n : Nat) := by omega
          as_aux_lemma =>
            have hin : i = n := by omega
            have HSa : Keep (Sep w0 wr (rowV 37 3 (.slice la n lc) n (csP k n) :: boxA mb (ptv (mkP k)) 37 :: rowV 34 1 u8 k (Q.map Pk.va) :: rowV 34 1 u9 k (Q.map Pk.vo) :: rowV 37 3 v7 P0.length (pls P0) :: boxA xb (vwL ta a va) 29 :: boxA yb (vwL tb b vb) 29 :: rdsX 40 csP Q 0)) := ⟨by
              have := HS.out
              rw [hin, List.drop_eq_nil_of_le (by rw [HNP.out]; exact Nat.le_refl _), List.append_nil] at this
              exact this⟩
            clear HS hin HNP
            obtain ⟨g8, c8, W7, ap8, S8⟩ := Sep.appR la n lc (fr1 [_, _] HSa.out) (by omega)
            have AP8 := Keep.mk ap8
            have HS8 : Keep (Sep w0 W7 (rowV 37 3 (.slice la n lc) n (csP k n) :: rowV 34 1 (sl g8 (k + 1) c8) (k + 1) (Q.map Pk.va ++ [.slice la n lc]) :: boxA mb (ptv (mkP k)) 37 :: rowV 34 1 u9 k (Q.map Pk.vo) :: rowV 37 3 v7 P0.length (pls P0) :: boxA xb (vwL ta a va) 29 :: boxA yb (vwL tb b vb) 29 :: rdsX 40 csP Q 0)) := ⟨S8.swap⟩
            clear ap8 S8 HSa
            go_wp2_with (first
              | (with_reducible show wpList _ _ _ ({ dst := some 52, op := Op.buildSlice 49 _ _, type := _, pos := _, after := _, guard := _ } :: _) _ _
                 refine wpList_bs1 rfl (.tmp 51) 49 rfl _ rfl (bsR la n lc _) ?_)
              | (with_reducible show wpList _ _ _ ({ dst := some 53, op := Op.call { callee := Callee.builtin Builtin.append, args := _, argTypes := _ }, type := _, pos := _, after := _, guard := _ } :: _) _ _
                 refine wpList_append_run _ rfl (.tmp 50) (.tmp 52) 49 rfl _ _ rfl rfl AP8.out ?_))
            clear AP8
            obtain ⟨o, S9, ho1, ho2⟩ := Sep.lwStart HS8.out
            have HO := Keep.mk (And.intro ho1 ho2)
            have HS9 : Keep (Sep w0 W7 (lvK 37 3 o (csP k n) (.slice la n lc) n (csP k n) :: rowV 34 1 (sl g8 (k + 1) c8) (k + 1) (Q.map Pk.va ++ [.slice la n lc]) :: boxA mb (ptv (mkP k)) 37 :: rowV 34 1 u9 k (Q.map Pk.vo) :: rowV 37 3 v7 P0.length (pls P0) :: boxA xb (vwL ta a va) 29 :: boxA yb (vwL tb b vb) 29 :: rdsX 40 csP Q 0)) := ⟨S9⟩
            clear HS8 S9 ho1 ho2
            go_loopw [11, 14] (fun l u wr => ∃ (j m : Nat) (ax : Option Addr) (cx : Nat), j ≤ 40 ∧ u = iv j ∧ l = .slice ax m cx ∧ Keep (m = n + j) ∧ Keep (Sep w0 wr (lvK 37 3 o (csP k n) (.slice ax m cx) m (csP k m) :: rowV 34 1 (sl g8 (k + 1) c8) (k + 1) (Q.map Pk.va ++ [.slice la n lc]) :: boxA mb (ptv (mkP k)) 37 :: rowV 34 1 u9 k (Q.map Pk.vo) :: rowV 37 3 v7 P0.length (pls P0) :: boxA xb (vwL ta a va) 29 :: boxA yb (vwL tb b vb) 29 :: rdsX 40 csP Q 0))) (fun _ u _ => (40 - intOf u).toNat)
            case atStart => exact ⟨0, n, la, lc, by omega, rfl, rfl, ⟨rfl⟩, HS9⟩
            case round =>
              clear HS9
              obtain ⟨j, m, ax, cx, hj, rfl, rfl, HM, HS⟩ := hrel
              by_cases hlj : j < 40
              · have hj0 : (0 : Int) ≤ (j : Int) := by omega
                as_aux_lemma =>
                  have hj1 : (j : Int) < 40 := by omega
                  have hwj : IntKind.i64.wrap ((j : Int) + 1) = ((j + 1 : Nat) : Int) := by rw [wi _ (by omega) (by omega)]; omega
                  have l0 : wr.cell? ⟨mb, 0, none⟩ = some (fv (mkP k).x) := (HS.out.boxGet k2m).cellv 0 _ rfl
                  have l1 : wr.cell? ⟨mb, 1, none⟩ = some (fv (mkP k).y) := (HS.out.boxGet k2m).cellv 1 _ rfl
                  have l2 : wr.cell? ⟨mb, 2, none⟩ = some (fv (mkP k).a) := (HS.out.boxGet k2m).cellv 2 _ rfl
                  obtain ⟨gx, cx2, W8, ap9, S9⟩ := Sep.appK k m HS.out (by rw [HM.out]; omega)
                  have AP9 := Keep.mk ap9
                  have HS9 := Keep.mk S9
                  have HM2 : Keep (m + 1 = n + (j + 1)) := ⟨by rw [HM.out]; omega⟩
                  clear ap9 S9 HS HM
                  go_wp2_with (first
                    | (with_reducible show wpList _ _ _ ({ dst := some 60, op := Op.buildSlice 34 _ _, type := _, pos := _, after := _, guard := _ } :: _) _ _
                       refine wpList_bs1 rfl (.tmp 59) 34 rfl _ rfl (bsP _ _ _ _) ?_)
                    | (with_reducible show wpList _ _ _ ({ dst := some 61, op := Op.call { callee := Callee.builtin Builtin.append, args := _, argTypes := _ }, type := _, pos := _, after := _, guard := _ } :: _) _ _
                       refine wpList_append_run _ rfl (.tmp 58) (.tmp 60) 34 rfl _ _ rfl rfl AP9.out ?_))
                  clear AP9
                  go_roundw
                  case rel => exact ⟨j + 1, m + 1, _, cx2, by omega, by go_num, rfl, HM2, HS9⟩
                  case measure => simp [intOf]; omega
              · have hj1 : ¬ (j : Int) < 40 := by omega
                as_aux_lemma =>
                  have hjm : m = n + 40 := by rw [HM.out]; omega
                  subst hjm
                  have S9 := Sep.lwEnd (n := n) ⟨la, lc, rfl⟩ HO.out.1 HO.out.2 HS.out
                  obtain ⟨g9, c9, W8, ap9, S10⟩ := Sep.appR ax (n + 40) cx (fr1 [_, _, _] S9) (by omega)
                  have AP9 := Keep.mk ap9
                  have HS10 : Keep (Sep w0 W8 (rowV 34 1 (sl g8 (k + 1) c8) (k + 1) ((Q ++ [(⟨.slice la n lc, .slice ax (n + 40) cx, n⟩ : Pk)]).map Pk.va) :: rowV 34 1 (sl g9 (k + 1) c9) (k + 1) ((Q ++ [(⟨.slice la n lc, .slice ax (n + 40) cx, n⟩ : Pk)]).map Pk.vo) :: rowV 37 3 v7 P0.length (pls P0) :: boxA xb (vwL ta a va) 29 :: boxA yb (vwL tb b vb) 29 :: rdsX 40 csP (Q ++ [(⟨.slice la n lc, .slice ax (n + 40) cx, n⟩ : Pk)]) 0)) := ⟨by
                    rw [rdsX_app, List.map_append, List.map_append, HQ.out.1, Nat.zero_add]
                    have S11 := (S10.dropM [_, _, _] [_])
                    exact S11.perm ((List.Perm.swap _ _ _).trans ((List.Perm.cons _ (List.Perm.swap _ _ _)).trans (List.perm_append_comm (l₁ := [_]))))⟩
                  have HQ2 : Keep ((Q ++ [(⟨.slice la n lc, .slice ax (n + 40) cx, n⟩ : Pk)]).length = k + 1 ∧ ∀ p ∈ Q ++ [(⟨.slice la n lc, .slice ax (n + 40) cx, n⟩ : Pk)], p.n ≤ 1048577) := ⟨by rw [List.length_append, HQ.out.1]; rfl, fun p hp => by
                    rcases List.mem_append.1 hp with hp | hp
                    · exact HQ.out.2 p hp
                    · rw [List.mem_singleton] at hp; subst hp; exact hnb⟩
                  clear ap9 S9 S10 HS HO HQ HM
                  obtain ⟨m, hm40⟩ : ∃ m, n + 40 = m := ⟨_, rfl⟩
                  rw [hm40] at AP9 HS10 HQ2 ⊢
                  go_wp2_with (first
                    | (with_reducible show wpList _ _ _ ({ dst := some 64, op := Op.buildSlice 49 _ _, type := _, pos := _, after := _, guard := _ } :: _) _ _
                       refine wpList_bs1 rfl (.tmp 63) 49 rfl _ rfl (bsR ax _ cx _) ?_)
                    | (with_reducible show wpList _ _ _ ({ dst := some 65, op := Op.call { callee := Callee.builtin Builtin.append, args := _, argTypes := _ }, type := _, pos := _, after := _, guard := _ } :: _) _ _
                       refine wpList_append_run _ rfl (.tmp 62) (.tmp 64) 49 rfl _ _ rfl rfl AP9.out ?_))
                  clear AP9
                  go_roundw
                  case rel => exact ⟨k + 1, _, by omega, by go_num, HQ2, HS10⟩
                  case measure => simp [intOf]; omega
    · have hk1 : ¬ (k : Int) < 4 := by omega
      as_aux_lemma =>
        have HK4 : Keep (k = 4) := ⟨by omega⟩
        obtain ⟨g8, c8, e8, _⟩ := own_any (HS.out.rowGet k0m) (by omega)
        obtain ⟨g9, c9, e9, _⟩ := own_any (HS.out.rowGet k1m) (by omega)
        subst e8 e9
        clear hlk hk
        go_wp2_with fail
        clear hk1
        go_loopw [15] (fun u wr => ∃ i : Nat, i ≤ 4 ∧ u = iv i ∧ Keep (Sep w0 wr (rowV 34 1 (sl g8 k c8) k (Q.map Pk.va) :: rowV 34 1 (sl g9 k c9) k (Q.map Pk.vo) :: rowV 37 3 v7 P0.length (pls P0) :: boxA xb (vwL ta a va) 29 :: boxA yb (vwL tb b vb) 29 :: rdsX 40 csP Q 0))) (fun u _ => (4 - intOf u).toNat)
        case atStart => exact ⟨0, by omega, rfl, HS⟩
        case round =>
          clear HS
          obtain ⟨i, hi, rfl, HS⟩ := hrel
          by_cases hli : i < 4
          · obtain ⟨p, hp⟩ : ∃ p, Q[i]? = some p := ⟨_, List.getElem?_eq_getElem (by rw [HQ.out.1, HK4.out]; exact hli)⟩
            as_aux_lemma =>
              have hmem : prK p.va p.n (csP i p.n) p.vo (p.n + 40) (csP i (p.n + 40)) ∈ rdsX 40 csP Q 0 := by
                have := rdsX_mem 40 csP Q 0 i p hp
                rwa [Nat.zero_add] at this
              have HMM := Keep.mk hmem
              obtain ⟨⟨a1, c1, ea, qa⟩, ⟨a2, c2, eo, qo⟩⟩ := HS.out.prGet (List.mem_cons_of_mem _ (List.mem_cons_of_mem _ (List.mem_cons_of_mem _ (List.mem_cons_of_mem _ (List.mem_cons_of_mem _ hmem)))))
              have hpb := HQ.out.2 p (List.mem_of_getElem? hp)
              obtain ⟨n, hn⟩ : ∃ n, p.n = n := ⟨_, rfl⟩
              obtain ⟨m, hm⟩ : ∃ m, n + 40 = m := ⟨_, rfl⟩
              obtain ⟨go, rfl, _, _⟩ := qo (by omega)
              have hnb : n ≤ 1048577 := by rw [← hn]; exact hpb
              clear hpb
              rw [hn] at ea
              rw [hn, hm] at eo
              have HPV : Keep (Q[i]? = some p ∧ p.va = .slice a1 n c1 ∧ p.vo = .slice (some ⟨go, 0, none⟩) m c2 ∧ p.n = n ∧ n + 40 = m) := ⟨hp, ea, eo, hn, hm⟩
              have HMS := Keep.mk (mk_self ⟨i, hli⟩)
              have hi0 : (0 : Int) ≤ (i : Int) := by omega
              have hi1 : (i : Int) < 4 := by omega
              have hi2 : (i : Int) < (k : Nat) := by rw [HK4.out]; omega
              have hti : ((i : Nat) : Int).toNat = i := by omega
              have hwi : IntKind.i64.wrap ((i : Int) + 1) = ((i + 1 : Nat) : Int) := by rw [wi _ (by omega) (by omega)]; omega
              have HS6 : Keep (Sep w0 (wr.alloc (.cells #[fv (floatOfInt .f32 ((i : Int) + 1)), fv 0, fv 3239051264] 37)) (boxA wr.heap.size (ptv (mkP i)) 37 :: rowV 34 1 (sl g8 k c8) k (Q.map Pk.va) :: rowV 34 1 (sl g9 k c9) k (Q.map Pk.vo) :: rowV 37 3 v7 P0.length (pls P0) :: boxA xb (vwL ta a va) 29 :: boxA yb (vwL tb b vb) 29 :: rdsX 40 csP Q 0)) := ⟨HS.out.newBox #[fv (mkP i).x, fv (mkP i).y, fv (mkP i).a] 37⟩
              obtain ⟨mb, hmb⟩ : ∃ b, wr.heap.size = b := ⟨_, rfl⟩
              rw [hmb] at HS6
              clear HS hp ea eo hn qa qo hmem
              go_wp2_with fail
              try rw [hmb]
              clear hmb
              generalize wr.alloc (.cells #[fv (floatOfInt .f32 ((i : Int) + 1)), fv 0, fv 3239051264] 37) = W6 at HS6 ⊢
              go_loopw [17] (fun u wr => ∃ j : Nat, j ≤ m ∧ u = iv j ∧ Keep (Sep w0 wr (boxA mb (ptv (mkP i)) 37 :: rowV 34 1 (sl g8 k c8) k (Q.map Pk.va) :: rowV 34 1 (sl g9 k c9) k (Q.map Pk.vo) :: rowV 37 3 v7 P0.length (pls P0) :: boxA xb (vwL ta a va) 29 :: boxA yb (vwL tb b vb) 29 :: rdsX 40 csP Q 0))) (fun u _ => (m - intOf u).toNat)
              case atStart => exact ⟨0, by omega, rfl, HS6⟩
              case round =>
                clear HS6
                obtain ⟨j, hj, rfl, HS⟩ := hrel
                have hkp : 0 < k := by rw [HK4.out]; omega
                have HG9 : Keep (∀ w, wr.grownBy w none → w.cell? ⟨g9, i, none⟩ = some (.slice (some ⟨go, 0, none⟩) m c2)) := ⟨fun w h => by
                  rw [← HPV.out.2.2.1]
                  exact row_cell ((HS.out.grown h).rowGet k2m) hkp (by rw [List.getElem?_map, HPV.out.1]; rfl)⟩
                have HG8 : Keep (∀ w, wr.grownBy w none → w.cell? ⟨g8, i, none⟩ = some (.slice a1 n c1)) := ⟨fun w h => by
                  rw [← HPV.out.2.1]
                  exact row_cell ((HS.out.grown h).rowGet k1m) hkp (by rw [List.getElem?_map, HPV.out.1]; rfl)⟩
                have y9 := HG9.out wr (World.grownBy.refl _ _)
                by_cases hlj : j < m
                · have hj0 : (0 : Int) ≤ (j : Int) := by omega
                  have hj1 : (j : Int) < (m : Nat) := by omega
                  have htj : ((j : Nat) : Int).toNat = j := by omega
                  have hmz : m ≤ 281474976710656 ∨ True := .inr trivial
                  have HPR : Keep (∀ w, wr.grownBy w none → Rv w p.va p.n (csP i p.n) ∧ Rv w p.vo (p.n + 40) (csP i (p.n + 40))) := ⟨fun w h => (HS.out.grown h).prGet (List.mem_cons_of_mem _ (List.mem_cons_of_mem _ (List.mem_cons_of_mem _ (List.mem_cons_of_mem _ (List.mem_cons_of_mem _ (List.mem_cons_of_mem _ HMM.out))))))⟩
                  have HCO : Keep (∀ w, wr.grownBy w none → w.cell? ⟨go, j * 3, none⟩ = some (fv (mkP i).x) ∧ w.cell? ⟨go, j * 3 + 1, none⟩ = some (fv (mkP i).y) ∧ w.cell? ⟨go, j * 3 + 2, none⟩ = some (fv (mkP i).a)) := ⟨fun w h => by
                    obtain ⟨a, c, e, q⟩ := (HPR.out w h).2
                    obtain ⟨g, ha, _, rc⟩ := q (by omega)
                    rw [HPV.out.2.2.1] at e
                    injection e with e _ _
                    rw [ha] at e
                    injection e with e
                    injection e with e _ _
                    subst e
                    obtain ⟨z1, z2, z3⟩ := csP_get i (m := p.n + 40) (i := j) (by rw [HPV.out.2.2.2.1, HPV.out.2.2.2.2]; exact hlj)
                    exact ⟨rc _ _ z1, rc _ _ z2, rc _ _ z3⟩⟩
                  have HCM : Keep (∀ w, wr.grownBy w none → w.cell? ⟨mb, 0, none⟩ = some (fv (mkP i).x) ∧ w.cell? ⟨mb, 1, none⟩ = some (fv (mkP i).y) ∧ w.cell? ⟨mb, 2, none⟩ = some (fv (mkP i).a)) := ⟨fun w h => by
                    have z := (HS.out.grown h).boxGet k0m
                    exact ⟨z.cellv 0 _ rfl, z.cellv 1 _ rfl, z.cellv 2 _ rfl⟩⟩
                  have SH : Keep (eqF (mkP i).x (mkP i).x = true ∧ eqF (mkP i).y (mkP i).y = true ∧ eqF (mkP i).a (mkP i).a = true) := ⟨HMS.out⟩
                  generalize hqq : mkP i = qq at HCO HCM SH HS ⊢
                  by_cases hjn : j < n
                  · have hn0 : 0 < p.n := by rw [HPV.out.2.2.2.1]; omega
                    as_aux_lemma =>
                      obtain ⟨ga, ha⟩ : ∃ ga, a1 = some ⟨ga, 0, none⟩ := by
                        obtain ⟨a, c, e, q⟩ := (HPR.out wr (World.grownBy.refl _ _)).1
                        obtain ⟨g, ha, _⟩ := q hn0
                        rw [HPV.out.2.1] at e
                        injection e with e _ _
                        exact ⟨g, by rw [e]; exact ha⟩
                      subst ha
                      have HCA : Keep (∀ w, wr.grownBy w none → w.cell? ⟨ga, j * 3, none⟩ = some (fv qq.x) ∧ w.cell? ⟨ga, j * 3 + 1, none⟩ = some (fv qq.y) ∧ w.cell? ⟨ga, j * 3 + 2, none⟩ = some (fv qq.a)) := ⟨fun w h => by
                        rw [← hqq]
                        obtain ⟨a, c, e, q⟩ := (HPR.out w h).1
                        obtain ⟨g, ha, _, rc⟩ := q hn0
                        rw [HPV.out.2.1] at e
                        injection e with e _ _
                        rw [ha] at e
                        injection e with e
                        injection e with e _ _
                        subst e
                        obtain ⟨z1, z2, z3⟩ := csP_get i (m := p.n) (i := j) (by rw [HPV.out.2.2.2.1]; exact hjn)
                        exact ⟨rc _ _ z1, rc _ _ z2, rc _ _ z3⟩⟩
                      have hjn1 : (j : Int) < (n : Nat) := by omega
                      have hjn2 : decide (j < n) = true := decide_eq_true hjn
                      have hjn3 : decide ((j : Int) < (n : Nat)) = true := decide_eq_true hjn1
                      have hwj : IntKind.i64.wrap ((j : Int) + 1) = ((j + 1 : Nat) : Int) := by rw [wi _ (by omega) (by omega)]; omega
                      clear HPR
                      go_wp2_with fail
                      clear y9
                      refine region_R (fun w => wr.grownBy w none) [] [] (fun i v => False) 0 29 (by kernel_rfl) (by rfl) (gr_drew _ _) (fun hHeld => ?_)
                      refine wpR_pure (i := 0) (oi := _) (v := ?_) rfl (by kernel_rfl) (by kernel_rfl) (by kernel_rfl) (by kernel_rfl) (by kernel_rfl) (by kernel_rfl) hHeld (Or.inl ⟨by rfl, ?_⟩) ?_
                      rotate_left
                      · (intro w hSw; go_simp; first | done | (with_reducible rfl))
                      simp only [Act.put, List.getElem_toArray, List.getElem_cons_zero, List.setIfInBounds_toArray, List.set_cons_zero, List.set_cons_succ]
                      refine wpR_pure (i := 1) (oi := _) (v := ?_) rfl (by kernel_rfl) (by kernel_rfl) (by kernel_rfl) (by kernel_rfl) (by kernel_rfl) (by kernel_rfl) hHeld (Or.inl ⟨by rfl, ?_⟩) ?_
                      rotate_left
                      · (intro w hSw; go_simp; first | done | (with_reducible rfl))
                      simp only [Act.put, List.getElem_toArray, List.getElem_cons_succ, List.getElem_cons_zero, List.setIfInBounds_toArray, List.set_cons_zero, List.set_cons_succ]
                      refine wpR_pure (i := 2) (oi := _) (v := ?_) rfl (by kernel_rfl) (by kernel_rfl) (by kernel_rfl) (by kernel_rfl) (by kernel_rfl) (by kernel_rfl) hHeld (Or.inl ⟨by rfl, ?_⟩) ?_
                      rotate_left
                      · (intro w hSw; go_simp; first | done | (with_reducible rfl))
                      simp only [Act.put, List.getElem_toArray, List.getElem_cons_succ, List.getElem_cons_zero, List.setIfInBounds_toArray, List.set_cons_zero, List.set_cons_succ]
                      refine wpR_pure (i := 3) (oi := _) (v := ?_) rfl (by kernel_rfl) (by kernel_rfl) (by kernel_rfl) (by kernel_rfl) (by kernel_rfl) (by kernel_rfl) hHeld (Or.inl ⟨by rfl, ?_⟩) ?_
                      rotate_left
                      · (intro w hSw; have q0 := HG9.out w hSw; go_simp; first | done | (with_reducible rfl))
                      simp only [Act.put, List.getElem_toArray, List.getElem_cons_succ, List.getElem_cons_zero, List.setIfInBounds_toArray, List.set_cons_zero, List.set_cons_succ]
                      refine wpR_pure (i := 4) (oi := _) (v := ?_) rfl (by kernel_rfl) (by kernel_rfl) (by kernel_rfl) (by kernel_rfl) (by kernel_rfl) (by kernel_rfl) hHeld (Or.inl ⟨by rfl, ?_⟩) ?_
                      rotate_left
                      · (intro w hSw; go_simp; first | done | (with_reducible rfl))
                      simp only [Act.put, List.getElem_toArray, List.getElem_cons_succ, List.getElem_cons_zero, List.setIfInBounds_toArray, List.set_cons_zero, List.set_cons_succ]
                      refine wpR_pure (i := 5) (oi := _) (v := ?_) rfl (by kernel_rfl) (by kernel_rfl) (by kernel_rfl) (by kernel_rfl) (by kernel_rfl) (by kernel_rfl) hHeld (Or.inl ⟨by rfl, ?_⟩) ?_
                      rotate_left
                      · (intro w hSw; go_simp; first | done | (with_reducible rfl))
                      simp only [Act.put, List.getElem_toArray, List.getElem_cons_succ, List.getElem_cons_zero, List.setIfInBounds_toArray, List.set_cons_zero, List.set_cons_succ]
                      refine wpR_pure (i := 6) (oi := _) (v := ?_) rfl (by kernel_rfl) (by kernel_rfl) (by kernel_rfl) (by kernel_rfl) (by kernel_rfl) (by kernel_rfl) hHeld (Or.inl ⟨by rfl, ?_⟩) ?_
                      rotate_left
                      · (intro w hSw; obtain ⟨q0, q1, q2⟩ := HCO.out w hSw; go_simp; first | done | (with_reducible rfl))
                      simp only [Act.put, List.getElem_toArray, List.getElem_cons_succ, List.getElem_cons_zero, List.setIfInBounds_toArray, List.set_cons_zero, List.set_cons_succ]
                      refine wpR_pure (i := 7) (oi := _) (v := ?_) rfl (by kernel_rfl) (by kernel_rfl) (by kernel_rfl) (by kernel_rfl) (by kernel_rfl) (by kernel_rfl) hHeld (Or.inl ⟨by rfl, ?_⟩) ?_
                      rotate_left
                      · (intro w hSw; obtain ⟨q0, q1, q2⟩ := HCM.out w hSw; go_simp; first | done | (with_reducible rfl))
                      simp only [Act.put, List.getElem_toArray, List.getElem_cons_succ, List.getElem_cons_zero, List.setIfInBounds_toArray, List.set_cons_zero, List.set_cons_succ]
                      refine wpR_pure (i := 8) (oi := _) (v := .bool false) rfl (by kernel_rfl) (by kernel_rfl) (by kernel_rfl) (by kernel_rfl) (by kernel_rfl) (by kernel_rfl) hHeld (Or.inl ⟨by rfl, ?_⟩) ?_
                      · (intro w hSw; obtain ⟨s1, s2, s3⟩ := SH.out; have f1 := eqT s1; have f2 := eqT s2; have f3 := eqT s3; go_simp; first | done | (simp; done))
                      simp only [Act.put, List.getElem_toArray, List.getElem_cons_succ, List.getElem_cons_zero, List.setIfInBounds_toArray, List.set_cons_zero, List.set_cons_succ]
                      refine wpR_pure (i := 9) (oi := _) (v := ?_) rfl (by kernel_rfl) (by kernel_rfl) (by kernel_rfl) (by kernel_rfl) (by kernel_rfl) (by kernel_rfl) hHeld (Or.inl ⟨by rfl, ?_⟩) ?_
                      rotate_left
                      · (intro w hSw; go_simp; first | done | (with_reducible rfl))
                      simp only [Act.put, List.getElem_toArray, List.getElem_cons_succ, List.getElem_cons_zero, List.setIfInBounds_toArray, List.set_cons_zero, List.set_cons_succ]
                      refine wpR_pure (i := 10) (oi := _) (v := ?_) rfl (by kernel_rfl) (by kernel_rfl) (by kernel_rfl) (by kernel_rfl) (by kernel_rfl) (by kernel_rfl) hHeld (Or.inl ⟨by rfl, ?_⟩) ?_
                      rotate_left
                      · (intro w hSw; go_simp; first | done | (with_reducible rfl))
                      simp only [Act.put, List.getElem_toArray, List.getElem_cons_succ, List.getElem_cons_zero, List.setIfInBounds_toArray, List.set_cons_zero, List.set_cons_succ]
                      refine wpR_pure (i := 11) (oi := _) (v := ?_) rfl (by kernel_rfl) (by kernel_rfl) (by kernel_rfl) (by kernel_rfl) (by kernel_rfl) (by kernel_rfl) hHeld (Or.inl ⟨by rfl, ?_⟩) ?_
                      rotate_left
                      · (intro w hSw; go_simp; first | done | (with_reducible rfl))
                      simp only [Act.put, List.getElem_toArray, List.getElem_cons_succ, List.getElem_cons_zero, List.setIfInBounds_toArray, List.set_cons_zero, List.set_cons_succ]
                      refine wpR_pure (i := 12) (oi := _) (v := ?_) rfl (by kernel_rfl) (by kernel_rfl) (by kernel_rfl) (by kernel_rfl) (by kernel_rfl) (by kernel_rfl) hHeld (Or.inl ⟨by rfl, ?_⟩) ?_
                      rotate_left
                      · (intro w hSw; go_simp; first | done | (with_reducible rfl))
                      simp only [Act.put, List.getElem_toArray, List.getElem_cons_succ, List.getElem_cons_zero, List.setIfInBounds_toArray, List.set_cons_zero, List.set_cons_succ]
                      refine wpR_pure (i := 13) (oi := _) (v := ?_) rfl (by kernel_rfl) (by kernel_rfl) (by kernel_rfl) (by kernel_rfl) (by kernel_rfl) (by kernel_rfl) hHeld (Or.inl ⟨by rfl, ?_⟩) ?_
                      rotate_left
                      · (intro w hSw; go_simp; first | done | (with_reducible rfl))
                      simp only [Act.put, List.getElem_toArray, List.getElem_cons_succ, List.getElem_cons_zero, List.setIfInBounds_toArray, List.set_cons_zero, List.set_cons_succ]
                      refine wpR_pure (i := 14) (oi := _) (v := ?_) rfl (by kernel_rfl) (by kernel_rfl) (by kernel_rfl) (by kernel_rfl) (by kernel_rfl) (by kernel_rfl) hHeld (Or.inl ⟨by rfl, ?_⟩) ?_
                      rotate_left
                      · (intro w hSw; have q0 := HG8.out w hSw; go_simp; first | done | (with_reducible rfl))
                      simp only [Act.put, List.getElem_toArray, List.getElem_cons_succ, List.getElem_cons_zero, List.setIfInBounds_toArray, List.set_cons_zero, List.set_cons_succ]
                      refine wpR_pure (i := 15) (oi := _) (v := ?_) rfl (by kernel_rfl) (by kernel_rfl) (by kernel_rfl) (by kernel_rfl) (by kernel_rfl) (by kernel_rfl) hHeld (Or.inl ⟨by rfl, ?_⟩) ?_
                      rotate_left
                      · (intro w hSw; go_simp; first | done | (with_reducible rfl))
                      simp only [Act.put, List.getElem_toArray, List.getElem_cons_succ, List.getElem_cons_zero, List.setIfInBounds_toArray, List.set_cons_zero, List.set_cons_succ]
                      refine wpR_pure (i := 16) (oi := _) (v := ?_) rfl (by kernel_rfl) (by kernel_rfl) (by kernel_rfl) (by kernel_rfl) (by kernel_rfl) (by kernel_rfl) hHeld (Or.inl ⟨by rfl, ?_⟩) ?_
                      rotate_left
                      · (intro w hSw; go_simp; first | done | (with_reducible rfl))
                      simp only [Act.put, List.getElem_toArray, List.getElem_cons_succ, List.getElem_cons_zero, List.setIfInBounds_toArray, List.set_cons_zero, List.set_cons_succ]
                      refine wpR_pure (i := 17) (oi := _) (v := ?_) rfl (by kernel_rfl) (by kernel_rfl) (by kernel_rfl) (by kernel_rfl) (by kernel_rfl) (by kernel_rfl) hHeld (Or.inl ⟨by rfl, ?_⟩) ?_
                      rotate_left
                      · (intro w hSw; go_simp; first | done | (with_reducible rfl))
                      simp only [Act.put, List.getElem_toArray, List.getElem_cons_succ, List.getElem_cons_zero, List.setIfInBounds_toArray, List.set_cons_zero, List.set_cons_succ]
                      refine wpR_pure (i := 18) (oi := _) (v := ?_) rfl (by kernel_rfl) (by kernel_rfl) (by kernel_rfl) (by kernel_rfl) (by kernel_rfl) (by kernel_rfl) hHeld (Or.inl ⟨by rfl, ?_⟩) ?_
                      rotate_left
                      · (intro w hSw; go_simp; first | done | (with_reducible rfl))
                      simp only [Act.put, List.getElem_toArray, List.getElem_cons_succ, List.getElem_cons_zero, List.setIfInBounds_toArray, List.set_cons_zero, List.set_cons_succ]
                      refine wpR_pure (i := 19) (oi := _) (v := ?_) rfl (by kernel_rfl) (by kernel_rfl) (by kernel_rfl) (by kernel_rfl) (by kernel_rfl) (by kernel_rfl) hHeld (Or.inl ⟨by rfl, ?_⟩) ?_
                      rotate_left
                      · (intro w hSw; go_simp; first | done | (with_reducible rfl))
                      simp only [Act.put, List.getElem_toArray, List.getElem_cons_succ, List.getElem_cons_zero, List.setIfInBounds_toArray, List.set_cons_zero, List.set_cons_succ]
                      refine wpR_pure (i := 20) (oi := _) (v := ?_) rfl (by kernel_rfl) (by kernel_rfl) (by kernel_rfl) (by kernel_rfl) (by kernel_rfl) (by kernel_rfl) hHeld (Or.inl ⟨by rfl, ?_⟩) ?_
                      rotate_left
                      · (intro w hSw; go_simp; first | done | (with_reducible rfl))
                      simp only [Act.put, List.getElem_toArray, List.getElem_cons_succ, List.getElem_cons_zero, List.setIfInBounds_toArray, List.set_cons_zero, List.set_cons_succ]
                      refine wpR_pure (i := 21) (oi := _) (v := ?_) rfl (by kernel_rfl) (by kernel_rfl) (by kernel_rfl) (by kernel_rfl) (by kernel_rfl) (by kernel_rfl) hHeld (Or.inl ⟨by rfl, ?_⟩) ?_
                      rotate_left
                      · (intro w hSw; have q0 := HG8.out w hSw; go_simp; first | done | (with_reducible rfl))
                      simp only [Act.put, List.getElem_toArray, List.getElem_cons_succ, List.getElem_cons_zero, List.setIfInBounds_toArray, List.set_cons_zero, List.set_cons_succ]
                      refine wpR_pure (i := 22) (oi := _) (v := ?_) rfl (by kernel_rfl) (by kernel_rfl) (by kernel_rfl) (by kernel_rfl) (by kernel_rfl) (by kernel_rfl) hHeld (Or.inl ⟨by rfl, ?_⟩) ?_
                      rotate_left
                      · (intro w hSw; go_simp; first | done | (with_reducible rfl))
                      simp only [Act.put, List.getElem_toArray, List.getElem_cons_succ, List.getElem_cons_zero, List.setIfInBounds_toArray, List.set_cons_zero, List.set_cons_succ]
                      refine wpR_pure (i := 23) (oi := _) (v := ?_) rfl (by kernel_rfl) (by kernel_rfl) (by kernel_rfl) (by kernel_rfl) (by kernel_rfl) (by kernel_rfl) hHeld (Or.inl ⟨by rfl, ?_⟩) ?_
                      rotate_left
                      · (intro w hSw; go_simp; first | done | (with_reducible rfl))
                      simp only [Act.put, List.getElem_toArray, List.getElem_cons_succ, List.getElem_cons_zero, List.setIfInBounds_toArray, List.set_cons_zero, List.set_cons_succ]
                      refine wpR_pure (i := 24) (oi := _) (v := ?_) rfl (by kernel_rfl) (by kernel_rfl) (by kernel_rfl) (by kernel_rfl) (by kernel_rfl) (by kernel_rfl) hHeld (Or.inl ⟨by rfl, ?_⟩) ?_
                      rotate_left
                      · (intro w hSw; obtain ⟨q0, q1, q2⟩ := HCA.out w hSw; go_simp; first | done | (with_reducible rfl))
                      simp only [Act.put, List.getElem_toArray, List.getElem_cons_succ, List.getElem_cons_zero, List.setIfInBounds_toArray, List.set_cons_zero, List.set_cons_succ]
                      refine wpR_pure (i := 25) (oi := _) (v := ?_) rfl (by kernel_rfl) (by kernel_rfl) (by kernel_rfl) (by kernel_rfl) (by kernel_rfl) (by kernel_rfl) hHeld (Or.inl ⟨by rfl, ?_⟩) ?_
                      rotate_left
                      · (intro w hSw; obtain ⟨q0, q1, q2⟩ := HCM.out w hSw; go_simp; first | done | (with_reducible rfl))
                      simp only [Act.put, List.getElem_toArray, List.getElem_cons_succ, List.getElem_cons_zero, List.setIfInBounds_toArray, List.set_cons_zero, List.set_cons_succ]
                      refine wpR_pure (i := 26) (oi := _) (v := .bool false) rfl (by kernel_rfl) (by kernel_rfl) (by kernel_rfl) (by kernel_rfl) (by kernel_rfl) (by kernel_rfl) hHeld (Or.inl ⟨by rfl, ?_⟩) ?_
                      · (intro w hSw; obtain ⟨s1, s2, s3⟩ := SH.out; have f1 := eqT s1; have f2 := eqT s2; have f3 := eqT s3; go_simp; first | done | (simp; done))
                      simp only [Act.put, List.getElem_toArray, List.getElem_cons_succ, List.getElem_cons_zero, List.setIfInBounds_toArray, List.set_cons_zero, List.set_cons_succ]
                      refine wpR_pure (i := 27) (oi := _) (v := ?_) rfl (by kernel_rfl) (by kernel_rfl) (by kernel_rfl) (by kernel_rfl) (by kernel_rfl) (by kernel_rfl) hHeld (Or.inl ⟨by rfl, ?_⟩) ?_
                      rotate_left
                      · (intro w hSw; go_simp; first | done | (with_reducible rfl))
                      simp only [Act.put, List.getElem_toArray, List.getElem_cons_succ, List.getElem_cons_zero, List.setIfInBounds_toArray, List.set_cons_zero, List.set_cons_succ]
                      refine wpR_pure (i := 28) (oi := _) (v := ?_) rfl (by kernel_rfl) (by kernel_rfl) (by kernel_rfl) (by kernel_rfl) (by kernel_rfl) (by kernel_rfl) hHeld (Or.inl ⟨by rfl, ?_⟩) ?_
                      rotate_left
                      · (intro w hSw; go_simp; first | done | (with_reducible rfl))
                      simp only [Act.put, List.getElem_toArray, List.getElem_cons_succ, List.getElem_cons_zero, List.setIfInBounds_toArray, List.set_cons_zero, List.set_cons_succ]
                      refine wpR_end (by kernel_rfl) (fun w hSw => ?_)
                      refine any_done (by kernel_rfl) ?_ _
                      have HS7 := Keep.mk (HS.out.grown hSw)
                      clear hSw HS hHeld HG8 HG9
                      go_wp2_with fail
                      go_roundw
                      case rel => exact ⟨j + 1, by omega, rfl, HS7⟩
                      case measure => simp [intOf]; omega
                  · have hjn1 : ¬ (j : Int) < (n : Nat) := by omega
                    as_aux_lemma =>
                      have hjn2 : decide (j < n) = false := decide_eq_false hjn
                      have hjn3 : decide ((j : Int) < (n : Nat)) = false := decide_eq_false hjn1
                      have hwj : IntKind.i64.wrap ((j : Int) + 1) = ((j + 1 : Nat) : Int) := by rw [wi _ (by omega) (by omega)]; omega
                      clear HPR
                      go_wp2_with fail
                      clear y9
                      refine region_R (fun w => wr.grownBy w none) [] [] (fun i v => False) 0 29 (by kernel_rfl) (by rfl) (gr_drew _ _) (fun hHeld => ?_)
                      refine wpR_pure (i := 0) (oi := _) (v := ?_) rfl (by kernel_rfl) (by kernel_rfl) (by kernel_rfl) (by kernel_rfl) (by kernel_rfl) (by kernel_rfl) hHeld (Or.inl ⟨by rfl, ?_⟩) ?_
                      rotate_left
                      · (intro w hSw; go_simp; first | done | (with_reducible rfl))
                      simp only [Act.put, List.getElem_toArray, List.getElem_cons_zero, List.setIfInBounds_toArray, List.set_cons_zero, List.set_cons_succ]
                      refine wpR_pure (i := 1) (oi := _) (v := ?_) rfl (by kernel_rfl) (by kernel_rfl) (by kernel_rfl) (by kernel_rfl) (by kernel_rfl) (by kernel_rfl) hHeld (Or.inl ⟨by rfl, ?_⟩) ?_
                      rotate_left
                      · (intro w hSw; go_simp; first | done | (with_reducible rfl))
                      simp only [Act.put, List.getElem_toArray, List.getElem_cons_succ, List.getElem_cons_zero, List.setIfInBounds_toArray, List.set_cons_zero, List.set_cons_succ]
                      refine wpR_pure (i := 2) (oi := _) (v := ?_) rfl (by kernel_rfl) (by kernel_rfl) (by kernel_rfl) (by kernel_rfl) (by kernel_rfl) (by kernel_rfl) hHeld (Or.inl ⟨by rfl, ?_⟩) ?_
                      rotate_left
                      · (intro w hSw; go_simp; first | done | (with_reducible rfl))
                      simp only [Act.put, List.getElem_toArray, List.getElem_cons_succ, List.getElem_cons_zero, List.setIfInBounds_toArray, List.set_cons_zero, List.set_cons_succ]
                      refine wpR_pure (i := 3) (oi := _) (v := ?_) rfl (by kernel_rfl) (by kernel_rfl) (by kernel_rfl) (by kernel_rfl) (by kernel_rfl) (by kernel_rfl) hHeld (Or.inl ⟨by rfl, ?_⟩) ?_
                      rotate_left
                      · (intro w hSw; have q0 := HG9.out w hSw; go_simp; first | done | (with_reducible rfl))
                      simp only [Act.put, List.getElem_toArray, List.getElem_cons_succ, List.getElem_cons_zero, List.setIfInBounds_toArray, List.set_cons_zero, List.set_cons_succ]
                      refine wpR_pure (i := 4) (oi := _) (v := ?_) rfl (by kernel_rfl) (by kernel_rfl) (by kernel_rfl) (by kernel_rfl) (by kernel_rfl) (by kernel_rfl) hHeld (Or.inl ⟨by rfl, ?_⟩) ?_
                      rotate_left
                      · (intro w hSw; go_simp; first | done | (with_reducible rfl))
                      simp only [Act.put, List.getElem_toArray, List.getElem_cons_succ, List.getElem_cons_zero, List.setIfInBounds_toArray, List.set_cons_zero, List.set_cons_succ]
                      refine wpR_pure (i := 5) (oi := _) (v := ?_) rfl (by kernel_rfl) (by kernel_rfl) (by kernel_rfl) (by kernel_rfl) (by kernel_rfl) (by kernel_rfl) hHeld (Or.inl ⟨by rfl, ?_⟩) ?_
                      rotate_left
                      · (intro w hSw; go_simp; first | done | (with_reducible rfl))
                      simp only [Act.put, List.getElem_toArray, List.getElem_cons_succ, List.getElem_cons_zero, List.setIfInBounds_toArray, List.set_cons_zero, List.set_cons_succ]
                      refine wpR_pure (i := 6) (oi := _) (v := ?_) rfl (by kernel_rfl) (by kernel_rfl) (by kernel_rfl) (by kernel_rfl) (by kernel_rfl) (by kernel_rfl) hHeld (Or.inl ⟨by rfl, ?_⟩) ?_
                      rotate_left
                      · (intro w hSw; obtain ⟨q0, q1, q2⟩ := HCO.out w hSw; go_simp; first | done | (with_reducible rfl))
                      simp only [Act.put, List.getElem_toArray, List.getElem_cons_succ, List.getElem_cons_zero, List.setIfInBounds_toArray, List.set_cons_zero, List.set_cons_succ]
                      refine wpR_pure (i := 7) (oi := _) (v := ?_) rfl (by kernel_rfl) (by kernel_rfl) (by kernel_rfl) (by kernel_rfl) (by kernel_rfl) (by kernel_rfl) hHeld (Or.inl ⟨by rfl, ?_⟩) ?_
                      rotate_left
                      · (intro w hSw; obtain ⟨q0, q1, q2⟩ := HCM.out w hSw; go_simp; first | done | (with_reducible rfl))
                      simp only [Act.put, List.getElem_toArray, List.getElem_cons_succ, List.getElem_cons_zero, List.setIfInBounds_toArray, List.set_cons_zero, List.set_cons_succ]
                      refine wpR_pure (i := 8) (oi := _) (v := .bool false) rfl (by kernel_rfl) (by kernel_rfl) (by kernel_rfl) (by kernel_rfl) (by kernel_rfl) (by kernel_rfl) hHeld (Or.inl ⟨by rfl, ?_⟩) ?_
                      · (intro w hSw; obtain ⟨s1, s2, s3⟩ := SH.out; have f1 := eqT s1; have f2 := eqT s2; have f3 := eqT s3; go_simp; first | done | (simp; done))
                      simp only [Act.put, List.getElem_toArray, List.getElem_cons_succ, List.getElem_cons_zero, List.setIfInBounds_toArray, List.set_cons_zero, List.set_cons_succ]
                      refine wpR_pure (i := 9) (oi := _) (v := ?_) rfl (by kernel_rfl) (by kernel_rfl) (by kernel_rfl) (by kernel_rfl) (by kernel_rfl) (by kernel_rfl) hHeld (Or.inl ⟨by rfl, ?_⟩) ?_
                      rotate_left
                      · (intro w hSw; go_simp; first | done | (with_reducible rfl))
                      simp only [Act.put, List.getElem_toArray, List.getElem_cons_succ, List.getElem_cons_zero, List.setIfInBounds_toArray, List.set_cons_zero, List.set_cons_succ]
                      refine wpR_pure (i := 10) (oi := _) (v := ?_) rfl (by kernel_rfl) (by kernel_rfl) (by kernel_rfl) (by kernel_rfl) (by kernel_rfl) (by kernel_rfl) hHeld (Or.inl ⟨by rfl, ?_⟩) ?_
                      rotate_left
                      · (intro w hSw; go_simp; first | done | (with_reducible rfl))
                      simp only [Act.put, List.getElem_toArray, List.getElem_cons_succ, List.getElem_cons_zero, List.setIfInBounds_toArray, List.set_cons_zero, List.set_cons_succ]
                      refine wpR_pure (i := 11) (oi := _) (v := ?_) rfl (by kernel_rfl) (by kernel_rfl) (by kernel_rfl) (by kernel_rfl) (by kernel_rfl) (by kernel_rfl) hHeld (Or.inl ⟨by rfl, ?_⟩) ?_
                      rotate_left
                      · (intro w hSw; go_simp; first | done | (with_reducible rfl))
                      simp only [Act.put, List.getElem_toArray, List.getElem_cons_succ, List.getElem_cons_zero, List.setIfInBounds_toArray, List.set_cons_zero, List.set_cons_succ]
                      refine wpR_pure (i := 12) (oi := _) (v := ?_) rfl (by kernel_rfl) (by kernel_rfl) (by kernel_rfl) (by kernel_rfl) (by kernel_rfl) (by kernel_rfl) hHeld (Or.inl ⟨by rfl, ?_⟩) ?_
                      rotate_left
                      · (intro w hSw; go_simp; first | done | (with_reducible rfl))
                      simp only [Act.put, List.getElem_toArray, List.getElem_cons_succ, List.getElem_cons_zero, List.setIfInBounds_toArray, List.set_cons_zero, List.set_cons_succ]
                      refine wpR_pure (i := 13) (oi := _) (v := ?_) rfl (by kernel_rfl) (by kernel_rfl) (by kernel_rfl) (by kernel_rfl) (by kernel_rfl) (by kernel_rfl) hHeld (Or.inl ⟨by rfl, ?_⟩) ?_
                      rotate_left
                      · (intro w hSw; go_simp; first | done | (with_reducible rfl))
                      simp only [Act.put, List.getElem_toArray, List.getElem_cons_succ, List.getElem_cons_zero, List.setIfInBounds_toArray, List.set_cons_zero, List.set_cons_succ]
                      refine wpR_pure (i := 14) (oi := _) (v := ?_) rfl (by kernel_rfl) (by kernel_rfl) (by kernel_rfl) (by kernel_rfl) (by kernel_rfl) (by kernel_rfl) hHeld (Or.inl ⟨by rfl, ?_⟩) ?_
                      rotate_left
                      · (intro w hSw; have q0 := HG8.out w hSw; go_simp; first | done | (with_reducible rfl))
                      simp only [Act.put, List.getElem_toArray, List.getElem_cons_succ, List.getElem_cons_zero, List.setIfInBounds_toArray, List.set_cons_zero, List.set_cons_succ]
                      refine wpR_pure (i := 15) (oi := _) (v := ?_) rfl (by kernel_rfl) (by kernel_rfl) (by kernel_rfl) (by kernel_rfl) (by kernel_rfl) (by kernel_rfl) hHeld (Or.inl ⟨by rfl, ?_⟩) ?_
                      rotate_left
                      · (intro w hSw; go_simp; first | done | (with_reducible rfl))
                      simp only [Act.put, List.getElem_toArray, List.getElem_cons_succ, List.getElem_cons_zero, List.setIfInBounds_toArray, List.set_cons_zero, List.set_cons_succ]
                      refine wpR_pure (i := 16) (oi := _) (v := ?_) rfl (by kernel_rfl) (by kernel_rfl) (by kernel_rfl) (by kernel_rfl) (by kernel_rfl) (by kernel_rfl) hHeld (Or.inl ⟨by rfl, ?_⟩) ?_
                      rotate_left
                      · (intro w hSw; go_simp; first | done | (with_reducible rfl))
                      simp only [Act.put, List.getElem_toArray, List.getElem_cons_succ, List.getElem_cons_zero, List.setIfInBounds_toArray, List.set_cons_zero, List.set_cons_succ]
                      refine wpR_pure (i := 17) (oi := _) (v := ?_) rfl (by kernel_rfl) (by kernel_rfl) (by kernel_rfl) (by kernel_rfl) (by kernel_rfl) (by kernel_rfl) hHeld (Or.inl ⟨by rfl, ?_⟩) ?_
                      rotate_left
                      · (intro w hSw; go_simp; first | done | (with_reducible rfl))
                      simp only [Act.put, List.getElem_toArray, List.getElem_cons_succ, List.getElem_cons_zero, List.setIfInBounds_toArray, List.set_cons_zero, List.set_cons_succ]
                      refine wpR_pure (i := 18) (oi := _) (v := undef) rfl (by kernel_rfl) (by kernel_rfl) (by kernel_rfl) (by kernel_rfl) (by kernel_rfl) (by kernel_rfl) hHeld (Or.inr ⟨by rfl, rfl⟩) ?_
                      simp only [Act.put, List.getElem_toArray, List.getElem_cons_succ, List.getElem_cons_zero, List.setIfInBounds_toArray, List.set_cons_zero, List.set_cons_succ]
                      refine wpR_pure (i := 19) (oi := _) (v := undef) rfl (by kernel_rfl) (by kernel_rfl) (by kernel_rfl) (by kernel_rfl) (by kernel_rfl) (by kernel_rfl) hHeld (Or.inr ⟨by rfl, rfl⟩) ?_
                      simp only [Act.put, List.getElem_toArray, List.getElem_cons_succ, List.getElem_cons_zero, List.setIfInBounds_toArray, List.set_cons_zero, List.set_cons_succ]
                      refine wpR_pure (i := 20) (oi := _) (v := undef) rfl (by kernel_rfl) (by kernel_rfl) (by kernel_rfl) (by kernel_rfl) (by kernel_rfl) (by kernel_rfl) hHeld (Or.inr ⟨by rfl, rfl⟩) ?_
                      simp only [Act.put, List.getElem_toArray, List.getElem_cons_succ, List.getElem_cons_zero, List.setIfInBounds_toArray, List.set_cons_zero, List.set_cons_succ]
                      refine wpR_pure (i := 21) (oi := _) (v := undef) rfl (by kernel_rfl) (by kernel_rfl) (by kernel_rfl) (by kernel_rfl) (by kernel_rfl) (by kernel_rfl) hHeld (Or.inr ⟨by rfl, rfl⟩) ?_
                      simp only [Act.put, List.getElem_toArray, List.getElem_cons_succ, List.getElem_cons_zero, List.setIfInBounds_toArray, List.set_cons_zero, List.set_cons_succ]
                      refine wpR_pure (i := 22) (oi := _) (v := undef) rfl (by kernel_rfl) (by kernel_rfl) (by kernel_rfl) (by kernel_rfl) (by kernel_rfl) (by kernel_rfl) hHeld (Or.inr ⟨by rfl, rfl⟩) ?_
                      simp only [Act.put, List.getElem_toArray, List.getElem_cons_succ, List.getElem_cons_zero, List.setIfInBounds_toArray, List.set_cons_zero, List.set_cons_succ]
                      refine wpR_pure (i := 23) (oi := _) (v := undef) rfl (by kernel_rfl) (by kernel_rfl) (by kernel_rfl) (by kernel_rfl) (by kernel_rfl) (by kernel_rfl) hHeld (Or.inr ⟨by rfl, rfl⟩) ?_
                      simp only [Act.put, List.getElem_toArray, List.getElem_cons_succ, List.getElem_cons_zero, List.setIfInBounds_toArray, List.set_cons_zero, List.set_cons_succ]
                      refine wpR_pure (i := 24) (oi := _) (v := undef) rfl (by kernel_rfl) (by kernel_rfl) (by kernel_rfl) (by kernel_rfl) (by kernel_rfl) (by kernel_rfl) hHeld (Or.inr ⟨by rfl, rfl⟩) ?_
                      simp only [Act.put, List.getElem_toArray, List.getElem_cons_succ, List.getElem_cons_zero, List.setIfInBounds_toArray, List.set_cons_zero, List.set_cons_succ]
                      refine wpR_pure (i := 25) (oi := _) (v := undef) rfl (by kernel_rfl) (by kernel_rfl) (by kernel_rfl) (by kernel_rfl) (by kernel_rfl) (by kernel_rfl) hHeld (Or.inr ⟨by rfl, rfl⟩) ?_
                      simp only [Act.put, List.getElem_toArray, List.getElem_cons_succ, List.getElem_cons_zero, List.setIfInBounds_toArray, List.set_cons_zero, List.set_cons_succ]
                      refine wpR_pure (i := 26) (oi := _) (v := undef) rfl (by kernel_rfl) (by kernel_rfl) (by kernel_rfl) (by kernel_rfl) (by kernel_rfl) (by kernel_rfl) hHeld (Or.inr ⟨by rfl, rfl⟩) ?_
                      simp only [Act.put, List.getElem_toArray, List.getElem_cons_succ, List.getElem_cons_zero, List.setIfInBounds_toArray, List.set_cons_zero, List.set_cons_succ]
                      refine wpR_pure (i := 27) (oi := _) (v := ?_) rfl (by kernel_rfl) (by kernel_rfl) (by kernel_rfl) (by kernel_rfl) (by kernel_rfl) (by kernel_rfl) hHeld (Or.inl ⟨by rfl, ?_⟩) ?_
                      rotate_left
                      · (intro w hSw; go_simp; first | done | (with_reducible rfl))
                      simp only [Act.put, List.getElem_toArray, List.getElem_cons_succ, List.getElem_cons_zero, List.setIfInBounds_toArray, List.set_cons_zero, List.set_cons_succ]
                      refine wpR_pure (i := 28) (oi := _) (v := ?_) rfl (by kernel_rfl) (by kernel_rfl) (by kernel_rfl) (by kernel_rfl) (by kernel_rfl) (by kernel_rfl) hHeld (Or.inl ⟨by rfl, ?_⟩) ?_
                      rotate_left
                      · (intro w hSw; go_simp; first | done | (with_reducible rfl))
                      simp only [Act.put, List.getElem_toArray, List.getElem_cons_succ, List.getElem_cons_zero, List.setIfInBounds_toArray, List.set_cons_zero, List.set_cons_succ]
                      refine wpR_end (by kernel_rfl) (fun w hSw => ?_)
                      refine any_done (by kernel_rfl) ?_ _
                      have HS7 := Keep.mk (HS.out.grown hSw)
                      clear hSw HS hHeld HG8 HG9
                      go_wp2_with fail
                      go_roundw
                      case rel => exact ⟨j + 1, by omega, rfl, HS7⟩
                      case measure => simp [intOf]; omega
                · have hj1 : ¬ (j : Int) < (m : Nat) := by omega
                  as_aux_lemma =>
                    have HS7 := Keep.mk HS.out.tail
                    clear HS HG8 HG9
                    go_wp2_with fail
                    go_roundw
                    case rel => exact ⟨i + 1, by omega, rfl, HS7⟩
                    case measure => simp [intOf]; omega
          · have hi1 : ¬ (i : Int) < 4 := by omega
            as_aux_lemma =>
              have HRX := Keep.mk ((HS.out.boxGet (b := xb) (cs := vwL ta a va) (t := 29) (by simp)).range)
              have HRY := Keep.mk ((HS.out.boxGet (b := yb) (cs := vwL tb b vb) (t := 29) (by simp)).range)
              go_wp2_with (first
                | (show wpList _ _ _ ({ dst := some 112, op := Op.load 29 (Operand.tmp 3), type := _, pos := _, after := _, guard := _ } :: _) _ _; refine load_g (by rfl) 29 (.tmp 3) rfl xb 0 rfl (vwL ta a va) du9 (HRX.out) hdu9 hdr9 info29 ?_)
                | (show wpList _ _ _ ({ dst := some 113, op := Op.load 29 (Operand.tmp 4), type := _, pos := _, after := _, guard := _ } :: _) _ _; refine load_g (by rfl) 29 (.tmp 4) rfl yb 0 rfl (vwL tb b vb) du9 (HRY.out) hdu9 hdr9 info29 ?_))
              clear HRX HRY
              refine (HBT.out wr HS.out.1).mono ?_
              rintro e W4 ⟨lv, P, rfl, hP, S4⟩
              have HS4 := Keep.mk (Sep.merge HS.out S4)
              have hPP := hP.trans HP0.out.symm
              have hPL : P.length ≤ 1048577 := by
                have := congrArg List.length hP
                rw [List.length_map] at this
                rw [this]
                exact HLN.out
              have HSC := Keep.mk (same_c W4 lv v7 P P0 (rdP_row (HS4.out.rowGet (by simp))) (rdP_row (HS4.out.rowGet (by simp))) hPP (by omega))
              clear S4 HS hP hPP hPL
              go_wp2_with fail
              refine HSC.out.mono ?_
              rintro e W5 ⟨rfl, g5⟩
              go_wp2_with fail
              refine (alive_c W5).mono ?_
              rintro e W6 ⟨rfl, g6⟩
              go_wp2_with fail
              go_ret
              exact ⟨rfl, HS4.out.1.trans (g5.trans g6)⟩
end Go.Proofs.Ytfhhneibdmjfgaa
