/- a list that is lent: lent, still -/
import Derived.Test.YtfhhneibdmjfgabL5
namespace Go.Proofs.Ytfhhneibdmjfgab
open Go Go.RowKit Go.Maps Sm
set_option maxRecDepth 100000
attribute [local go_sem] run_store_fl
/-- Seens as they lie -/
def sns (L : List Sn) : List Value := L.flatMap snv
theorem snv_len (s : Sn) : (snv s).length = 5 := rfl
theorem sns_len : ∀ L : List Sn, (sns L).length = L.length * 5
  | [] => rfl
  | s :: r => by
    have := sns_len r
    unfold sns at *
    rw [List.flatMap_cons, List.length_append, this, List.length_cons, snv_len]
    omega
theorem sns_app (L M : List Sn) : sns (L ++ M) = sns L ++ sns M := by unfold sns; exact List.flatMap_append
theorem sns_get : ∀ (L : List Sn) (j r : Nat) (x : Sn) (u : Value), L[j]? = some x → (snv x)[r]? = some u → (sns L)[j * 5 + r]? = some u
  | [], j, r, x, u, h, _ => by simp at h
  | y :: L, 0, r, x, u, h, hu => by
    rw [List.getElem?_cons_zero] at h
    injection h with h
    subst h
    have hr : r < (snv y).length := (List.getElem?_eq_some_iff.1 hu).1
    show (snv y ++ sns L)[0 * 5 + r]? = some u
    rw [Nat.zero_mul, Nat.zero_add, List.getElem?_append_left hr]
    exact hu
  | y :: L, j + 1, r, x, u, h, hu => by
    rw [List.getElem?_cons_succ] at h
    show (snv y ++ sns L)[(j + 1) * 5 + r]? = some u
    rw [List.getElem?_append_right (by rw [snv_len]; omega), snv_len, show (j + 1) * 5 + r - 5 = j * 5 + r by omega]
    exact sns_get L j r x u h hu
theorem sns_one (L : List Sn) : ∀ u ∈ sns L, u.oneCell' = true := by
  intro u hu
  obtain ⟨x, _, hx⟩ := List.mem_flatMap.1 hu
  simp only [snv, List.mem_cons, List.not_mem_nil, or_false] at hx
  rcases hx with rfl | rfl | rfl | rfl | rfl <;> rfl
theorem infoSn : ∃ i, Try.prog.info? 39 = some i ∧ i.size = 5 ∧ i.bytes = 40 ∧ i.zero = some (snA zN) := by
  have h : (Try.prog.info? 39).map (fun i => (i.size, i.bytes, i.zero)) = some (5, 40, some (snA zN)) := by kernel_rfl
  cases e : Try.prog.info? 39 with
  | none => rw [e] at h; cases h
  | some i =>
    rw [e] at h
    simp only [Option.map_some, Option.some.injEq, Prod.mk.injEq] at h
    exact ⟨i, rfl, h.1, h.2.1, h.2.2⟩
theorem app_nilS (c : Nat) (W : World) : (Builtin.append_ #[27, 27] 27 #[.slice none 0 0, .slice none 0 c]).run Try.prog W = .ok (.slice none 0 0) W := by
  obtain ⟨i, i1, _⟩ := infoSn
  have ht : Try.prog.underlying 27 = some (.slice 39) := Try.underlying27
  simp [Builtin.append_, run_underlying ht, sizeOf, typeInfo, i1, Builtin.lenOf, Builtin.firstCells]
/-- a list's copy -/
theorem Sep.copyS {w0 W : World} {l : List As} {va : Value} {L : List Sn} (h : Sep w0 W l) (hA : RdS W va L) (hn : L.length * 40 ≤ 140737488355328) :
    ∃ v' W', (Builtin.append_ #[27, 27] 27 #[.slice none 0 0, va]).run Try.prog W = .ok v' W' ∧ Sep w0 W' (rowV 39 5 v' L.length (sns L) :: l) := by
  obtain ⟨a, cap, rfl, hv⟩ := hA.o
  cases a with
  | none =>
    have h0 : L = [] := by
      cases L with
      | nil => rfl
      | cons x r => obtain ⟨g, o, e, _⟩ := hv (by simp); cases e
    subst h0
    exact ⟨_, W, app_nilS cap W, h.nilV 39 5⟩
  | some p =>
    obtain ⟨i, i1, i2, i3, i4⟩ := infoSn
    obtain ⟨v', W', r1, S2⟩ := Sep.appF (t := 27) Try.underlying27 i1 i4 i2 i3 rfl (by decide) (h.nilV 39 5) p L.length cap (sns L) (sns_len L) (fun j u hu => by
      have hj := (List.getElem?_eq_some_iff.1 hu).1
      rw [sns_len] at hj
      obtain ⟨g, o, e, q⟩ := hv (by omega)
      injection e with e
      subst e
      have hjk : j / 5 < L.length := by omega
      have hr : j % 5 < (snv L[j / 5]).length := by rw [snv_len]; omega
      have q1 := List.getElem?_eq_getElem hjk
      have q2 := List.getElem?_eq_getElem hr
      have q3 := sns_get L (j / 5) (j % 5) _ _ q1 q2
      rw [show j / 5 * 5 + j % 5 = j by omega, hu] at q3
      have q4 := q (j / 5) _ q1 (j % 5) u (by rw [q2, ← q3])
      rw [Addr.add_mid, show o + j = o + j / 5 * 5 + j % 5 by omega]
      exact q4) (sns_one L) (by omega)
    refine ⟨v', W', r1, ?_⟩
    rw [Nat.zero_add, List.nil_append] at S2
    exact S2
/-- one more -/
theorem Sep.appS {w0 W : World} {l : List As} {v : Value} {L : List Sn} (h : Sep w0 W (rowV 39 5 v L.length (sns L) :: l)) (s : Sn) (hn : (L.length + 1) * 40 ≤ 140737488355328) :
    ∃ g c W', (Builtin.append_ #[27, 27] 27 #[v, .slice (some ⟨W.heap.size, 0, none⟩) 1 1]).run Try.prog (W.alloc (.cells #[iv s.k, iv s.i, iv s.x, iv s.y, iv s.h] 39)) = .ok (.slice (some ⟨g, 0, none⟩) (L.length + 1) c) W' ∧ Sep w0 W' (rowV 39 5 (.slice (some ⟨g, 0, none⟩) (L.length + 1) c) (L.length + 1) (sns (L ++ [s])) :: l) := by
  obtain ⟨i, i1, i2, i3, i4⟩ := infoSn
  obtain ⟨g, c, W', r, S⟩ := Sep.app (t := 27) Try.underlying27 i1 i4 i2 i3 rfl (by decide) h (snv s) rfl (fun u hu => sns_one [s] u (by simpa [sns] using hu)) hn (by decide)
  refine ⟨g, c, W', r, ?_⟩
  have e : sns (L ++ [s]) = sns L ++ snv s := by rw [sns_app]; simp [sns]
  rw [e]
  exact S
theorem bsS (s : Sn) (W : World) : (Instr.buildSlice 27 1 #[(0, snA s)]).run Try.prog W = .ok (.slice (some ⟨W.heap.size, 0, none⟩) 1 1) (W.alloc (.cells #[iv s.k, iv s.i, iv s.x, iv s.y, iv s.h] 39)) := by kernel_rfl
theorem wpList_bs1 {P : Program} {w : World} {ops : Array Oper} {rest : List Oper} {o : Oper} {a : Act} {Q : Exit → Act → World → Prop} (hgd : o.guard = none) (x : Operand) (t : TypeId)
    (ho : o.op = .buildSlice t 1 #[(0, x)]) (v : Value) (hx : a.eval x = v) {v' : Value} {w' : World}
    (hr : (Instr.buildSlice t 1 #[(0, v)]).run P w = .ok v' w') (h : wpList P ops Q rest (a.put o.dst v') w') : wpList P ops Q (o :: rest) a w :=
  wpList_plain hgd fun _ hK => by
    unfold Oper.wp
    simp only [execOp, ho, Sem.run_bind, Sem.run_pure, Result.andThen_ok, List.map_toArray, List.map_cons, List.map_nil, hx, hr]
    exact hK _ _ h
/-- what stands behind -/
def rm : Sn := ⟨-71, 0, 0, 0, 0⟩
theorem builtRm : Try.prog.built 39 [(0, iv (-71))] = some #[iv (-71), iv 0, iv 0, iv 0, iv 0] := by kernel_rfl
set_option maxHeartbeats 16000000 in
theorem lent_c (W : World) (tk : Int) (c : Cr) (va : Value) (L : List Sn) (hL : RdS W va L) (hn : L.length ≤ 1048576) :
    Calls Try.prog 5 #[.agg (vwA tk c va)] W fun e W' => ∃ g k, e = .returned (.slice (some ⟨g, 0, none⟩) (L.length + 1) k) ∧ Sep W W' [rowV 39 5 (.slice (some ⟨g, 0, none⟩) (L.length + 1) k) (L.length + 1) (sns (L ++ [rm]))] := by
  have HS := Keep.mk ((Sep.nil W).newBox (vwA tk c va) 29)
  obtain ⟨xb, hxb⟩ : ∃ xb, W.heap.size = xb := ⟨_, rfl⟩
  rw [hxb] at HS
  have HL := Keep.mk (hL.kept (gr_alloc W (.cells (vwA tk c va) 29) none))
  clear hL
  have l0 := (HS.out.boxGet k0m).cellv 15 _ rfl
  obtain ⟨v1, W2, ap, S2⟩ := Sep.copyS HS.out HL.out (by omega)
  obtain ⟨g, k, W3, ap2, S3⟩ := Sep.appS S2 rm (by omega)
  have HS3 := Keep.mk (S3.dropM [_] [_])
  have AP := Keep.mk ap
  have AP2 := Keep.mk ap2
  have HB := builtRm
  clear S2 S3 ap ap2 HS HL
  go_enter Try.func5, Try.ntmps5
  go_wp2_with (first
    | (with_reducible show wpList _ _ _ ({ dst := some 7, op := Op.call { callee := Callee.builtin Builtin.append, args := _, argTypes := _ }, type := _, pos := _, after := _, guard := _ } :: _) _ _
       refine wpList_append_run _ rfl (.tmp 4) (.tmp 6) 27 rfl _ _ rfl rfl AP.out ?_)
    | (with_reducible show wpList _ _ _ ({ dst := some 10, op := Op.buildSlice 27 _ _, type := _, pos := _, after := _, guard := _ } :: _) _ _
       refine wpList_bs1 rfl (.tmp 9) 27 rfl _ rfl (bsS rm W2) ?_)
    | (with_reducible show wpList _ _ _ ({ dst := some 11, op := Op.call { callee := Callee.builtin Builtin.append, args := _, argTypes := _ }, type := _, pos := _, after := _, guard := _ } :: _) _ _
       refine wpList_append_run _ rfl (.tmp 8) (.tmp 10) 27 rfl _ _ rfl rfl AP2.out ?_))
  go_ret
  exact ⟨g, k, rfl, HS3.out⟩
set_option maxHeartbeats 4000000 in
theorem eqSn (x : Sn) (w : World) : (Op.equalIn 10000 39 (snA x) (snA x)).run Try.prog w = .ok true w := by
  rw [show (10000 : Nat) = 9999 + 1 from rfl, run_equalIn_agg w 9999 39 _ _ (by kernel_rfl) (by kernel_rfl)]
  have u3 := Try.underlying3
  have g3 := Try.isAgg3
  have z3 := Try.sizeOf3
  have u24 := Try.underlying24
  have a24 := Try.isAgg24
  have z24 := Try.sizeOf24
  have ev : ∀ w, (Op.equalIn 9999 24 (.agg #[iv x.x, iv x.y]) (.agg #[iv x.x, iv x.y])).run Try.prog w = .ok true w := fun w => by
    rw [show (9999 : Nat) = 9998 + 1 from rfl, run_equalIn_agg w 9998 24 _ _ (by kernel_rfl) (by kernel_rfl)]
    simp only [Program.fieldsOf, Try.underlying24]
    go_simp
  simp only [Program.fieldsOf, Try.underlying39]
  go_simp
theorem neqSn (x : Sn) (w : World) : (binOp .neq 39 (snA x) (snA x)).run Try.prog w = .ok (.bool false) w := by
  simp only [binOp]
  simp [Op.equal, Op.maxDepth, eqSn]
end Go.Proofs.Ytfhhneibdmjfgab
