import Derived.Test.YtjbkoablleneeaaGreatDoorX26
import Derived.RangeFuncNested
import Derived.RangeFuncBound
import Derived.RangeFuncCalls
import Derived.RangeFuncLeaves
import Derived.Shelf.Abstract
import Derived.OwnWalkIn
import Derived.TacticsInMore
import Derived.LoopNIn
import Derived.LoopIn
/- ticks alone: the entries gone through -/
namespace Go.Proofs.YtjbkoablleneeaaGreatDoor.Pk
open Go Go.RowKit Go.Shelf
attribute [local go_sem] Oper.semAt_some

section
variable {F : Fence} {n : Nat} {P : Program} {ops : Array Oper} {rest : List Oper} {op : Oper} {a : Act} {w : World} {Q : Exit → Act → World → Prop}
theorem wpListIn_load_mid (hgd : op.guard = none) (ty : TypeId) (x : Operand) (ho : op.op = .load ty x)
    (b o : Nat) (hx : a.eval x = .pointer (some ⟨b, o, none⟩)) (cs : List Value) (d : TypeDesc) (hc : w.rangeAt b o cs)
    (hu : P.underlying ty = some d) (hd : d.isRow = true) (hi : (P.info? ty).map (·.size) = some cs.length)
    (h : wpListIn F n P ops Q rest (a.put op.dst (.agg cs.toArray)) w) : wpListIn F n P ops Q (op :: rest) a w :=
  wpListIn_plain hgd fun _ hK => by
    unfold Oper.wpIn
    refine ⟨?_, ?_⟩
    · simp [Oper.about, ho]
    · rw [Oper.semAt_plain F _ _ (by rw [ho]; intro c hc'; cases hc')]
      simp only [execOp, ho, hx, Instr.loadAt, Instr.sureAddr, Sem.run_bind, Sem.run_pure, Result.andThen_ok, run_loadVar_mid w b o ty cs d hc hu hd hi]
      exact hK _ _ h
theorem wpListIn_store_mid (hgd : op.guard = none) (ty : TypeId) (x y : Operand) (ho : op.op = .store ty x y)
    (b o : Nat) (cells : Array Value) (hx : a.eval x = .pointer (some ⟨b, o, none⟩)) (hy : a.eval y = .agg cells)
    (ht : w.there b o cells.size) (hi : (P.info? ty).map (·.size) = some cells.size) (h1 : cells.all (·.oneCell') = true)
    (h : wpListIn F n P ops Q rest (a.put op.dst undef) (w.setCells b o cells.toList)) : wpListIn F n P ops Q (op :: rest) a w :=
  wpListIn_plain hgd fun _ hK => by
    unfold Oper.wpIn
    refine ⟨?_, ?_⟩
    · simp [Oper.about, ho]
    · rw [Oper.semAt_plain F _ _ (by rw [ho]; intro c hc'; cases hc')]
      simp only [execOp, ho, hx, hy, Instr.storeAt, Instr.sureAddr, Sem.run_bind, Sem.run_pure, Result.andThen_ok, run_storeVar_mid w b o ty cells ht hi h1]
      exact hK _ _ h
theorem wpListIn_build (hgd : op.guard = none) (t : TypeId) (parts : Array (Nat × Operand))
    (ho : op.op = .build t parts) (cells : Array Value) (hb : P.built t (parts.map fun (i, x) => (i, a.eval x)).toList = some cells) (h : wpListIn F n P ops Q rest (a.put op.dst (.agg cells)) w) : wpListIn F n P ops Q (op :: rest) a w :=
  wpListIn_plain hgd fun _ hK => by
    unfold Oper.wpIn
    refine ⟨?_, ?_⟩
    · simp [Oper.about, ho]
    · rw [Oper.semAt_plain F _ _ (by rw [ho]; intro c hc'; cases hc')]
      simp only [execOp, ho, Sem.run_bind, run_build w t _ cells hb, Result.andThen_ok]
      exact hK _ _ h
end
theorem items_c (a : Option Addr) (n c : Nat) (w : World) :
    Calls Tryz.prog 43 #[.slice a n c] w fun e w' => e = .returned (.func (.func 74) #[] #[.pointer (some ⟨w.heap.size, 0, none⟩)]) ∧ w' = w.alloc (.cells #[.slice a n c] 22) := by
  go_enter Tryz.func43, Tryz.ntmps43
  go_wp2_with fail
  go_ret
  exact ⟨rfl, rfl⟩
/-- what a round keeps: the entries, and where they lie -/
structure KpT (W W' : World) : Prop where
  size : W.heap.size ≤ W'.heap.size
  has : ∀ b cs t, t = 22 ∨ t = 35 → Has W b cs t → Has W' b cs t
theorem KpT.refl (W : World) : KpT W W := ⟨Nat.le_refl _, fun _ _ _ _ h => h⟩
theorem KpT.trans {A B C : World} (h : KpT A B) (k : KpT B C) : KpT A C := ⟨Nat.le_trans h.size k.size, fun b cs t q hb => k.has b cs t q (h.has b cs t q hb)⟩
theorem KpT.grown {A B : World} (h : A.grownBy B none) : KpT A B := ⟨h.size, fun _ _ _ _ hb => hb.kept h (by simp)⟩
theorem KpT.put (W : World) (l : Nat) (o o' : Obj) (h : W.heap[l]? = some o) (ho : o.isCells = false) : KpT W (W.putObj l o') := by
  have hg := grownBy_putObj' W l o'
  refine ⟨hg.size, fun b cs t _ hb => hb.kept hg (fun e => ?_)⟩
  have e := Option.some.inj e
  subst e
  unfold Has at hb
  rw [h] at hb
  cases hb
  simp [Obj.isCells] at ho
theorem dgVar (w3 : World) (C : Array Value) (hC : C.size = 15) (w4 : World) (h : (w3.alloc (.cells C 103)).setCells w3.heap.size 0 zdg = w4) : Has w4 w3.heap.size zdg 103 ∧ w3.grownBy w4 none := by
  subst h
  exact ⟨(Has.newA w3 C 103).setAll _ (by simp [hC, zdg]), gr_new (World.grownBy_alloc _ _ _) (gr_sets _ _ _ _) (Nat.le_refl _)⟩
set_option maxRecDepth 100000 in
theorem built105 (t k : Nat) : Tryz.prog.built 105 [(0, .agg (en (tk t)).toArray), (1, .int .u64 k), (2, .agg zdg.toArray)] = some (itm t k).toArray := by kernel_rfl
abbrev enT (T : List Nat) (k : Nat) : Array Value := #[.agg (itm (T.getD k 0) k).toArray]
set_option maxRecDepth 100000 in
set_option maxHeartbeats 4000000 in
theorem items_stops (n Bn lb m : Nat) (T : List Nat) (w : World) (hn : 1 ≤ n) (hBn : Has w Bn [.slice (some ⟨lb, 0, none⟩) m m] 22) (hE : Has w lb (ens (T.map tk)) 35) (hm : T.length = m) (hm9 : m ≤ 1000) :
    SeqStopsK Fence.wide n Tryz.prog 74 #[.pointer (some ⟨Bn, 0, none⟩)] (enT T) KpT (fun xs => xs = List.range m) (fun pre => pre = List.range pre.length ∧ pre.length ≤ m) m w := by
  intro l J Jx W hW hJ hJx hY h0
  have hg : w.grownBy W none := ⟨hW.os, hW.tape, hW.output, hW.size, fun k hk _ => hW.block k hk⟩
  have H0 : Keep (Has W Bn [.slice (some ⟨lb, 0, none⟩) m m] 22 ∧ Has W lb (ens (T.map tk)) 35 ∧ J (List.range 0) W) := ⟨hBn.kept hg (by simp), hE.kept hg (by simp), h0⟩
  have hcB : W.cell? ⟨Bn, 0, none⟩ = some (.slice (some ⟨lb, 0, none⟩) m m) := H0.out.1.cellv 0 _ rfl
  have HJ : Keep (∀ (pre : List Nat) (W1 W2 : World), J pre W1 → W1.grownBy W2 none → J pre W2) := ⟨fun pre W1 W2 h g => hJ pre W1 W2 none h g (fun r e => by cases e)⟩
  have HY : Keep (∀ pre x W1, J pre W1 → pre.length < m → YieldAt Fence.wide (n - 1) Tryz.prog l (enT T x) W1 fun e W' => (e = .returned (.bool true) ∧ J (pre ++ [x]) W' ∧ KpT W1 W') ∨ (e = .returned (.bool false) ∧ Jx (pre ++ [x]) W')) := ⟨hY⟩
  have HM := Keep.mk hm
  obtain ⟨d35, U35, Q35⟩ := under35
  obtain ⟨d3, U3, Q3⟩ := under103
  clear hY hJ hJx h0 hBn hE hW hg hm
  refine callsIn_of_wp Tryz.func74 rfl trivial ?_ rfl
  simp only [Tryz.ntmps74, List.size_toArray, List.length_cons, List.length_nil, Nat.reduceAdd, Nat.reduceSub, Array.replicate_succ, Array.replicate_zero, List.push_toArray, List.append_toArray, List.nil_append, List.cons_append]
  gi_wp2_with fail
  clear hcB
  gi_loopw [3, 10] (fun t3 u wr => ∃ k : Nat, k ≤ m ∧ t3 = .int .u64 k ∧ u = .int .i64 k ∧ Keep (Has wr Bn [.slice (some ⟨lb, 0, none⟩) m m] 22 ∧ Has wr lb (ens (T.map tk)) 35 ∧ J (List.range k) wr)) (fun _ u _ => (m - (intOf u)).toNat)
  case atStart => exact ⟨0, by omega, rfl, rfl, H0⟩
  case round =>
    obtain ⟨k, hk, rfl, rfl, hF⟩ := hrel
    by_cases hlt : k < m
    · obtain ⟨t, ht⟩ : ∃ t, T[k]? = some t := ⟨_, List.getElem?_eq_getElem (by rw [HM.out]; exact hlt)⟩
      have HT : Keep (enT T k = #[.agg (itm t k).toArray]) := ⟨by simp [enT, List.getD, ht]⟩
      have HR : Keep (wr.rangeAt lb (k * 8) (en (tk t))) := ⟨fun j v hv => by
        refine hF.out.2.1.cellv _ _ (ens_at (T.map tk) k (tk t) (by rw [List.getElem?_map, ht]; rfl) j v hv)⟩
      have HD := Keep.mk (decode0_c)
      clear ht
      gi_wp2_with (first
        | (show wpListIn _ _ _ _ _ ({ dst := some 13, op := Op.load 35 _, type := _, pos := _, after := _, guard := _ } :: _) _ _
           refine wpListIn_load_mid rfl 35 _ rfl lb (k * 8) rfl (en (tk t)) _ HR.out U35 Q35 size35 ?_)
        | (show wpListIn _ _ _ _ _ ({ dst := _, op := Op.store 35 _ _, type := _, pos := _, after := _, guard := _ } :: _) _ _
           refine wpListIn_store_mid rfl 35 _ _ rfl _ _ _ rfl rfl ((Has.newA wr _ 35).there 0 _ (Nat.le_refl 8)) (info35 (tk t)) (one35 (tk t)) ?_
           generalize hw6 : World.setCells _ _ _ _ = w6
           obtain ⟨h6, g6⟩ := entVar wr _ rfl (tk t) w6 hw6
           have H6 : Keep (Has w6 wr.heap.size (en (tk t)) 35 ∧ wr.grownBy w6 none) := ⟨h6, g6⟩
           have c7 := h6.cellv 7 _ rfl
           clear h6 g6 hw6))
      refine ⟨trivial, (callsIn_wide.2 (HD.out _)).mono ?_⟩
      rintro e w7 ⟨rfl, g7⟩
      have H7 : Keep (Has w7 wr.heap.size (en (tk t)) 35 ∧ wr.grownBy w7 none) := ⟨H6.out.1.kept g7 (by simp), H6.out.2.trans g7⟩
      clear g7 H6 c7 HD
      have HB : Keep (∀ A : List (Nat × Value), A = [(0, .agg (en (tk t)).toArray), (1, .int .u64 k), (2, .agg zdg.toArray)] → Tryz.prog.built 105 A = some (itm t k).toArray) := ⟨fun A q => by rw [q]; exact built105 t k⟩
      gi_wp2_with (first
        | (show wpListIn _ _ _ _ _ ({ dst := _, op := Op.store 103 _ _, type := _, pos := _, after := _, guard := _ } :: _) _ _
           refine wpListIn_store_mid rfl 103 _ _ rfl _ _ _ rfl rfl ((Has.newA w7 _ 103).there 0 _ (Nat.le_refl 15)) size103 zdg_one ?_
           generalize hw8 : World.setCells _ _ _ _ = w8
           obtain ⟨h8, g8⟩ := dgVar w7 _ rfl w8 hw8
           have H8 : Keep (Has w8 wr.heap.size (en (tk t)) 35 ∧ Has w8 w7.heap.size zdg 103 ∧ wr.grownBy w8 none) := ⟨H7.out.1.kept g8 (by simp), h8, H7.out.2.trans g8⟩
           have hJ8 := HJ.out _ _ _ hF.out.2.2 H8.out.2.2
           obtain ⟨fn, tmps, assign, body, hy, hRd⟩ := HY.out (List.range k) k w8 hJ8 (by rw [List.length_range]; exact hlt)
           rw [HT.out] at hy
           clear h8 g8 hw8 hJ8)
        | (show wpListIn _ _ _ _ _ ({ dst := some 21, op := Op.load 35 _, type := _, pos := _, after := _, guard := _ } :: _) _ _
           refine wpListIn_load_mid rfl 35 _ rfl _ _ rfl (en (tk t)) _ H8.out.1.range U35 Q35 size35 ?_)
        | (show wpListIn _ _ _ _ _ ({ dst := some 23, op := Op.load 103 _, type := _, pos := _, after := _, guard := _ } :: _) _ _
           refine wpListIn_load_mid rfl 103 _ rfl _ _ rfl zdg _ H8.out.2.1.range U3 Q3 size103 ?_)
        | (show wpListIn _ _ _ _ _ ({ dst := _, op := Op.build 105 _, type := _, pos := _, after := _, guard := _ } :: _) _ _
           refine wpListIn_build rfl 105 _ rfl (itm t k).toArray (HB.out _ (by simp only [List.map_toArray, List.map_cons, List.map_nil, Act.eval, Act.put]; rfl)) ?_
           generalize (itm t k).toArray = IA at hy ⊢))
      refine hRd.mono ?_
      rintro e W3 (⟨rfl, hJ3, hk3⟩ | ⟨rfl, hJx3⟩)
      · have H3 : Keep (Has W3 Bn [.slice (some ⟨lb, 0, none⟩) m m] 22 ∧ Has W3 lb (ens (T.map tk)) 35 ∧ J (List.range (k + 1)) W3) :=
          ⟨hk3.has _ _ _ (.inl rfl) (hF.out.1.kept H8.out.2.2 (by simp)), hk3.has _ _ _ (.inr rfl) (hF.out.2.1.kept H8.out.2.2 (by simp)), by rw [List.range_succ]; exact hJ3⟩
        have c0 : W3.cell? ⟨wr.heap.size, 0, none⟩ = some (iv 3) := (hk3.has _ _ _ (.inr rfl) H8.out.1).cellv 0 _ rfl
        clear hJ3 hk3 hRd hy
        gi_wp2_with fail
        exact ⟨⟨k + 1, by omega, by go_num, by go_num, H3⟩, by simp only [intOf]; omega⟩
      · have H3 : Keep (Jx (List.range (k + 1)) W3) := ⟨by rw [List.range_succ]; exact hJx3⟩
        clear hJx3 hRd hy
        gi_wp2_with fail
        refine bodyPost_ret (results_none rfl _ _ _) rfl ?_
        refine ⟨⟨_, rfl⟩, .inr ⟨List.range (k + 1), ⟨by rw [List.length_range], by rw [List.length_range]; omega⟩, H3.out⟩⟩
    · obtain rfl : k = m := by omega
      gi_wp2_with fail
      go_end0
      exact ⟨⟨_, rfl⟩, .inl ⟨_, rfl, hF.out.2.2⟩⟩
end Go.Proofs.YtjbkoablleneeaaGreatDoor.Pk

