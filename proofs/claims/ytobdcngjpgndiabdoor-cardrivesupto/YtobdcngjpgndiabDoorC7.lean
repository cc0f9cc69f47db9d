/- car: New, Come, Hit -/
import Derived.Test.YtobdcngjpgndiabDoorC6
namespace Go.Proofs.YtobdcngjpgndiabDoor.Bo
open Go Go.RowKit

theorem wpList_build {P : Program} {w : World} {ops : Array Oper} {rest : List Oper} {o : Oper} {a : Act} {Q : Exit → Act → World → Prop} (hgd : o.guard = none) (t : TypeId) (parts : Array (Nat × Operand))
    (ho : o.op = .build t parts) (cells : Array Value) (hb : P.built t (parts.map fun (i, x) => (i, a.eval x)).toList = some cells) (h : wpList P ops Q rest (a.put o.dst (.agg cells)) w) : wpList P ops Q (o :: rest) a w :=
  wpList_plain hgd fun _ hK => by
    unfold Oper.wp execOp
    simp only [ho, Sem.run_bind, run_build w t _ cells hb, Result.andThen_ok]
    exact hK _ _ h
set_option maxRecDepth 100000 in
theorem built32n (p : Int) (s : ByteArray) : Tryd.prog.built 25 [(0, iv p), (1, .string s)] = some (crv (zC p s)).toArray := by kernel_rfl
set_option maxRecDepth 100000 in
set_option maxHeartbeats 8000000 in
theorem new_c (w : World) (v : Value) (L : Bo) (p : Int) (s : ByteArray) (h : Bd w v L) (hs : spn L ≠ []) (hn : s.size ≤ 281474976710656) :
    Calls Tryd.prog 10 #[v, iv p, .string s] w fun e w' => e = .returned (.agg (crv (newC L p s)).toArray) ∧ w.grownBy w' none := by
  obtain ⟨du, hdu, hdr⟩ := underC
  have S2 := (Sep.nil w).newBox zC14.toArray 25
  obtain ⟨W2, hW2⟩ : ∃ W2, w.alloc (.cells zC14.toArray 25) = W2 := ⟨_, rfl⟩
  obtain ⟨rb, hrb⟩ : ∃ rb, w.heap.size = rb := ⟨_, rfl⟩
  rw [hW2, hrb] at S2
  change Sep w W2 [boxA rb zC14 25] at S2
  have HF := Keep.mk (fresh_c W2 v L (zC p s) (h.kept S2.g) hs hn)
  have HBU := Keep.mk (built32n p s)
  unfold newC
  generalize frC L (zC p s) = cf at *
  have HS2 := Keep.mk S2
  have HL1 := Keep.mk (crv_one cf)
  unfold zC14 crv zC at hW2
  change w.alloc _ = W2 at hW2
  clear S2 h hs hn
  go_enter Tryd.func10, Tryd.ntmps10
  go_wp2_with (first
    | (show wpList _ _ _ ({ dst := _, op := Op.build 25 _, type := _, pos := _, after := _, guard := _ } :: _) _ _
       refine wpList_build rfl 25 _ rfl _ ((congrArg (Tryd.prog.built 25) (by simp only [List.map_toArray, List.map_cons, List.map_nil]; rfl)).trans HBU.out) ?_))
  refine HF.out.mono ?_
  rintro e w3 ⟨rfl, g3⟩
  have HS3 := Keep.mk (HS2.out.grown g3)
  have HRB := Keep.mk (HS3.out.boxGet k0m)
  clear g3 HS2 HF HBU hW2 hrb
  go_wp2_with (first
    | (show wpList _ _ _ ({ dst := _, op := Op.store 25 _ _, type := _, pos := _, after := _, guard := _ } :: _) _ _
       refine store_at _ rb 0 zC14 (crv cf) 25 25 rfl rfl rfl rfl HRB.out (Nat.le_refl _) (infoC' cf) HL1.out ?_))
  intro w7 hS7 g7
  have S7 := hS7 _ _ HS3.out
  rw [over_all zC14 (crv cf) rfl] at S7
  have HS7 := Keep.mk S7
  clear hS7 g7 S7 HRB HS3
  go_wp2_with fail
  exact ret_c rfl rfl (HS7.out.boxGet k0m) hdu hdr (infoC' cf) rfl ⟨rfl, HS7.out.g⟩
set_option maxRecDepth 100000 in
theorem built30z : Tryd.prog.built 23 [] = some #[iv 0, iv 0] := by kernel_rfl
end Go.Proofs.YtobdcngjpgndiabDoor.Bo
