import Derived.Test.YtbmnlhmelbhjeaaDoorMaA4
import Derived.Test.YtbmnlhmelbhjeaaDoorMaPureB
namespace Go.Proofs.YtbmnlhmelbhjeaaDoor
open Go Go.RowKit

/-- clear of a slice whose run is known, at the list of a plain region's operations -/
theorem wpList_clear_run {P : Program} (w : World) {ops : Array Oper} {rest : List Oper} {o : Oper} {a : Act} {Q : Exit → Act → World → Prop} (hgd : o.guard = none) (d : Operand) (t : TypeId)
    (ho : o.op = .call { callee := .builtin .clear, args := #[d], argTypes := #[t] }) (v : Value) (hd : a.eval d = v) {v' : Value} {w' : World}
    (hr : (Builtin.clear_ #[t] o.type #[v]).run P w = .ok v' w') (h : wpList P ops Q rest (a.put o.dst v') w') : wpList P ops Q (o :: rest) a w :=
  wpList_plain hgd fun _ hK => by
    unfold Oper.wp execOp
    simp only [ho, resolve, invoke, builtin, Sem.run_bind, Sem.run_pure, Result.andThen_ok, List.map_toArray, List.map_cons, List.map_nil, hd, hr]
    exact hK _ _ h

set_option maxRecDepth 100000 in
theorem under28 : Tryd.prog.underlying 67 = some (.slice 5) := by kernel_rfl
theorem clear28 (W : World) (b o n : Nat) (cs : List Value) (t ty : TypeId) (hb : Has W b cs t) (ho : o + n ≤ cs.length) :
    (Builtin.clear_ #[67] ty #[.slice (some ⟨b, o, none⟩) n n]).run Tryd.prog W = .ok (.tuple #[]) (W.setCells b o (List.replicate n (.int .u8 0))) := by
  by_cases hn : n = 0
  · subst hn
    simp [Builtin.clear_, run_underlying under28, World.setCells]
  · exact Lib.run_clear_slice W 67 5 ty (.int .u8 0) under28 (fun _ => by kernel_rfl) rfl rfl b o n n (by omega) (fun j hj => (hb.there o n ho j hj).1) (fun j hj => (hb.there o n ho j hj).2)
theorem slice41e (k : IntKind) (b : Nat) (n : Nat) (hn : n ≤ 64) : ∃ A : Addr, (∀ W : World, (Instr.sliceAt 61 (.pointer (some ⟨b, 8, none⟩)) (some (.int k (n : Int))) none none).run Tryd.prog W = .ok (.slice (some A) (64 - n) (64 - n)) W) ∧
    ∀ (W : World) (cs : List Value) (ty : TypeId), Has W b cs 82 → cs.length = 73 → (Builtin.clear_ #[67] ty #[.slice (some A) (64 - n) (64 - n)]).run Tryd.prog W = .ok (.tuple #[]) (W.setCells b (8 + n) (List.replicate (64 - n) (.int .u8 0))) := by
  by_cases h : n < 64
  · exact ⟨⟨b, 8 + n, none⟩, slice41 k b 8 n n rfl h, fun W cs ty hb hl => clear28 W b (8 + n) (64 - n) cs 82 ty hb (by omega)⟩
  · have : n = 64 := by omega
    subst this
    refine ⟨⟨b, 8, none⟩, fun W => ?_, fun W cs ty hb hl => ?_⟩
    · have z : (sizeOf (Tryd.prog.elem 61)).run Tryd.prog W = .ok 1 W := by kernel_rfl
      have l : Tryd.prog.arrayLen 61 = 64 := by kernel_rfl
      rw [run_sliceAt_array_l W 61 _ (by kernel_rfl) k (64 : Nat) (by omega) (by rw [l]; omega), z, l]
      simp only [Result.andThen, slicedAt]
      rfl
    · simp [Builtin.clear_, run_underlying under28, World.setCells]

theorem hcs_over (ws : List UInt32) (blk q : List UInt8) (len o : Nat) (h8 : ws.length = 8) (h64 : blk.length = 64) (ho : o + q.length ≤ 64) :
    over (hcs ws blk len) (8 + o) (q.map bv) = hcs ws (blk.take o ++ q ++ blk.drop (o + q.length)) len := by
  rw [over_eq _ _ _ (by rw [hcs_length _ _ _ h8 h64, List.length_map]; omega)]
  unfold hcs
  have e1 : (ws.map wv ++ blk.map bv ++ [Value.int .u64 len]).take (8 + o) = ws.map wv ++ (blk.take o).map bv := by
    rw [List.append_assoc, List.take_append, List.take_of_length_le (by simp <;> omega), List.take_append_of_le_length (by simp [h8]; omega)]
    simp [h8]
  have e2 : (ws.map wv ++ blk.map bv ++ [Value.int .u64 len]).drop (8 + o + (q.map bv).length) = (blk.drop (o + q.length)).map bv ++ [Value.int .u64 len] := by
    rw [List.append_assoc, List.drop_append, List.drop_of_length_le (by simp <;> omega), List.drop_append_of_le_length (by simp [h8]; omega)]
    simp [h8]
    congr 1
    omega
  rw [e1, e2]
  simp
theorem set_take (blk : List UInt8) (r : Nat) (x : UInt8) (h64 : blk.length = 64) (hr : r < 64) : blk.set r x = blk.take r ++ [x] ++ blk.drop (r + 1) := by
  rw [List.set_eq_take_append_cons_drop, if_pos (by omega)]; simp
/-- the block behind the byte 128 and the zeros -/
theorem pad_blk (blk : List UInt8) (r : Nat) (h64 : blk.length = 64) (hr : r < 64) :
    (blk.take r ++ [128] ++ blk.drop (r + 1)).take (r + 1) ++ List.replicate (64 - (r + 1)) 0 ++ (blk.take r ++ [128] ++ blk.drop (r + 1)).drop (r + 1 + (List.replicate (64 - (r + 1)) (0 : UInt8)).length) = blk.take r ++ 128 :: List.replicate (63 - r) 0 := by
  have l : (blk.take r ++ [(128 : UInt8)]).length = r + 1 := by simp; omega
  have l2 : (blk.take r ++ [128] ++ blk.drop (r + 1)).length = 64 := by simp; omega
  rw [List.take_append_of_le_length (by omega), List.take_of_length_le (by omega), List.drop_of_length_le (by rw [l2, List.length_replicate]; omega), List.append_nil, show 64 - (r + 1) = 63 - r by omega]
  simp
end Go.Proofs.YtbmnlhmelbhjeaaDoor
