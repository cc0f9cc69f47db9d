import Derived.Test.YtldnpebnpbahjaaGreatDoorSnC
/- all parts of a view: head and thing -/
namespace Go.Proofs.YtldnpebnpbahjaaGreatDoor.Pk.Sn
open Go Go.RowKit

def hMs : List Mk := [.U, .I, .T, .S, .S, .S, .S, .S, .S, .S, .S, .S, .S, .S, .S, .C]
def tMs : List Mk := [.I, .S, .S, .S, .I]
/-- a list of parts as it lies, for the cells of a block from a place on -/
structure Parts (w : World) (lo hi : Nat) (ms : List Mk) (b o hb : Nat) (L : List (Value × Value)) : Prop where
  n : L.length = ms.length
  h : Has w hb (L.flatMap fun p => [p.1, p.2]) 132
  p : ∀ k p m, L[k]? = some p → ms[k]? = some m → PartC w lo hi m b (o + k) p.1 p.2
  q : lo ≤ hb ∧ hb < hi
theorem Parts.kept {w w' : World} {lo hi lo' hi' : Nat} {ms : List Mk} {b o hb : Nat} {L : List (Value × Value)} (h : Parts w lo hi ms b o hb L) (k : Kpt lo hi w w') (h1 : lo' ≤ lo) (h2 : hi ≤ hi') : Parts w' lo' hi' ms b o hb L :=
  ⟨h.n, k.has h.h h.q.1 h.q.2, fun i p m e1 e2 => (h.p i p m e1 e2).kept k h1 h2, by have := h.q; omega⟩
theorem flat_at (L : List (Value × Value)) (k : Nat) (p : Value × Value) (h : L[k]? = some p) : (L.flatMap fun p => [p.1, p.2])[2 * k]? = some p.1 ∧ (L.flatMap fun p => [p.1, p.2])[2 * k + 1]? = some p.2 := by
  induction L generalizing k with
  | nil => cases h
  | cons a r ih =>
    cases k with
    | zero => obtain rfl := Option.some.inj h; exact ⟨rfl, rfl⟩
    | succ k =>
      have := ih k h
      rw [show 2 * (k + 1) = 2 * k + 1 + 1 by omega]
      simpa using this
set_option maxHeartbeats 8000000 in
set_option maxRecDepth 100000 in
theorem bs16 (n0 m0 n1 m1 n2 m2 n3 m3 n4 m4 n5 m5 n6 m6 n7 m7 n8 m8 n9 m9 n10 m10 n11 m11 n12 m12 n13 m13 n14 m14 n15 m15 : Nat) (c0 d0 c1 d1 c2 d2 c3 d3 c4 d4 c5 d5 c6 d6 c7 d7 c8 d8 c9 d9 c10 d10 c11 d11 c12 d12 c13 d13 c14 d14 c15 d15 : Array Value) (W : World) : (Instr.buildSlice 199 16 #[(0, .agg #[fc n0 c0, fc m0 d0]), (1, .agg #[fc n1 c1, fc m1 d1]), (2, .agg #[fc n2 c2, fc m2 d2]), (3, .agg #[fc n3 c3, fc m3 d3]), (4, .agg #[fc n4 c4, fc m4 d4]), (5, .agg #[fc n5 c5, fc m5 d5]), (6, .agg #[fc n6 c6, fc m6 d6]), (7, .agg #[fc n7 c7, fc m7 d7]), (8, .agg #[fc n8 c8, fc m8 d8]), (9, .agg #[fc n9 c9, fc m9 d9]), (10, .agg #[fc n10 c10, fc m10 d10]), (11, .agg #[fc n11 c11, fc m11 d11]), (12, .agg #[fc n12 c12, fc m12 d12]), (13, .agg #[fc n13 c13, fc m13 d13]), (14, .agg #[fc n14 c14, fc m14 d14]), (15, .agg #[fc n15 c15, fc m15 d15])]).run Tryz.prog W = .ok (.slice (some ⟨W.heap.size, 0, none⟩) 16 16) (W.alloc (.cells #[fc n0 c0, fc m0 d0, fc n1 c1, fc m1 d1, fc n2 c2, fc m2 d2, fc n3 c3, fc m3 d3, fc n4 c4, fc m4 d4, fc n5 c5, fc m5 d5, fc n6 c6, fc m6 d6, fc n7 c7, fc m7 d7, fc n8 c8, fc m8 d8, fc n9 c9, fc m9 d9, fc n10 c10, fc m10 d10, fc n11 c11, fc m11 d11, fc n12 c12, fc m12 d12, fc n13 c13, fc m13 d13, fc n14 c14, fc m14 d14, fc n15 c15, fc m15 d15] 132)) := by kernel_rfl
set_option maxHeartbeats 8000000 in
set_option maxRecDepth 100000 in
theorem bs5 (n0 m0 n1 m1 n2 m2 n3 m3 n4 m4 : Nat) (c0 d0 c1 d1 c2 d2 c3 d3 c4 d4 : Array Value) (W : World) : (Instr.buildSlice 199 5 #[(0, .agg #[fc n0 c0, fc m0 d0]), (1, .agg #[fc n1 c1, fc m1 d1]), (2, .agg #[fc n2 c2, fc m2 d2]), (3, .agg #[fc n3 c3, fc m3 d3]), (4, .agg #[fc n4 c4, fc m4 d4])]).run Tryz.prog W = .ok (.slice (some ⟨W.heap.size, 0, none⟩) 5 5) (W.alloc (.cells #[fc n0 c0, fc m0 d0, fc n1 c1, fc m1 d1, fc n2 c2, fc m2 d2, fc n3 c3, fc m3 d3, fc n4 c4, fc m4 d4] 132)) := by kernel_rfl
theorem wp_bs16 {P : Program} {o : Oper} {a : Act} {w : World} {K : Act → World → Prop} {Q : Exit → Act → World → Prop} (t : TypeId) (n : Nat) (x0 x1 x2 x3 x4 x5 x6 x7 x8 x9 x10 x11 x12 x13 x14 x15 : Operand)
    (ho : o.op = .buildSlice t n #[(0, x0), (1, x1), (2, x2), (3, x3), (4, x4), (5, x5), (6, x6), (7, x7), (8, x8), (9, x9), (10, x10), (11, x11), (12, x12), (13, x13), (14, x14), (15, x15)]) (u0 u1 u2 u3 u4 u5 u6 u7 u8 u9 u10 u11 u12 u13 u14 u15 : Value) (h0 : a.eval x0 = u0) (h1 : a.eval x1 = u1) (h2 : a.eval x2 = u2) (h3 : a.eval x3 = u3) (h4 : a.eval x4 = u4) (h5 : a.eval x5 = u5) (h6 : a.eval x6 = u6) (h7 : a.eval x7 = u7) (h8 : a.eval x8 = u8) (h9 : a.eval x9 = u9) (h10 : a.eval x10 = u10) (h11 : a.eval x11 = u11) (h12 : a.eval x12 = u12) (h13 : a.eval x13 = u13) (h14 : a.eval x14 = u14) (h15 : a.eval x15 = u15) {v' : Value} {w' : World}
    (hr : (Instr.buildSlice t n #[(0, u0), (1, u1), (2, u2), (3, u3), (4, u4), (5, u5), (6, u6), (7, u7), (8, u8), (9, u9), (10, u10), (11, u11), (12, u12), (13, u13), (14, u14), (15, u15)]).run P w = .ok v' w') (h : K (a.put o.dst v') w') : Oper.wp P o a w K Q := by
  unfold Oper.wp execOp
  simp only [ho, Sem.run_bind, Sem.run_pure, Result.andThen_ok, List.map_toArray, List.map_cons, List.map_nil, h0, h1, h2, h3, h4, h5, h6, h7, h8, h9, h10, h11, h12, h13, h14, h15, hr]
  exact h
theorem wp_bs5 {P : Program} {o : Oper} {a : Act} {w : World} {K : Act → World → Prop} {Q : Exit → Act → World → Prop} (t : TypeId) (n : Nat) (x0 x1 x2 x3 x4 : Operand)
    (ho : o.op = .buildSlice t n #[(0, x0), (1, x1), (2, x2), (3, x3), (4, x4)]) (u0 u1 u2 u3 u4 : Value) (h0 : a.eval x0 = u0) (h1 : a.eval x1 = u1) (h2 : a.eval x2 = u2) (h3 : a.eval x3 = u3) (h4 : a.eval x4 = u4) {v' : Value} {w' : World}
    (hr : (Instr.buildSlice t n #[(0, u0), (1, u1), (2, u2), (3, u3), (4, u4)]).run P w = .ok v' w') (h : K (a.put o.dst v') w') : Oper.wp P o a w K Q := by
  unfold Oper.wp execOp
  simp only [ho, Sem.run_bind, Sem.run_pure, Result.andThen_ok, List.map_toArray, List.map_cons, List.map_nil, h0, h1, h2, h3, h4, hr]
  exact h
set_option maxHeartbeats 8000000 in
set_option maxRecDepth 100000 in
theorem head_c (vb : Nat) (w : World) :
    Calls Tryz.prog 159 #[pa vb 0] w fun e w' => ∃ hb L, e = .returned (.slice (some ⟨hb, 0, none⟩) 16 16) ∧ Parts w' w.heap.size w'.heap.size hMs vb 0 hb L ∧ w.grownBy w' none := by
  go_enter Tryz.func159, Tryz.ntmps159
  go_wp2_with fail
  refine region_Y (S := fun _ => True) [] (by kernel_rfl) ?_
  have hHeld := trivial
  refine wpAnyY_pure (i := 0) (oi := { dst := some 7, op := Op.move (Operand.tmp 0), type := 128, pos := "part.go:32", after := #[], guard := none }) (v := ?_) rfl (by kernel_rfl) (by kernel_rfl) (by kernel_rfl) (by kernel_rfl) (fun _ _ _ h => h) (Or.inl ⟨by rfl, ?_⟩) ?_
  rotate_left
  · (intro w hSw; go_simp; first | done | (with_reducible rfl))
  simp only [Act.put, List.setIfInBounds_toArray, List.set_cons_zero, List.set_cons_succ]
  refine wpAnyY_pure (i := 1) (oi := { dst := some 8, op := Op.nilCheck (Operand.tmp 7), type := 0, pos := "part.go:32", after := #[{ on := 0, ground := Ground.data }], guard := none }) (v := ?_) rfl (by kernel_rfl) (by kernel_rfl) (by kernel_rfl) (by kernel_rfl) (fun _ _ _ h => h) (Or.inl ⟨by rfl, ?_⟩) ?_
  rotate_left
  · (intro w hSw; go_simp; first | done | (with_reducible rfl))
  simp only [Act.put, List.setIfInBounds_toArray, List.set_cons_zero, List.set_cons_succ]
  refine wpAnyY_pure (i := 2) (oi := { dst := some 9, op := Op.fieldAddr 49 (Operand.tmp 8) 0, type := 0, pos := "part.go:32", after := #[{ on := 1, ground := Ground.data }], guard := none }) (v := ?_) rfl (by kernel_rfl) (by kernel_rfl) (by kernel_rfl) (by kernel_rfl) (fun _ _ _ h => h) (Or.inl ⟨by rfl, ?_⟩) ?_
  rotate_left
  · (intro w hSw; go_simp; first | done | (with_reducible rfl))
  simp only [Act.put, List.setIfInBounds_toArray, List.set_cons_zero, List.set_cons_succ]
  refine wpAnyY_pure (i := 4) (oi := { dst := some 11, op := Op.move (Operand.tmp 3), type := 228, pos := "part.go:32", after := #[], guard := none }) (v := ?_) rfl (by kernel_rfl) (by kernel_rfl) (by kernel_rfl) (by kernel_rfl) (fun _ _ _ h => h) (Or.inl ⟨by rfl, ?_⟩) ?_
  rotate_left
  · (intro w hSw; go_simp; first | done | (with_reducible rfl))
  simp only [Act.put, List.setIfInBounds_toArray, List.set_cons_zero, List.set_cons_succ]
  refine wpAnyY_pure (i := 5) (oi := { dst := some 12, op := Op.nilCheck (Operand.tmp 11), type := 0, pos := "part.go:32", after := #[{ on := 4, ground := Ground.data }], guard := none }) (v := ?_) rfl (by kernel_rfl) (by kernel_rfl) (by kernel_rfl) (by kernel_rfl) (fun _ _ _ h => h) (Or.inl ⟨by rfl, ?_⟩) ?_
  rotate_left
  · (intro w hSw; go_simp; first | done | (with_reducible rfl))
  simp only [Act.put, List.setIfInBounds_toArray, List.set_cons_zero, List.set_cons_succ]
  refine wpAnyY_pure (i := 6) (oi := { dst := some 13, op := Op.fieldAddr 46 (Operand.tmp 12) 0, type := 0, pos := "part.go:32", after := #[{ on := 5, ground := Ground.data }], guard := none }) (v := ?_) rfl (by kernel_rfl) (by kernel_rfl) (by kernel_rfl) (by kernel_rfl) (fun _ _ _ h => h) (Or.inl ⟨by rfl, ?_⟩) ?_
  rotate_left
  · (intro w hSw; go_simp; first | done | (with_reducible rfl))
  simp only [Act.put, List.setIfInBounds_toArray, List.set_cons_zero, List.set_cons_succ]
  refine wpAnyY_pure (i := 8) (oi := { dst := some 15, op := Op.move (Operand.tmp 3), type := 228, pos := "part.go:32", after := #[], guard := none }) (v := ?_) rfl (by kernel_rfl) (by kernel_rfl) (by kernel_rfl) (by kernel_rfl) (fun _ _ _ h => h) (Or.inl ⟨by rfl, ?_⟩) ?_
  rotate_left
  · (intro w hSw; go_simp; first | done | (with_reducible rfl))
  simp only [Act.put, List.setIfInBounds_toArray, List.set_cons_zero, List.set_cons_succ]
  refine wpAnyY_pure (i := 9) (oi := { dst := some 16, op := Op.nilCheck (Operand.tmp 15), type := 0, pos := "part.go:32", after := #[{ on := 8, ground := Ground.data }], guard := none }) (v := ?_) rfl (by kernel_rfl) (by kernel_rfl) (by kernel_rfl) (by kernel_rfl) (fun _ _ _ h => h) (Or.inl ⟨by rfl, ?_⟩) ?_
  rotate_left
  · (intro w hSw; go_simp; first | done | (with_reducible rfl))
  simp only [Act.put, List.setIfInBounds_toArray, List.set_cons_zero, List.set_cons_succ]
  refine wpAnyY_pure (i := 10) (oi := { dst := some 17, op := Op.fieldAddr 46 (Operand.tmp 16) 1, type := 0, pos := "part.go:32", after := #[{ on := 9, ground := Ground.data }], guard := none }) (v := ?_) rfl (by kernel_rfl) (by kernel_rfl) (by kernel_rfl) (by kernel_rfl) (fun _ _ _ h => h) (Or.inl ⟨by rfl, ?_⟩) ?_
  rotate_left
  · (intro w hSw; go_simp; first | done | (with_reducible rfl))
  simp only [Act.put, List.setIfInBounds_toArray, List.set_cons_zero, List.set_cons_succ]
  refine wpAnyY_pure (i := 12) (oi := { dst := some 19, op := Op.move (Operand.tmp 3), type := 228, pos := "part.go:32", after := #[], guard := none }) (v := ?_) rfl (by kernel_rfl) (by kernel_rfl) (by kernel_rfl) (by kernel_rfl) (fun _ _ _ h => h) (Or.inl ⟨by rfl, ?_⟩) ?_
  rotate_left
  · (intro w hSw; go_simp; first | done | (with_reducible rfl))
  simp only [Act.put, List.setIfInBounds_toArray, List.set_cons_zero, List.set_cons_succ]
  refine wpAnyY_pure (i := 13) (oi := { dst := some 20, op := Op.nilCheck (Operand.tmp 19), type := 0, pos := "part.go:32", after := #[{ on := 12, ground := Ground.data }], guard := none }) (v := ?_) rfl (by kernel_rfl) (by kernel_rfl) (by kernel_rfl) (by kernel_rfl) (fun _ _ _ h => h) (Or.inl ⟨by rfl, ?_⟩) ?_
  rotate_left
  · (intro w hSw; go_simp; first | done | (with_reducible rfl))
  simp only [Act.put, List.setIfInBounds_toArray, List.set_cons_zero, List.set_cons_succ]
  refine wpAnyY_pure (i := 14) (oi := { dst := some 21, op := Op.fieldAddr 46 (Operand.tmp 20) 2, type := 0, pos := "part.go:32", after := #[{ on := 13, ground := Ground.data }], guard := none }) (v := ?_) rfl (by kernel_rfl) (by kernel_rfl) (by kernel_rfl) (by kernel_rfl) (fun _ _ _ h => h) (Or.inl ⟨by rfl, ?_⟩) ?_
  rotate_left
  · (intro w hSw; go_simp; first | done | (with_reducible rfl))
  simp only [Act.put, List.setIfInBounds_toArray, List.set_cons_zero, List.set_cons_succ]
  refine wpAnyY_pure (i := 15) (oi := { dst := some 22, op := Op.fieldAddr 44 (Operand.tmp 21) 0, type := 0, pos := "part.go:32", after := #[{ on := 14, ground := Ground.data }], guard := none }) (v := ?_) rfl (by kernel_rfl) (by kernel_rfl) (by kernel_rfl) (by kernel_rfl) (fun _ _ _ h => h) (Or.inl ⟨by rfl, ?_⟩) ?_
  rotate_left
  · (intro w hSw; go_simp; first | done | (with_reducible rfl))
  simp only [Act.put, List.setIfInBounds_toArray, List.set_cons_zero, List.set_cons_succ]
  refine wpAnyY_pure (i := 17) (oi := { dst := some 24, op := Op.move (Operand.tmp 3), type := 228, pos := "part.go:32", after := #[], guard := none }) (v := ?_) rfl (by kernel_rfl) (by kernel_rfl) (by kernel_rfl) (by kernel_rfl) (fun _ _ _ h => h) (Or.inl ⟨by rfl, ?_⟩) ?_
  rotate_left
  · (intro w hSw; go_simp; first | done | (with_reducible rfl))
  simp only [Act.put, List.setIfInBounds_toArray, List.set_cons_zero, List.set_cons_succ]
  refine wpAnyY_pure (i := 18) (oi := { dst := some 25, op := Op.nilCheck (Operand.tmp 24), type := 0, pos := "part.go:32", after := #[{ on := 17, ground := Ground.data }], guard := none }) (v := ?_) rfl (by kernel_rfl) (by kernel_rfl) (by kernel_rfl) (by kernel_rfl) (fun _ _ _ h => h) (Or.inl ⟨by rfl, ?_⟩) ?_
  rotate_left
  · (intro w hSw; go_simp; first | done | (with_reducible rfl))
  simp only [Act.put, List.setIfInBounds_toArray, List.set_cons_zero, List.set_cons_succ]
  refine wpAnyY_pure (i := 19) (oi := { dst := some 26, op := Op.fieldAddr 46 (Operand.tmp 25) 2, type := 0, pos := "part.go:32", after := #[{ on := 18, ground := Ground.data }], guard := none }) (v := ?_) rfl (by kernel_rfl) (by kernel_rfl) (by kernel_rfl) (by kernel_rfl) (fun _ _ _ h => h) (Or.inl ⟨by rfl, ?_⟩) ?_
  rotate_left
  · (intro w hSw; go_simp; first | done | (with_reducible rfl))
  simp only [Act.put, List.setIfInBounds_toArray, List.set_cons_zero, List.set_cons_succ]
  refine wpAnyY_pure (i := 20) (oi := { dst := some 27, op := Op.fieldAddr 44 (Operand.tmp 26) 1, type := 0, pos := "part.go:32", after := #[{ on := 19, ground := Ground.data }], guard := none }) (v := ?_) rfl (by kernel_rfl) (by kernel_rfl) (by kernel_rfl) (by kernel_rfl) (fun _ _ _ h => h) (Or.inl ⟨by rfl, ?_⟩) ?_
  rotate_left
  · (intro w hSw; go_simp; first | done | (with_reducible rfl))
  simp only [Act.put, List.setIfInBounds_toArray, List.set_cons_zero, List.set_cons_succ]
  refine wpAnyY_pure (i := 22) (oi := { dst := some 29, op := Op.move (Operand.tmp 3), type := 228, pos := "part.go:32", after := #[], guard := none }) (v := ?_) rfl (by kernel_rfl) (by kernel_rfl) (by kernel_rfl) (by kernel_rfl) (fun _ _ _ h => h) (Or.inl ⟨by rfl, ?_⟩) ?_
  rotate_left
  · (intro w hSw; go_simp; first | done | (with_reducible rfl))
  simp only [Act.put, List.setIfInBounds_toArray, List.set_cons_zero, List.set_cons_succ]
  refine wpAnyY_pure (i := 23) (oi := { dst := some 30, op := Op.nilCheck (Operand.tmp 29), type := 0, pos := "part.go:32", after := #[{ on := 22, ground := Ground.data }], guard := none }) (v := ?_) rfl (by kernel_rfl) (by kernel_rfl) (by kernel_rfl) (by kernel_rfl) (fun _ _ _ h => h) (Or.inl ⟨by rfl, ?_⟩) ?_
  rotate_left
  · (intro w hSw; go_simp; first | done | (with_reducible rfl))
  simp only [Act.put, List.setIfInBounds_toArray, List.set_cons_zero, List.set_cons_succ]
  refine wpAnyY_pure (i := 24) (oi := { dst := some 31, op := Op.fieldAddr 46 (Operand.tmp 30) 3, type := 0, pos := "part.go:32", after := #[{ on := 23, ground := Ground.data }], guard := none }) (v := ?_) rfl (by kernel_rfl) (by kernel_rfl) (by kernel_rfl) (by kernel_rfl) (fun _ _ _ h => h) (Or.inl ⟨by rfl, ?_⟩) ?_
  rotate_left
  · (intro w hSw; go_simp; first | done | (with_reducible rfl))
  simp only [Act.put, List.setIfInBounds_toArray, List.set_cons_zero, List.set_cons_succ]
  refine wpAnyY_pure (i := 25) (oi := { dst := some 32, op := Op.fieldAddr 44 (Operand.tmp 31) 0, type := 0, pos := "part.go:32", after := #[{ on := 24, ground := Ground.data }], guard := none }) (v := ?_) rfl (by kernel_rfl) (by kernel_rfl) (by kernel_rfl) (by kernel_rfl) (fun _ _ _ h => h) (Or.inl ⟨by rfl, ?_⟩) ?_
  rotate_left
  · (intro w hSw; go_simp; first | done | (with_reducible rfl))
  simp only [Act.put, List.setIfInBounds_toArray, List.set_cons_zero, List.set_cons_succ]
  refine wpAnyY_pure (i := 27) (oi := { dst := some 34, op := Op.move (Operand.tmp 3), type := 228, pos := "part.go:32", after := #[], guard := none }) (v := ?_) rfl (by kernel_rfl) (by kernel_rfl) (by kernel_rfl) (by kernel_rfl) (fun _ _ _ h => h) (Or.inl ⟨by rfl, ?_⟩) ?_
  rotate_left
  · (intro w hSw; go_simp; first | done | (with_reducible rfl))
  simp only [Act.put, List.setIfInBounds_toArray, List.set_cons_zero, List.set_cons_succ]
  refine wpAnyY_pure (i := 28) (oi := { dst := some 35, op := Op.nilCheck (Operand.tmp 34), type := 0, pos := "part.go:32", after := #[{ on := 27, ground := Ground.data }], guard := none }) (v := ?_) rfl (by kernel_rfl) (by kernel_rfl) (by kernel_rfl) (by kernel_rfl) (fun _ _ _ h => h) (Or.inl ⟨by rfl, ?_⟩) ?_
  rotate_left
  · (intro w hSw; go_simp; first | done | (with_reducible rfl))
  simp only [Act.put, List.setIfInBounds_toArray, List.set_cons_zero, List.set_cons_succ]
  refine wpAnyY_pure (i := 29) (oi := { dst := some 36, op := Op.fieldAddr 46 (Operand.tmp 35) 3, type := 0, pos := "part.go:32", after := #[{ on := 28, ground := Ground.data }], guard := none }) (v := ?_) rfl (by kernel_rfl) (by kernel_rfl) (by kernel_rfl) (by kernel_rfl) (fun _ _ _ h => h) (Or.inl ⟨by rfl, ?_⟩) ?_
  rotate_left
  · (intro w hSw; go_simp; first | done | (with_reducible rfl))
  simp only [Act.put, List.setIfInBounds_toArray, List.set_cons_zero, List.set_cons_succ]
  refine wpAnyY_pure (i := 30) (oi := { dst := some 37, op := Op.fieldAddr 44 (Operand.tmp 36) 1, type := 0, pos := "part.go:32", after := #[{ on := 29, ground := Ground.data }], guard := none }) (v := ?_) rfl (by kernel_rfl) (by kernel_rfl) (by kernel_rfl) (by kernel_rfl) (fun _ _ _ h => h) (Or.inl ⟨by rfl, ?_⟩) ?_
  rotate_left
  · (intro w hSw; go_simp; first | done | (with_reducible rfl))
  simp only [Act.put, List.setIfInBounds_toArray, List.set_cons_zero, List.set_cons_succ]
  refine wpAnyY_pure (i := 32) (oi := { dst := some 39, op := Op.move (Operand.tmp 3), type := 228, pos := "part.go:32", after := #[], guard := none }) (v := ?_) rfl (by kernel_rfl) (by kernel_rfl) (by kernel_rfl) (by kernel_rfl) (fun _ _ _ h => h) (Or.inl ⟨by rfl, ?_⟩) ?_
  rotate_left
  · (intro w hSw; go_simp; first | done | (with_reducible rfl))
  simp only [Act.put, List.setIfInBounds_toArray, List.set_cons_zero, List.set_cons_succ]
  refine wpAnyY_pure (i := 33) (oi := { dst := some 40, op := Op.nilCheck (Operand.tmp 39), type := 0, pos := "part.go:32", after := #[{ on := 32, ground := Ground.data }], guard := none }) (v := ?_) rfl (by kernel_rfl) (by kernel_rfl) (by kernel_rfl) (by kernel_rfl) (fun _ _ _ h => h) (Or.inl ⟨by rfl, ?_⟩) ?_
  rotate_left
  · (intro w hSw; go_simp; first | done | (with_reducible rfl))
  simp only [Act.put, List.setIfInBounds_toArray, List.set_cons_zero, List.set_cons_succ]
  refine wpAnyY_pure (i := 34) (oi := { dst := some 41, op := Op.fieldAddr 46 (Operand.tmp 40) 4, type := 0, pos := "part.go:32", after := #[{ on := 33, ground := Ground.data }], guard := none }) (v := ?_) rfl (by kernel_rfl) (by kernel_rfl) (by kernel_rfl) (by kernel_rfl) (fun _ _ _ h => h) (Or.inl ⟨by rfl, ?_⟩) ?_
  rotate_left
  · (intro w hSw; go_simp; first | done | (with_reducible rfl))
  simp only [Act.put, List.setIfInBounds_toArray, List.set_cons_zero, List.set_cons_succ]
  refine wpAnyY_pure (i := 36) (oi := { dst := some 43, op := Op.move (Operand.tmp 3), type := 228, pos := "part.go:32", after := #[], guard := none }) (v := ?_) rfl (by kernel_rfl) (by kernel_rfl) (by kernel_rfl) (by kernel_rfl) (fun _ _ _ h => h) (Or.inl ⟨by rfl, ?_⟩) ?_
  rotate_left
  · (intro w hSw; go_simp; first | done | (with_reducible rfl))
  simp only [Act.put, List.setIfInBounds_toArray, List.set_cons_zero, List.set_cons_succ]
  refine wpAnyY_pure (i := 37) (oi := { dst := some 44, op := Op.nilCheck (Operand.tmp 43), type := 0, pos := "part.go:32", after := #[{ on := 36, ground := Ground.data }], guard := none }) (v := ?_) rfl (by kernel_rfl) (by kernel_rfl) (by kernel_rfl) (by kernel_rfl) (fun _ _ _ h => h) (Or.inl ⟨by rfl, ?_⟩) ?_
  rotate_left
  · (intro w hSw; go_simp; first | done | (with_reducible rfl))
  simp only [Act.put, List.setIfInBounds_toArray, List.set_cons_zero, List.set_cons_succ]
  refine wpAnyY_pure (i := 38) (oi := { dst := some 45, op := Op.fieldAddr 46 (Operand.tmp 44) 5, type := 0, pos := "part.go:32", after := #[{ on := 37, ground := Ground.data }], guard := none }) (v := ?_) rfl (by kernel_rfl) (by kernel_rfl) (by kernel_rfl) (by kernel_rfl) (fun _ _ _ h => h) (Or.inl ⟨by rfl, ?_⟩) ?_
  rotate_left
  · (intro w hSw; go_simp; first | done | (with_reducible rfl))
  simp only [Act.put, List.setIfInBounds_toArray, List.set_cons_zero, List.set_cons_succ]
  refine wpAnyY_pure (i := 40) (oi := { dst := some 47, op := Op.move (Operand.tmp 3), type := 228, pos := "part.go:32", after := #[], guard := none }) (v := ?_) rfl (by kernel_rfl) (by kernel_rfl) (by kernel_rfl) (by kernel_rfl) (fun _ _ _ h => h) (Or.inl ⟨by rfl, ?_⟩) ?_
  rotate_left
  · (intro w hSw; go_simp; first | done | (with_reducible rfl))
  simp only [Act.put, List.setIfInBounds_toArray, List.set_cons_zero, List.set_cons_succ]
  refine wpAnyY_pure (i := 41) (oi := { dst := some 48, op := Op.nilCheck (Operand.tmp 47), type := 0, pos := "part.go:32", after := #[{ on := 40, ground := Ground.data }], guard := none }) (v := ?_) rfl (by kernel_rfl) (by kernel_rfl) (by kernel_rfl) (by kernel_rfl) (fun _ _ _ h => h) (Or.inl ⟨by rfl, ?_⟩) ?_
  rotate_left
  · (intro w hSw; go_simp; first | done | (with_reducible rfl))
  simp only [Act.put, List.setIfInBounds_toArray, List.set_cons_zero, List.set_cons_succ]
  refine wpAnyY_pure (i := 42) (oi := { dst := some 49, op := Op.fieldAddr 46 (Operand.tmp 48) 6, type := 0, pos := "part.go:32", after := #[{ on := 41, ground := Ground.data }], guard := none }) (v := ?_) rfl (by kernel_rfl) (by kernel_rfl) (by kernel_rfl) (by kernel_rfl) (fun _ _ _ h => h) (Or.inl ⟨by rfl, ?_⟩) ?_
  rotate_left
  · (intro w hSw; go_simp; first | done | (with_reducible rfl))
  simp only [Act.put, List.setIfInBounds_toArray, List.set_cons_zero, List.set_cons_succ]
  refine wpAnyY_pure (i := 44) (oi := { dst := some 51, op := Op.move (Operand.tmp 3), type := 228, pos := "part.go:32", after := #[], guard := none }) (v := ?_) rfl (by kernel_rfl) (by kernel_rfl) (by kernel_rfl) (by kernel_rfl) (fun _ _ _ h => h) (Or.inl ⟨by rfl, ?_⟩) ?_
  rotate_left
  · (intro w hSw; go_simp; first | done | (with_reducible rfl))
  simp only [Act.put, List.setIfInBounds_toArray, List.set_cons_zero, List.set_cons_succ]
  refine wpAnyY_pure (i := 45) (oi := { dst := some 52, op := Op.nilCheck (Operand.tmp 51), type := 0, pos := "part.go:32", after := #[{ on := 44, ground := Ground.data }], guard := none }) (v := ?_) rfl (by kernel_rfl) (by kernel_rfl) (by kernel_rfl) (by kernel_rfl) (fun _ _ _ h => h) (Or.inl ⟨by rfl, ?_⟩) ?_
  rotate_left
  · (intro w hSw; go_simp; first | done | (with_reducible rfl))
  simp only [Act.put, List.setIfInBounds_toArray, List.set_cons_zero, List.set_cons_succ]
  refine wpAnyY_pure (i := 46) (oi := { dst := some 53, op := Op.fieldAddr 46 (Operand.tmp 52) 7, type := 0, pos := "part.go:32", after := #[{ on := 45, ground := Ground.data }], guard := none }) (v := ?_) rfl (by kernel_rfl) (by kernel_rfl) (by kernel_rfl) (by kernel_rfl) (fun _ _ _ h => h) (Or.inl ⟨by rfl, ?_⟩) ?_
  rotate_left
  · (intro w hSw; go_simp; first | done | (with_reducible rfl))
  simp only [Act.put, List.setIfInBounds_toArray, List.set_cons_zero, List.set_cons_succ]
  refine wpAnyY_pure (i := 48) (oi := { dst := some 55, op := Op.move (Operand.tmp 3), type := 228, pos := "part.go:32", after := #[], guard := none }) (v := ?_) rfl (by kernel_rfl) (by kernel_rfl) (by kernel_rfl) (by kernel_rfl) (fun _ _ _ h => h) (Or.inl ⟨by rfl, ?_⟩) ?_
  rotate_left
  · (intro w hSw; go_simp; first | done | (with_reducible rfl))
  simp only [Act.put, List.setIfInBounds_toArray, List.set_cons_zero, List.set_cons_succ]
  refine wpAnyY_pure (i := 49) (oi := { dst := some 56, op := Op.nilCheck (Operand.tmp 55), type := 0, pos := "part.go:32", after := #[{ on := 48, ground := Ground.data }], guard := none }) (v := ?_) rfl (by kernel_rfl) (by kernel_rfl) (by kernel_rfl) (by kernel_rfl) (fun _ _ _ h => h) (Or.inl ⟨by rfl, ?_⟩) ?_
  rotate_left
  · (intro w hSw; go_simp; first | done | (with_reducible rfl))
  simp only [Act.put, List.setIfInBounds_toArray, List.set_cons_zero, List.set_cons_succ]
  refine wpAnyY_pure (i := 50) (oi := { dst := some 57, op := Op.fieldAddr 46 (Operand.tmp 56) 8, type := 0, pos := "part.go:32", after := #[{ on := 49, ground := Ground.data }], guard := none }) (v := ?_) rfl (by kernel_rfl) (by kernel_rfl) (by kernel_rfl) (by kernel_rfl) (fun _ _ _ h => h) (Or.inl ⟨by rfl, ?_⟩) ?_
  rotate_left
  · (intro w hSw; go_simp; first | done | (with_reducible rfl))
  simp only [Act.put, List.setIfInBounds_toArray, List.set_cons_zero, List.set_cons_succ]
  refine wpAnyY_pure (i := 52) (oi := { dst := some 59, op := Op.move (Operand.tmp 3), type := 228, pos := "part.go:32", after := #[], guard := none }) (v := ?_) rfl (by kernel_rfl) (by kernel_rfl) (by kernel_rfl) (by kernel_rfl) (fun _ _ _ h => h) (Or.inl ⟨by rfl, ?_⟩) ?_
  rotate_left
  · (intro w hSw; go_simp; first | done | (with_reducible rfl))
  simp only [Act.put, List.setIfInBounds_toArray, List.set_cons_zero, List.set_cons_succ]
  refine wpAnyY_pure (i := 53) (oi := { dst := some 60, op := Op.nilCheck (Operand.tmp 59), type := 0, pos := "part.go:32", after := #[{ on := 52, ground := Ground.data }], guard := none }) (v := ?_) rfl (by kernel_rfl) (by kernel_rfl) (by kernel_rfl) (by kernel_rfl) (fun _ _ _ h => h) (Or.inl ⟨by rfl, ?_⟩) ?_
  rotate_left
  · (intro w hSw; go_simp; first | done | (with_reducible rfl))
  simp only [Act.put, List.setIfInBounds_toArray, List.set_cons_zero, List.set_cons_succ]
  refine wpAnyY_pure (i := 54) (oi := { dst := some 61, op := Op.fieldAddr 46 (Operand.tmp 60) 9, type := 0, pos := "part.go:32", after := #[{ on := 53, ground := Ground.data }], guard := none }) (v := ?_) rfl (by kernel_rfl) (by kernel_rfl) (by kernel_rfl) (by kernel_rfl) (fun _ _ _ h => h) (Or.inl ⟨by rfl, ?_⟩) ?_
  rotate_left
  · (intro w hSw; go_simp; first | done | (with_reducible rfl))
  simp only [Act.put, List.setIfInBounds_toArray, List.set_cons_zero, List.set_cons_succ]
  refine wpAnyY_pure (i := 56) (oi := { dst := some 63, op := Op.move (Operand.tmp 3), type := 228, pos := "part.go:32", after := #[], guard := none }) (v := ?_) rfl (by kernel_rfl) (by kernel_rfl) (by kernel_rfl) (by kernel_rfl) (fun _ _ _ h => h) (Or.inl ⟨by rfl, ?_⟩) ?_
  rotate_left
  · (intro w hSw; go_simp; first | done | (with_reducible rfl))
  simp only [Act.put, List.setIfInBounds_toArray, List.set_cons_zero, List.set_cons_succ]
  refine wpAnyY_pure (i := 57) (oi := { dst := some 64, op := Op.nilCheck (Operand.tmp 63), type := 0, pos := "part.go:32", after := #[{ on := 56, ground := Ground.data }], guard := none }) (v := ?_) rfl (by kernel_rfl) (by kernel_rfl) (by kernel_rfl) (by kernel_rfl) (fun _ _ _ h => h) (Or.inl ⟨by rfl, ?_⟩) ?_
  rotate_left
  · (intro w hSw; go_simp; first | done | (with_reducible rfl))
  simp only [Act.put, List.setIfInBounds_toArray, List.set_cons_zero, List.set_cons_succ]
  refine wpAnyY_pure (i := 58) (oi := { dst := some 65, op := Op.fieldAddr 46 (Operand.tmp 64) 10, type := 0, pos := "part.go:32", after := #[{ on := 57, ground := Ground.data }], guard := none }) (v := ?_) rfl (by kernel_rfl) (by kernel_rfl) (by kernel_rfl) (by kernel_rfl) (fun _ _ _ h => h) (Or.inl ⟨by rfl, ?_⟩) ?_
  rotate_left
  · (intro w hSw; go_simp; first | done | (with_reducible rfl))
  simp only [Act.put, List.setIfInBounds_toArray, List.set_cons_zero, List.set_cons_succ]
  refine wpAnyY_pure (i := 60) (oi := { dst := some 67, op := Op.move (Operand.tmp 3), type := 228, pos := "part.go:32", after := #[], guard := none }) (v := ?_) rfl (by kernel_rfl) (by kernel_rfl) (by kernel_rfl) (by kernel_rfl) (fun _ _ _ h => h) (Or.inl ⟨by rfl, ?_⟩) ?_
  rotate_left
  · (intro w hSw; go_simp; first | done | (with_reducible rfl))
  simp only [Act.put, List.setIfInBounds_toArray, List.set_cons_zero, List.set_cons_succ]
  refine wpAnyY_pure (i := 61) (oi := { dst := some 68, op := Op.nilCheck (Operand.tmp 67), type := 0, pos := "part.go:32", after := #[{ on := 60, ground := Ground.data }], guard := none }) (v := ?_) rfl (by kernel_rfl) (by kernel_rfl) (by kernel_rfl) (by kernel_rfl) (fun _ _ _ h => h) (Or.inl ⟨by rfl, ?_⟩) ?_
  rotate_left
  · (intro w hSw; go_simp; first | done | (with_reducible rfl))
  simp only [Act.put, List.setIfInBounds_toArray, List.set_cons_zero, List.set_cons_succ]
  refine wpAnyY_pure (i := 62) (oi := { dst := some 69, op := Op.fieldAddr 46 (Operand.tmp 68) 11, type := 0, pos := "part.go:32", after := #[{ on := 61, ground := Ground.data }], guard := none }) (v := ?_) rfl (by kernel_rfl) (by kernel_rfl) (by kernel_rfl) (by kernel_rfl) (fun _ _ _ h => h) (Or.inl ⟨by rfl, ?_⟩) ?_
  rotate_left
  · (intro w hSw; go_simp; first | done | (with_reducible rfl))
  simp only [Act.put, List.setIfInBounds_toArray, List.set_cons_zero, List.set_cons_succ]
  refine wpAnyY_pure (i := 64) (oi := { dst := some 71, op := Op.move (Operand.tmp 0), type := 128, pos := "part.go:32", after := #[], guard := none }) (v := ?_) rfl (by kernel_rfl) (by kernel_rfl) (by kernel_rfl) (by kernel_rfl) (fun _ _ _ h => h) (Or.inl ⟨by rfl, ?_⟩) ?_
  rotate_left
  · (intro w hSw; go_simp; first | done | (with_reducible rfl))
  simp only [Act.put, List.setIfInBounds_toArray, List.set_cons_zero, List.set_cons_succ]
  refine wpAnyY_pure (i := 65) (oi := { dst := some 72, op := Op.nilCheck (Operand.tmp 71), type := 0, pos := "part.go:32", after := #[{ on := 64, ground := Ground.data }], guard := none }) (v := ?_) rfl (by kernel_rfl) (by kernel_rfl) (by kernel_rfl) (by kernel_rfl) (fun _ _ _ h => h) (Or.inl ⟨by rfl, ?_⟩) ?_
  rotate_left
  · (intro w hSw; go_simp; first | done | (with_reducible rfl))
  simp only [Act.put, List.setIfInBounds_toArray, List.set_cons_zero, List.set_cons_succ]
  refine wpAnyY_pure (i := 66) (oi := { dst := some 73, op := Op.fieldAddr 49 (Operand.tmp 72) 2, type := 0, pos := "part.go:32", after := #[{ on := 65, ground := Ground.data }], guard := none }) (v := ?_) rfl (by kernel_rfl) (by kernel_rfl) (by kernel_rfl) (by kernel_rfl) (fun _ _ _ h => h) (Or.inl ⟨by rfl, ?_⟩) ?_
  rotate_left
  · (intro w hSw; go_simp; first | done | (with_reducible rfl))
  simp only [Act.put, List.setIfInBounds_toArray, List.set_cons_zero, List.set_cons_succ]
  refine wpAnyY_one (i := 3) (o := { dst := some 10, op := Op.call { callee := Callee.value (Operand.func 195), args := #[Operand.tmp 9, Operand.const (Value.int IntKind.i64 8)], argTypes := #[190, 3] }, type := 132, pos := "part.go:33", after := #[{ on := 2, ground := Ground.data }], guard := none }) (by kernel_rfl) rfl (fun K hK => ?_)
  go_simp
  refine (plainU vb 0 _).mono ?_
  rintro e w0 ⟨vl, vt, rfl, p, g⟩
  obtain ⟨n0, c0, m0, d0, rfl, rfl, l, tk⟩ := p
  refine hK.out _ _ (fun _ => trivial) ?_
  clear hK K
  have HG0 : Keep (w.grownBy w0 none) := ⟨World.grownBy.trans (gr_drew _ none) g⟩
  have HP0 : Keep (PartC w0 w.heap.size w0.heap.size .U vb 0 (fc n0 c0) (fc m0 d0)) := ⟨(show PartC w0 w.heap.size w0.heap.size .U vb 0 (fc n0 c0) (fc m0 d0) from ⟨n0, c0, m0, d0, rfl, rfl, l, tk⟩).kept (Kpt.refl _ _ _) (Nat.le_refl _) (Nat.le_refl _)⟩
  clear g l tk
  refine wpAnyY_one (i := 7) (o := { dst := some 14, op := Op.call { callee := Callee.value (Operand.func 196), args := #[Operand.tmp 13, Operand.const (Value.int IntKind.i64 1)], argTypes := #[193, 3] }, type := 132, pos := "part.go:34", after := #[{ on := 6, ground := Ground.data }, { on := 3, ground := Ground.chain }], guard := none }) (by kernel_rfl) rfl (fun K hK => ?_)
  go_simp
  refine (plainI vb 1 _).mono ?_
  rintro e w1 ⟨vl, vt, rfl, p, g⟩
  obtain ⟨n1, c1, m1, d1, rfl, rfl, l, tk⟩ := p
  refine hK.out _ _ (fun _ => trivial) ?_
  clear hK K
  have HG1 : Keep (w.grownBy w1 none) := ⟨World.grownBy.trans (HG0.out) g⟩
  have HS1 := Keep.mk g
  have HP1 : Keep (PartC w1 w.heap.size w1.heap.size .I vb 1 (fc n1 c1) (fc m1 d1)) := ⟨(show PartC w1 w0.heap.size w1.heap.size .I vb 1 (fc n1 c1) (fc m1 d1) from ⟨n1, c1, m1, d1, rfl, rfl, l, tk⟩).kept (Kpt.refl _ _ _) HG0.out.size (Nat.le_refl _)⟩
  clear g l tk
  refine wpAnyY_one (i := 11) (o := { dst := some 18, op := Op.call { callee := Callee.value (Operand.func 197), args := #[Operand.tmp 17], argTypes := #[185] }, type := 132, pos := "part.go:35", after := #[{ on := 10, ground := Ground.data }, { on := 7, ground := Ground.chain }], guard := none }) (by kernel_rfl) rfl (fun K hK => ?_)
  go_simp
  refine (textP vb 2 _).mono ?_
  rintro e w2 ⟨vl, vt, rfl, p, g⟩
  obtain ⟨n2, c2, m2, d2, rfl, rfl, l, tk⟩ := p
  refine hK.out _ _ (fun _ => trivial) ?_
  clear hK K
  have HG2 : Keep (w.grownBy w2 none) := ⟨World.grownBy.trans (HG1.out) g⟩
  have HS2 := Keep.mk g
  have HP2 : Keep (PartC w2 w.heap.size w2.heap.size .T vb 2 (fc n2 c2) (fc m2 d2)) := ⟨(show PartC w2 w1.heap.size w2.heap.size .T vb 2 (fc n2 c2) (fc m2 d2) from ⟨n2, c2, m2, d2, rfl, rfl, l, tk⟩).kept (Kpt.refl _ _ _) HG1.out.size (Nat.le_refl _)⟩
  clear g l tk
  refine wpAnyY_one (i := 16) (o := { dst := some 23, op := Op.call { callee := Callee.value (Operand.func 198), args := #[Operand.tmp 22], argTypes := #[233] }, type := 132, pos := "part.go:36", after := #[{ on := 15, ground := Ground.data }, { on := 11, ground := Ground.chain }], guard := none }) (by kernel_rfl) rfl (fun K hK => ?_)
  go_simp
  refine (signL vb 3 _).mono ?_
  rintro e w3 ⟨vl, vt, rfl, p, g⟩
  obtain ⟨n3, c3, m3, d3, rfl, rfl, l, tk⟩ := p
  refine hK.out _ _ (fun _ => trivial) ?_
  clear hK K
  have HG3 : Keep (w.grownBy w3 none) := ⟨World.grownBy.trans (HG2.out) g⟩
  have HS3 := Keep.mk g
  have HP3 : Keep (PartC w3 w.heap.size w3.heap.size .S vb 3 (fc n3 c3) (fc m3 d3)) := ⟨(show PartC w3 w2.heap.size w3.heap.size .S vb 3 (fc n3 c3) (fc m3 d3) from ⟨n3, c3, m3, d3, rfl, rfl, l, tk⟩).kept (Kpt.refl _ _ _) HG2.out.size (Nat.le_refl _)⟩
  clear g l tk
  refine wpAnyY_one (i := 21) (o := { dst := some 28, op := Op.call { callee := Callee.value (Operand.func 198), args := #[Operand.tmp 27], argTypes := #[233] }, type := 132, pos := "part.go:36", after := #[{ on := 20, ground := Ground.data }, { on := 16, ground := Ground.chain }], guard := none }) (by kernel_rfl) rfl (fun K hK => ?_)
  go_simp
  refine (signL vb 4 _).mono ?_
  rintro e w4 ⟨vl, vt, rfl, p, g⟩
  obtain ⟨n4, c4, m4, d4, rfl, rfl, l, tk⟩ := p
  refine hK.out _ _ (fun _ => trivial) ?_
  clear hK K
  have HG4 : Keep (w.grownBy w4 none) := ⟨World.grownBy.trans (HG3.out) g⟩
  have HS4 := Keep.mk g
  have HP4 : Keep (PartC w4 w.heap.size w4.heap.size .S vb 4 (fc n4 c4) (fc m4 d4)) := ⟨(show PartC w4 w3.heap.size w4.heap.size .S vb 4 (fc n4 c4) (fc m4 d4) from ⟨n4, c4, m4, d4, rfl, rfl, l, tk⟩).kept (Kpt.refl _ _ _) HG3.out.size (Nat.le_refl _)⟩
  clear g l tk
  refine wpAnyY_one (i := 26) (o := { dst := some 33, op := Op.call { callee := Callee.value (Operand.func 198), args := #[Operand.tmp 32], argTypes := #[233] }, type := 132, pos := "part.go:37", after := #[{ on := 25, ground := Ground.data }, { on := 21, ground := Ground.chain }], guard := none }) (by kernel_rfl) rfl (fun K hK => ?_)
  go_simp
  refine (signL vb 5 _).mono ?_
  rintro e w5 ⟨vl, vt, rfl, p, g⟩
  obtain ⟨n5, c5, m5, d5, rfl, rfl, l, tk⟩ := p
  refine hK.out _ _ (fun _ => trivial) ?_
  clear hK K
  have HG5 : Keep (w.grownBy w5 none) := ⟨World.grownBy.trans (HG4.out) g⟩
  have HS5 := Keep.mk g
  have HP5 : Keep (PartC w5 w.heap.size w5.heap.size .S vb 5 (fc n5 c5) (fc m5 d5)) := ⟨(show PartC w5 w4.heap.size w5.heap.size .S vb 5 (fc n5 c5) (fc m5 d5) from ⟨n5, c5, m5, d5, rfl, rfl, l, tk⟩).kept (Kpt.refl _ _ _) HG4.out.size (Nat.le_refl _)⟩
  clear g l tk
  refine wpAnyY_one (i := 31) (o := { dst := some 38, op := Op.call { callee := Callee.value (Operand.func 198), args := #[Operand.tmp 37], argTypes := #[233] }, type := 132, pos := "part.go:37", after := #[{ on := 30, ground := Ground.data }, { on := 26, ground := Ground.chain }], guard := none }) (by kernel_rfl) rfl (fun K hK => ?_)
  go_simp
  refine (signL vb 6 _).mono ?_
  rintro e w6 ⟨vl, vt, rfl, p, g⟩
  obtain ⟨n6, c6, m6, d6, rfl, rfl, l, tk⟩ := p
  refine hK.out _ _ (fun _ => trivial) ?_
  clear hK K
  have HG6 : Keep (w.grownBy w6 none) := ⟨World.grownBy.trans (HG5.out) g⟩
  have HS6 := Keep.mk g
  have HP6 : Keep (PartC w6 w.heap.size w6.heap.size .S vb 6 (fc n6 c6) (fc m6 d6)) := ⟨(show PartC w6 w5.heap.size w6.heap.size .S vb 6 (fc n6 c6) (fc m6 d6) from ⟨n6, c6, m6, d6, rfl, rfl, l, tk⟩).kept (Kpt.refl _ _ _) HG5.out.size (Nat.le_refl _)⟩
  clear g l tk
  refine wpAnyY_one (i := 35) (o := { dst := some 42, op := Op.call { callee := Callee.value (Operand.func 199), args := #[Operand.tmp 41], argTypes := #[193] }, type := 132, pos := "part.go:38", after := #[{ on := 34, ground := Ground.data }, { on := 31, ground := Ground.chain }], guard := none }) (by kernel_rfl) rfl (fun K hK => ?_)
  go_simp
  refine (signN vb 7 _).mono ?_
  rintro e w7 ⟨vl, vt, rfl, p, g⟩
  obtain ⟨n7, c7, m7, d7, rfl, rfl, l, tk⟩ := p
  refine hK.out _ _ (fun _ => trivial) ?_
  clear hK K
  have HG7 : Keep (w.grownBy w7 none) := ⟨World.grownBy.trans (HG6.out) g⟩
  have HS7 := Keep.mk g
  have HP7 : Keep (PartC w7 w.heap.size w7.heap.size .S vb 7 (fc n7 c7) (fc m7 d7)) := ⟨(show PartC w7 w6.heap.size w7.heap.size .S vb 7 (fc n7 c7) (fc m7 d7) from ⟨n7, c7, m7, d7, rfl, rfl, l, tk⟩).kept (Kpt.refl _ _ _) HG6.out.size (Nat.le_refl _)⟩
  clear g l tk
  refine wpAnyY_one (i := 39) (o := { dst := some 46, op := Op.call { callee := Callee.value (Operand.func 199), args := #[Operand.tmp 45], argTypes := #[193] }, type := 132, pos := "part.go:39", after := #[{ on := 38, ground := Ground.data }, { on := 35, ground := Ground.chain }], guard := none }) (by kernel_rfl) rfl (fun K hK => ?_)
  go_simp
  refine (signN vb 8 _).mono ?_
  rintro e w8 ⟨vl, vt, rfl, p, g⟩
  obtain ⟨n8, c8, m8, d8, rfl, rfl, l, tk⟩ := p
  refine hK.out _ _ (fun _ => trivial) ?_
  clear hK K
  have HG8 : Keep (w.grownBy w8 none) := ⟨World.grownBy.trans (HG7.out) g⟩
  have HS8 := Keep.mk g
  have HP8 : Keep (PartC w8 w.heap.size w8.heap.size .S vb 8 (fc n8 c8) (fc m8 d8)) := ⟨(show PartC w8 w7.heap.size w8.heap.size .S vb 8 (fc n8 c8) (fc m8 d8) from ⟨n8, c8, m8, d8, rfl, rfl, l, tk⟩).kept (Kpt.refl _ _ _) HG7.out.size (Nat.le_refl _)⟩
  clear g l tk
  refine wpAnyY_one (i := 43) (o := { dst := some 50, op := Op.call { callee := Callee.value (Operand.func 199), args := #[Operand.tmp 49], argTypes := #[193] }, type := 132, pos := "part.go:40", after := #[{ on := 42, ground := Ground.data }, { on := 39, ground := Ground.chain }], guard := none }) (by kernel_rfl) rfl (fun K hK => ?_)
  go_simp
  refine (signN vb 9 _).mono ?_
  rintro e w9 ⟨vl, vt, rfl, p, g⟩
  obtain ⟨n9, c9, m9, d9, rfl, rfl, l, tk⟩ := p
  refine hK.out _ _ (fun _ => trivial) ?_
  clear hK K
  have HG9 : Keep (w.grownBy w9 none) := ⟨World.grownBy.trans (HG8.out) g⟩
  have HS9 := Keep.mk g
  have HP9 : Keep (PartC w9 w.heap.size w9.heap.size .S vb 9 (fc n9 c9) (fc m9 d9)) := ⟨(show PartC w9 w8.heap.size w9.heap.size .S vb 9 (fc n9 c9) (fc m9 d9) from ⟨n9, c9, m9, d9, rfl, rfl, l, tk⟩).kept (Kpt.refl _ _ _) HG8.out.size (Nat.le_refl _)⟩
  clear g l tk
  refine wpAnyY_one (i := 47) (o := { dst := some 54, op := Op.call { callee := Callee.value (Operand.func 199), args := #[Operand.tmp 53], argTypes := #[193] }, type := 132, pos := "part.go:41", after := #[{ on := 46, ground := Ground.data }, { on := 43, ground := Ground.chain }], guard := none }) (by kernel_rfl) rfl (fun K hK => ?_)
  go_simp
  refine (signN vb 10 _).mono ?_
  rintro e w10 ⟨vl, vt, rfl, p, g⟩
  obtain ⟨n10, c10, m10, d10, rfl, rfl, l, tk⟩ := p
  refine hK.out _ _ (fun _ => trivial) ?_
  clear hK K
  have HG10 : Keep (w.grownBy w10 none) := ⟨World.grownBy.trans (HG9.out) g⟩
  have HS10 := Keep.mk g
  have HP10 : Keep (PartC w10 w.heap.size w10.heap.size .S vb 10 (fc n10 c10) (fc m10 d10)) := ⟨(show PartC w10 w9.heap.size w10.heap.size .S vb 10 (fc n10 c10) (fc m10 d10) from ⟨n10, c10, m10, d10, rfl, rfl, l, tk⟩).kept (Kpt.refl _ _ _) HG9.out.size (Nat.le_refl _)⟩
  clear g l tk
  refine wpAnyY_one (i := 51) (o := { dst := some 58, op := Op.call { callee := Callee.value (Operand.func 199), args := #[Operand.tmp 57], argTypes := #[193] }, type := 132, pos := "part.go:42", after := #[{ on := 50, ground := Ground.data }, { on := 47, ground := Ground.chain }], guard := none }) (by kernel_rfl) rfl (fun K hK => ?_)
  go_simp
  refine (signN vb 11 _).mono ?_
  rintro e w11 ⟨vl, vt, rfl, p, g⟩
  obtain ⟨n11, c11, m11, d11, rfl, rfl, l, tk⟩ := p
  refine hK.out _ _ (fun _ => trivial) ?_
  clear hK K
  have HG11 : Keep (w.grownBy w11 none) := ⟨World.grownBy.trans (HG10.out) g⟩
  have HS11 := Keep.mk g
  have HP11 : Keep (PartC w11 w.heap.size w11.heap.size .S vb 11 (fc n11 c11) (fc m11 d11)) := ⟨(show PartC w11 w10.heap.size w11.heap.size .S vb 11 (fc n11 c11) (fc m11 d11) from ⟨n11, c11, m11, d11, rfl, rfl, l, tk⟩).kept (Kpt.refl _ _ _) HG10.out.size (Nat.le_refl _)⟩
  clear g l tk
  refine wpAnyY_one (i := 55) (o := { dst := some 62, op := Op.call { callee := Callee.value (Operand.func 199), args := #[Operand.tmp 61], argTypes := #[193] }, type := 132, pos := "part.go:43", after := #[{ on := 54, ground := Ground.data }, { on := 51, ground := Ground.chain }], guard := none }) (by kernel_rfl) rfl (fun K hK => ?_)
  go_simp
  refine (signN vb 12 _).mono ?_
  rintro e w12 ⟨vl, vt, rfl, p, g⟩
  obtain ⟨n12, c12, m12, d12, rfl, rfl, l, tk⟩ := p
  refine hK.out _ _ (fun _ => trivial) ?_
  clear hK K
  have HG12 : Keep (w.grownBy w12 none) := ⟨World.grownBy.trans (HG11.out) g⟩
  have HS12 := Keep.mk g
  have HP12 : Keep (PartC w12 w.heap.size w12.heap.size .S vb 12 (fc n12 c12) (fc m12 d12)) := ⟨(show PartC w12 w11.heap.size w12.heap.size .S vb 12 (fc n12 c12) (fc m12 d12) from ⟨n12, c12, m12, d12, rfl, rfl, l, tk⟩).kept (Kpt.refl _ _ _) HG11.out.size (Nat.le_refl _)⟩
  clear g l tk
  refine wpAnyY_one (i := 59) (o := { dst := some 66, op := Op.call { callee := Callee.value (Operand.func 199), args := #[Operand.tmp 65], argTypes := #[193] }, type := 132, pos := "part.go:44", after := #[{ on := 58, ground := Ground.data }, { on := 55, ground := Ground.chain }], guard := none }) (by kernel_rfl) rfl (fun K hK => ?_)
  go_simp
  refine (signN vb 13 _).mono ?_
  rintro e w13 ⟨vl, vt, rfl, p, g⟩
  obtain ⟨n13, c13, m13, d13, rfl, rfl, l, tk⟩ := p
  refine hK.out _ _ (fun _ => trivial) ?_
  clear hK K
  have HG13 : Keep (w.grownBy w13 none) := ⟨World.grownBy.trans (HG12.out) g⟩
  have HS13 := Keep.mk g
  have HP13 : Keep (PartC w13 w.heap.size w13.heap.size .S vb 13 (fc n13 c13) (fc m13 d13)) := ⟨(show PartC w13 w12.heap.size w13.heap.size .S vb 13 (fc n13 c13) (fc m13 d13) from ⟨n13, c13, m13, d13, rfl, rfl, l, tk⟩).kept (Kpt.refl _ _ _) HG12.out.size (Nat.le_refl _)⟩
  clear g l tk
  refine wpAnyY_one (i := 63) (o := { dst := some 70, op := Op.call { callee := Callee.value (Operand.func 199), args := #[Operand.tmp 69], argTypes := #[193] }, type := 132, pos := "part.go:45", after := #[{ on := 62, ground := Ground.data }, { on := 59, ground := Ground.chain }], guard := none }) (by kernel_rfl) rfl (fun K hK => ?_)
  go_simp
  refine (signN vb 14 _).mono ?_
  rintro e w14 ⟨vl, vt, rfl, p, g⟩
  obtain ⟨n14, c14, m14, d14, rfl, rfl, l, tk⟩ := p
  refine hK.out _ _ (fun _ => trivial) ?_
  clear hK K
  have HG14 : Keep (w.grownBy w14 none) := ⟨World.grownBy.trans (HG13.out) g⟩
  have HS14 := Keep.mk g
  have HP14 : Keep (PartC w14 w.heap.size w14.heap.size .S vb 14 (fc n14 c14) (fc m14 d14)) := ⟨(show PartC w14 w13.heap.size w14.heap.size .S vb 14 (fc n14 c14) (fc m14 d14) from ⟨n14, c14, m14, d14, rfl, rfl, l, tk⟩).kept (Kpt.refl _ _ _) HG13.out.size (Nat.le_refl _)⟩
  clear g l tk
  refine wpAnyY_one (i := 67) (o := { dst := some 74, op := Op.call { callee := Callee.value (Operand.func 200), args := #[Operand.tmp 73], argTypes := #[236] }, type := 132, pos := "part.go:46", after := #[{ on := 66, ground := Ground.data }, { on := 63, ground := Ground.chain }], guard := none }) (by kernel_rfl) rfl (fun K hK => ?_)
  go_simp
  refine (countP vb 15 _).mono ?_
  rintro e w15 ⟨vl, vt, rfl, p, g⟩
  obtain ⟨n15, c15, m15, d15, rfl, rfl, l, tk⟩ := p
  refine hK.out _ _ (fun _ => trivial) ?_
  clear hK K
  have HG15 : Keep (w.grownBy w15 none) := ⟨World.grownBy.trans (HG14.out) g⟩
  have HS15 := Keep.mk g
  have HP15 : Keep (PartC w15 w.heap.size w15.heap.size .C vb 15 (fc n15 c15) (fc m15 d15)) := ⟨(show PartC w15 w14.heap.size w15.heap.size .C vb 15 (fc n15 c15) (fc m15 d15) from ⟨n15, c15, m15, d15, rfl, rfl, l, tk⟩).kept (Kpt.refl _ _ _) HG14.out.size (Nat.le_refl _)⟩
  clear g l tk
  refine wpAnyY_one (i := 68) (o := { dst := some 75, op := Op.buildSlice 199 16 #[(0, Operand.tmp 10), (1, Operand.tmp 14), (2, Operand.tmp 18), (3, Operand.tmp 23), (4, Operand.tmp 28), (5, Operand.tmp 33), (6, Operand.tmp 38), (7, Operand.tmp 42), (8, Operand.tmp 46), (9, Operand.tmp 50), (10, Operand.tmp 54), (11, Operand.tmp 58), (12, Operand.tmp 62), (13, Operand.tmp 66), (14, Operand.tmp 70), (15, Operand.tmp 74)], type := 199, pos := "part.go:32", after := #[{ on := 3, ground := Ground.data }, { on := 7, ground := Ground.data }, { on := 11, ground := Ground.data }, { on := 16, ground := Ground.data }, { on := 21, ground := Ground.data }, { on := 26, ground := Ground.data }, { on := 31, ground := Ground.data }, { on := 35, ground := Ground.data }, { on := 39, ground := Ground.data }, { on := 43, ground := Ground.data }, { on := 47, ground := Ground.data }, { on := 51, ground := Ground.data }, { on := 55, ground := Ground.data }, { on := 59, ground := Ground.data }, { on := 63, ground := Ground.data }, { on := 67, ground := Ground.data }], guard := none }) (by kernel_rfl) rfl (fun K hK => ?_)
  rw [if_pos (show Region.wanted _ _ = true from rfl)]
  refine wp_bs16 199 16 (.tmp 10) (.tmp 14) (.tmp 18) (.tmp 23) (.tmp 28) (.tmp 33) (.tmp 38) (.tmp 42) (.tmp 46) (.tmp 50) (.tmp 54) (.tmp 58) (.tmp 62) (.tmp 66) (.tmp 70) (.tmp 74) rfl (.agg #[fc n0 c0, fc m0 d0]) (.agg #[fc n1 c1, fc m1 d1]) (.agg #[fc n2 c2, fc m2 d2]) (.agg #[fc n3 c3, fc m3 d3]) (.agg #[fc n4 c4, fc m4 d4]) (.agg #[fc n5 c5, fc m5 d5]) (.agg #[fc n6 c6, fc m6 d6]) (.agg #[fc n7 c7, fc m7 d7]) (.agg #[fc n8 c8, fc m8 d8]) (.agg #[fc n9 c9, fc m9 d9]) (.agg #[fc n10 c10, fc m10 d10]) (.agg #[fc n11 c11, fc m11 d11]) (.agg #[fc n12 c12, fc m12 d12]) (.agg #[fc n13 c13, fc m13 d13]) (.agg #[fc n14 c14, fc m14 d14]) (.agg #[fc n15 c15, fc m15 d15]) rfl rfl rfl rfl rfl rfl rfl rfl rfl rfl rfl rfl rfl rfl rfl rfl (bs16 n0 m0 n1 m1 n2 m2 n3 m3 n4 m4 n5 m5 n6 m6 n7 m7 n8 m8 n9 m9 n10 m10 n11 m11 n12 m12 n13 m13 n14 m14 n15 m15 c0 d0 c1 d1 c2 d2 c3 d3 c4 d4 c5 d5 c6 d6 c7 d7 c8 d8 c9 d9 c10 d10 c11 d11 c12 d12 c13 d13 c14 d14 c15 d15 w15) ?_
  refine hK.out _ _ (fun _ => trivial) ?_
  clear hK K
  obtain ⟨wz, hwz⟩ : ∃ q, w15.alloc (.cells #[fc n0 c0, fc m0 d0, fc n1 c1, fc m1 d1, fc n2 c2, fc m2 d2, fc n3 c3, fc m3 d3, fc n4 c4, fc m4 d4, fc n5 c5, fc m5 d5, fc n6 c6, fc m6 d6, fc n7 c7, fc m7 d7, fc n8 c8, fc m8 d8, fc n9 c9, fc m9 d9, fc n10 c10, fc m10 d10, fc n11 c11, fc m11 d11, fc n12 c12, fc m12 d12, fc n13 c13, fc m13 d13, fc n14 c14, fc m14 d14, fc n15 c15, fc m15 d15] 132) = q := ⟨_, rfl⟩
  have gz : w15.grownBy wz none := by rw [← hwz]; exact gr_al _ _
  have hz : Has wz w15.heap.size [fc n0 c0, fc m0 d0, fc n1 c1, fc m1 d1, fc n2 c2, fc m2 d2, fc n3 c3, fc m3 d3, fc n4 c4, fc m4 d4, fc n5 c5, fc m5 d5, fc n6 c6, fc m6 d6, fc n7 c7, fc m7 d7, fc n8 c8, fc m8 d8, fc n9 c9, fc m9 d9, fc n10 c10, fc m10 d10, fc n11 c11, fc m11 d11, fc n12 c12, fc m12 d12, fc n13 c13, fc m13 d13, fc n14 c14, fc m14 d14, fc n15 c15, fc m15 d15] 132 := by rw [← hwz]; exact Has.newA w15 _ 132
  have hsz : wz.heap.size = w15.heap.size + 1 := by rw [← hwz]; exact hs1 _ _
  rw [hwz]
  have HZ := Keep.mk (And.intro gz (And.intro hz hsz))
  clear gz hz hsz hwz
  have HT15 : Keep (w15.grownBy wz none) := ⟨HZ.out.1⟩
  have HT14 : Keep (w14.grownBy wz none) := ⟨HS15.out.trans HT15.out⟩
  have HT13 : Keep (w13.grownBy wz none) := ⟨HS14.out.trans HT14.out⟩
  have HT12 : Keep (w12.grownBy wz none) := ⟨HS13.out.trans HT13.out⟩
  have HT11 : Keep (w11.grownBy wz none) := ⟨HS12.out.trans HT12.out⟩
  have HT10 : Keep (w10.grownBy wz none) := ⟨HS11.out.trans HT11.out⟩
  have HT9 : Keep (w9.grownBy wz none) := ⟨HS10.out.trans HT10.out⟩
  have HT8 : Keep (w8.grownBy wz none) := ⟨HS9.out.trans HT9.out⟩
  have HT7 : Keep (w7.grownBy wz none) := ⟨HS8.out.trans HT8.out⟩
  have HT6 : Keep (w6.grownBy wz none) := ⟨HS7.out.trans HT7.out⟩
  have HT5 : Keep (w5.grownBy wz none) := ⟨HS6.out.trans HT6.out⟩
  have HT4 : Keep (w4.grownBy wz none) := ⟨HS5.out.trans HT5.out⟩
  have HT3 : Keep (w3.grownBy wz none) := ⟨HS4.out.trans HT4.out⟩
  have HT2 : Keep (w2.grownBy wz none) := ⟨HS3.out.trans HT3.out⟩
  have HT1 : Keep (w1.grownBy wz none) := ⟨HS2.out.trans HT2.out⟩
  have HT0 : Keep (w0.grownBy wz none) := ⟨HS1.out.trans HT1.out⟩
  simp only [Act.put, List.setIfInBounds_toArray, List.set_cons_zero, List.set_cons_succ]
  refine wpAnyY_one (i := 69) (o := _) (by kernel_rfl) rfl (fun K hK => ?_)
  go_simp
  refine hK.out _ _ (fun h => h) ?_
  clear hK K
  refine wpAnyY_done (by kernel_rfl) ?_ _
  go_wp2_with fail
  go_ret
  refine ⟨w15.heap.size, [(fc n0 c0, fc m0 d0), (fc n1 c1, fc m1 d1), (fc n2 c2, fc m2 d2), (fc n3 c3, fc m3 d3), (fc n4 c4, fc m4 d4), (fc n5 c5, fc m5 d5), (fc n6 c6, fc m6 d6), (fc n7 c7, fc m7 d7), (fc n8 c8, fc m8 d8), (fc n9 c9, fc m9 d9), (fc n10 c10, fc m10 d10), (fc n11 c11, fc m11 d11), (fc n12 c12, fc m12 d12), (fc n13 c13, fc m13 d13), (fc n14 c14, fc m14 d14), (fc n15 c15, fc m15 d15)], rfl, ⟨rfl, HZ.out.2.1, ?_, ?_⟩, HG15.out.trans HZ.out.1⟩
  · intro k p m e1 e2
    match k, e1, e2 with
    | 0, e1, e2 => obtain rfl := Option.some.inj e1; obtain rfl := Option.some.inj e2; exact (show PartC wz w.heap.size wz.heap.size .U vb (0 + 0) (fc n0 c0) (fc m0 d0) from HP0.out.kept (Kpt.grown HT0.out (Nat.le_refl _)) (Nat.le_refl _) HT0.out.size)
    | 1, e1, e2 => obtain rfl := Option.some.inj e1; obtain rfl := Option.some.inj e2; exact (show PartC wz w.heap.size wz.heap.size .I vb (0 + 1) (fc n1 c1) (fc m1 d1) from HP1.out.kept (Kpt.grown HT1.out (Nat.le_refl _)) (Nat.le_refl _) HT1.out.size)
    | 2, e1, e2 => obtain rfl := Option.some.inj e1; obtain rfl := Option.some.inj e2; exact (show PartC wz w.heap.size wz.heap.size .T vb (0 + 2) (fc n2 c2) (fc m2 d2) from HP2.out.kept (Kpt.grown HT2.out (Nat.le_refl _)) (Nat.le_refl _) HT2.out.size)
    | 3, e1, e2 => obtain rfl := Option.some.inj e1; obtain rfl := Option.some.inj e2; exact (show PartC wz w.heap.size wz.heap.size .S vb (0 + 3) (fc n3 c3) (fc m3 d3) from HP3.out.kept (Kpt.grown HT3.out (Nat.le_refl _)) (Nat.le_refl _) HT3.out.size)
    | 4, e1, e2 => obtain rfl := Option.some.inj e1; obtain rfl := Option.some.inj e2; exact (show PartC wz w.heap.size wz.heap.size .S vb (0 + 4) (fc n4 c4) (fc m4 d4) from HP4.out.kept (Kpt.grown HT4.out (Nat.le_refl _)) (Nat.le_refl _) HT4.out.size)
    | 5, e1, e2 => obtain rfl := Option.some.inj e1; obtain rfl := Option.some.inj e2; exact (show PartC wz w.heap.size wz.heap.size .S vb (0 + 5) (fc n5 c5) (fc m5 d5) from HP5.out.kept (Kpt.grown HT5.out (Nat.le_refl _)) (Nat.le_refl _) HT5.out.size)
    | 6, e1, e2 => obtain rfl := Option.some.inj e1; obtain rfl := Option.some.inj e2; exact (show PartC wz w.heap.size wz.heap.size .S vb (0 + 6) (fc n6 c6) (fc m6 d6) from HP6.out.kept (Kpt.grown HT6.out (Nat.le_refl _)) (Nat.le_refl _) HT6.out.size)
    | 7, e1, e2 => obtain rfl := Option.some.inj e1; obtain rfl := Option.some.inj e2; exact (show PartC wz w.heap.size wz.heap.size .S vb (0 + 7) (fc n7 c7) (fc m7 d7) from HP7.out.kept (Kpt.grown HT7.out (Nat.le_refl _)) (Nat.le_refl _) HT7.out.size)
    | 8, e1, e2 => obtain rfl := Option.some.inj e1; obtain rfl := Option.some.inj e2; exact (show PartC wz w.heap.size wz.heap.size .S vb (0 + 8) (fc n8 c8) (fc m8 d8) from HP8.out.kept (Kpt.grown HT8.out (Nat.le_refl _)) (Nat.le_refl _) HT8.out.size)
    | 9, e1, e2 => obtain rfl := Option.some.inj e1; obtain rfl := Option.some.inj e2; exact (show PartC wz w.heap.size wz.heap.size .S vb (0 + 9) (fc n9 c9) (fc m9 d9) from HP9.out.kept (Kpt.grown HT9.out (Nat.le_refl _)) (Nat.le_refl _) HT9.out.size)
    | 10, e1, e2 => obtain rfl := Option.some.inj e1; obtain rfl := Option.some.inj e2; exact (show PartC wz w.heap.size wz.heap.size .S vb (0 + 10) (fc n10 c10) (fc m10 d10) from HP10.out.kept (Kpt.grown HT10.out (Nat.le_refl _)) (Nat.le_refl _) HT10.out.size)
    | 11, e1, e2 => obtain rfl := Option.some.inj e1; obtain rfl := Option.some.inj e2; exact (show PartC wz w.heap.size wz.heap.size .S vb (0 + 11) (fc n11 c11) (fc m11 d11) from HP11.out.kept (Kpt.grown HT11.out (Nat.le_refl _)) (Nat.le_refl _) HT11.out.size)
    | 12, e1, e2 => obtain rfl := Option.some.inj e1; obtain rfl := Option.some.inj e2; exact (show PartC wz w.heap.size wz.heap.size .S vb (0 + 12) (fc n12 c12) (fc m12 d12) from HP12.out.kept (Kpt.grown HT12.out (Nat.le_refl _)) (Nat.le_refl _) HT12.out.size)
    | 13, e1, e2 => obtain rfl := Option.some.inj e1; obtain rfl := Option.some.inj e2; exact (show PartC wz w.heap.size wz.heap.size .S vb (0 + 13) (fc n13 c13) (fc m13 d13) from HP13.out.kept (Kpt.grown HT13.out (Nat.le_refl _)) (Nat.le_refl _) HT13.out.size)
    | 14, e1, e2 => obtain rfl := Option.some.inj e1; obtain rfl := Option.some.inj e2; exact (show PartC wz w.heap.size wz.heap.size .S vb (0 + 14) (fc n14 c14) (fc m14 d14) from HP14.out.kept (Kpt.grown HT14.out (Nat.le_refl _)) (Nat.le_refl _) HT14.out.size)
    | 15, e1, e2 => obtain rfl := Option.some.inj e1; obtain rfl := Option.some.inj e2; exact (show PartC wz w.heap.size wz.heap.size .C vb (0 + 15) (fc n15 c15) (fc m15 d15) from HP15.out.kept (Kpt.grown HT15.out (Nat.le_refl _)) (Nat.le_refl _) HT15.out.size)
    | k + 16, e1, e2 => cases e1
  · have := HG15.out.size; have := HZ.out.2.2; omega
set_option maxHeartbeats 8000000 in
set_option maxRecDepth 100000 in
theorem thing_c (vb o : Nat) (w : World) :
    Calls Tryz.prog 160 #[pa vb o] w fun e w' => ∃ hb L, e = .returned (.slice (some ⟨hb, 0, none⟩) 5 5) ∧ Parts w' w.heap.size w'.heap.size tMs vb o hb L ∧ w.grownBy w' none := by
  go_enter Tryz.func160, Tryz.ntmps160
  go_wp2_with fail
  refine region_Y (S := fun _ => True) [] (by kernel_rfl) ?_
  have hHeld := trivial
  refine wpAnyY_pure (i := 0) (oi := _) (v := ?_) rfl (by kernel_rfl) (by kernel_rfl) (by kernel_rfl) (by kernel_rfl) (fun _ _ _ h => h) (Or.inl ⟨by rfl, ?_⟩) ?_
  rotate_left
  · (intro w hSw; go_simp; first | done | (with_reducible rfl))
  simp only [Act.put, List.getElem_toArray, List.getElem_cons_zero, List.setIfInBounds_toArray, List.set_cons_zero, List.set_cons_succ]
  refine wpAnyY_pure (i := 1) (oi := _) (v := ?_) rfl (by kernel_rfl) (by kernel_rfl) (by kernel_rfl) (by kernel_rfl) (fun _ _ _ h => h) (Or.inl ⟨by rfl, ?_⟩) ?_
  rotate_left
  · (intro w hSw; go_simp; first | done | (with_reducible rfl))
  simp only [Act.put, List.getElem_toArray, List.getElem_cons_succ, List.getElem_cons_zero, List.setIfInBounds_toArray, List.set_cons_zero, List.set_cons_succ]
  refine wpAnyY_pure (i := 2) (oi := _) (v := ?_) rfl (by kernel_rfl) (by kernel_rfl) (by kernel_rfl) (by kernel_rfl) (fun _ _ _ h => h) (Or.inl ⟨by rfl, ?_⟩) ?_
  rotate_left
  · (intro w hSw; go_simp; first | done | (with_reducible rfl))
  simp only [Act.put, List.getElem_toArray, List.getElem_cons_succ, List.getElem_cons_zero, List.setIfInBounds_toArray, List.set_cons_zero, List.set_cons_succ]
  refine wpAnyY_pure (i := 4) (oi := _) (v := ?_) rfl (by kernel_rfl) (by kernel_rfl) (by kernel_rfl) (by kernel_rfl) (fun _ _ _ h => h) (Or.inl ⟨by rfl, ?_⟩) ?_
  rotate_left
  · (intro w hSw; go_simp; first | done | (with_reducible rfl))
  simp only [Act.put, List.getElem_toArray, List.getElem_cons_succ, List.getElem_cons_zero, List.setIfInBounds_toArray, List.set_cons_zero, List.set_cons_succ]
  refine wpAnyY_pure (i := 5) (oi := _) (v := ?_) rfl (by kernel_rfl) (by kernel_rfl) (by kernel_rfl) (by kernel_rfl) (fun _ _ _ h => h) (Or.inl ⟨by rfl, ?_⟩) ?_
  rotate_left
  · (intro w hSw; go_simp; first | done | (with_reducible rfl))
  simp only [Act.put, List.getElem_toArray, List.getElem_cons_succ, List.getElem_cons_zero, List.setIfInBounds_toArray, List.set_cons_zero, List.set_cons_succ]
  refine wpAnyY_pure (i := 6) (oi := _) (v := ?_) rfl (by kernel_rfl) (by kernel_rfl) (by kernel_rfl) (by kernel_rfl) (fun _ _ _ h => h) (Or.inl ⟨by rfl, ?_⟩) ?_
  rotate_left
  · (intro w hSw; go_simp; first | done | (with_reducible rfl))
  simp only [Act.put, List.getElem_toArray, List.getElem_cons_succ, List.getElem_cons_zero, List.setIfInBounds_toArray, List.set_cons_zero, List.set_cons_succ]
  refine wpAnyY_pure (i := 8) (oi := _) (v := ?_) rfl (by kernel_rfl) (by kernel_rfl) (by kernel_rfl) (by kernel_rfl) (fun _ _ _ h => h) (Or.inl ⟨by rfl, ?_⟩) ?_
  rotate_left
  · (intro w hSw; go_simp; first | done | (with_reducible rfl))
  simp only [Act.put, List.getElem_toArray, List.getElem_cons_succ, List.getElem_cons_zero, List.setIfInBounds_toArray, List.set_cons_zero, List.set_cons_succ]
  refine wpAnyY_pure (i := 9) (oi := _) (v := ?_) rfl (by kernel_rfl) (by kernel_rfl) (by kernel_rfl) (by kernel_rfl) (fun _ _ _ h => h) (Or.inl ⟨by rfl, ?_⟩) ?_
  rotate_left
  · (intro w hSw; go_simp; first | done | (with_reducible rfl))
  simp only [Act.put, List.getElem_toArray, List.getElem_cons_succ, List.getElem_cons_zero, List.setIfInBounds_toArray, List.set_cons_zero, List.set_cons_succ]
  refine wpAnyY_pure (i := 10) (oi := _) (v := ?_) rfl (by kernel_rfl) (by kernel_rfl) (by kernel_rfl) (by kernel_rfl) (fun _ _ _ h => h) (Or.inl ⟨by rfl, ?_⟩) ?_
  rotate_left
  · (intro w hSw; go_simp; first | done | (with_reducible rfl))
  simp only [Act.put, List.getElem_toArray, List.getElem_cons_succ, List.getElem_cons_zero, List.setIfInBounds_toArray, List.set_cons_zero, List.set_cons_succ]
  refine wpAnyY_pure (i := 11) (oi := _) (v := ?_) rfl (by kernel_rfl) (by kernel_rfl) (by kernel_rfl) (by kernel_rfl) (fun _ _ _ h => h) (Or.inl ⟨by rfl, ?_⟩) ?_
  rotate_left
  · (intro w hSw; go_simp; first | done | (with_reducible rfl))
  simp only [Act.put, List.getElem_toArray, List.getElem_cons_succ, List.getElem_cons_zero, List.setIfInBounds_toArray, List.set_cons_zero, List.set_cons_succ]
  refine wpAnyY_pure (i := 13) (oi := _) (v := ?_) rfl (by kernel_rfl) (by kernel_rfl) (by kernel_rfl) (by kernel_rfl) (fun _ _ _ h => h) (Or.inl ⟨by rfl, ?_⟩) ?_
  rotate_left
  · (intro w hSw; go_simp; first | done | (with_reducible rfl))
  simp only [Act.put, List.getElem_toArray, List.getElem_cons_succ, List.getElem_cons_zero, List.setIfInBounds_toArray, List.set_cons_zero, List.set_cons_succ]
  refine wpAnyY_pure (i := 14) (oi := _) (v := ?_) rfl (by kernel_rfl) (by kernel_rfl) (by kernel_rfl) (by kernel_rfl) (fun _ _ _ h => h) (Or.inl ⟨by rfl, ?_⟩) ?_
  rotate_left
  · (intro w hSw; go_simp; first | done | (with_reducible rfl))
  simp only [Act.put, List.getElem_toArray, List.getElem_cons_succ, List.getElem_cons_zero, List.setIfInBounds_toArray, List.set_cons_zero, List.set_cons_succ]
  refine wpAnyY_pure (i := 15) (oi := _) (v := ?_) rfl (by kernel_rfl) (by kernel_rfl) (by kernel_rfl) (by kernel_rfl) (fun _ _ _ h => h) (Or.inl ⟨by rfl, ?_⟩) ?_
  rotate_left
  · (intro w hSw; go_simp; first | done | (with_reducible rfl))
  simp only [Act.put, List.getElem_toArray, List.getElem_cons_succ, List.getElem_cons_zero, List.setIfInBounds_toArray, List.set_cons_zero, List.set_cons_succ]
  refine wpAnyY_pure (i := 16) (oi := _) (v := ?_) rfl (by kernel_rfl) (by kernel_rfl) (by kernel_rfl) (by kernel_rfl) (fun _ _ _ h => h) (Or.inl ⟨by rfl, ?_⟩) ?_
  rotate_left
  · (intro w hSw; go_simp; first | done | (with_reducible rfl))
  simp only [Act.put, List.getElem_toArray, List.getElem_cons_succ, List.getElem_cons_zero, List.setIfInBounds_toArray, List.set_cons_zero, List.set_cons_succ]
  refine wpAnyY_pure (i := 18) (oi := _) (v := ?_) rfl (by kernel_rfl) (by kernel_rfl) (by kernel_rfl) (by kernel_rfl) (fun _ _ _ h => h) (Or.inl ⟨by rfl, ?_⟩) ?_
  rotate_left
  · (intro w hSw; go_simp; first | done | (with_reducible rfl))
  simp only [Act.put, List.getElem_toArray, List.getElem_cons_succ, List.getElem_cons_zero, List.setIfInBounds_toArray, List.set_cons_zero, List.set_cons_succ]
  refine wpAnyY_pure (i := 19) (oi := _) (v := ?_) rfl (by kernel_rfl) (by kernel_rfl) (by kernel_rfl) (by kernel_rfl) (fun _ _ _ h => h) (Or.inl ⟨by rfl, ?_⟩) ?_
  rotate_left
  · (intro w hSw; go_simp; first | done | (with_reducible rfl))
  simp only [Act.put, List.getElem_toArray, List.getElem_cons_succ, List.getElem_cons_zero, List.setIfInBounds_toArray, List.set_cons_zero, List.set_cons_succ]
  refine wpAnyY_pure (i := 20) (oi := _) (v := ?_) rfl (by kernel_rfl) (by kernel_rfl) (by kernel_rfl) (by kernel_rfl) (fun _ _ _ h => h) (Or.inl ⟨by rfl, ?_⟩) ?_
  rotate_left
  · (intro w hSw; go_simp; first | done | (with_reducible rfl))
  simp only [Act.put, List.getElem_toArray, List.getElem_cons_succ, List.getElem_cons_zero, List.setIfInBounds_toArray, List.set_cons_zero, List.set_cons_succ]
  refine wpAnyY_one (i := 3) (o := _) (by kernel_rfl) rfl (fun K hK => ?_)
  go_simp
  refine (plainI vb (o + 0) _).mono ?_
  rintro e w0 ⟨vl, vt, rfl, p, g⟩
  obtain ⟨n0, c0, m0, d0, rfl, rfl, l, tk⟩ := p
  refine hK.out _ _ (fun _ => trivial) ?_
  clear hK K
  have HG0 : Keep (w.grownBy w0 none) := ⟨World.grownBy.trans (gr_drew _ none) g⟩
  have HP0 : Keep (PartC w0 w.heap.size w0.heap.size .I vb (o + 0) (fc n0 c0) (fc m0 d0)) := ⟨(show PartC w0 w.heap.size w0.heap.size .I vb (o + 0) (fc n0 c0) (fc m0 d0) from ⟨n0, c0, m0, d0, rfl, rfl, l, tk⟩).kept (Kpt.refl _ _ _) (Nat.le_refl _) (Nat.le_refl _)⟩
  clear g l tk
  refine wpAnyY_one (i := 7) (o := _) (by kernel_rfl) rfl (fun K hK => ?_)
  go_simp
  refine (signN vb (o + 1) _).mono ?_
  rintro e w1 ⟨vl, vt, rfl, p, g⟩
  obtain ⟨n1, c1, m1, d1, rfl, rfl, l, tk⟩ := p
  refine hK.out _ _ (fun _ => trivial) ?_
  clear hK K
  have HG1 : Keep (w.grownBy w1 none) := ⟨World.grownBy.trans (HG0.out) g⟩
  have HS1 := Keep.mk g
  have HP1 : Keep (PartC w1 w.heap.size w1.heap.size .S vb (o + 1) (fc n1 c1) (fc m1 d1)) := ⟨(show PartC w1 w0.heap.size w1.heap.size .S vb (o + 1) (fc n1 c1) (fc m1 d1) from ⟨n1, c1, m1, d1, rfl, rfl, l, tk⟩).kept (Kpt.refl _ _ _) HG0.out.size (Nat.le_refl _)⟩
  clear g l tk
  refine wpAnyY_one (i := 12) (o := _) (by kernel_rfl) rfl (fun K hK => ?_)
  go_simp
  refine (signL vb (o + 2) _).mono ?_
  rintro e w2 ⟨vl, vt, rfl, p, g⟩
  obtain ⟨n2, c2, m2, d2, rfl, rfl, l, tk⟩ := p
  refine hK.out _ _ (fun _ => trivial) ?_
  clear hK K
  have HG2 : Keep (w.grownBy w2 none) := ⟨World.grownBy.trans (HG1.out) g⟩
  have HS2 := Keep.mk g
  have HP2 : Keep (PartC w2 w.heap.size w2.heap.size .S vb (o + 2) (fc n2 c2) (fc m2 d2)) := ⟨(show PartC w2 w1.heap.size w2.heap.size .S vb (o + 2) (fc n2 c2) (fc m2 d2) from ⟨n2, c2, m2, d2, rfl, rfl, l, tk⟩).kept (Kpt.refl _ _ _) HG1.out.size (Nat.le_refl _)⟩
  clear g l tk
  refine wpAnyY_one (i := 17) (o := _) (by kernel_rfl) rfl (fun K hK => ?_)
  go_simp
  refine (signL vb (o + 3) _).mono ?_
  rintro e w3 ⟨vl, vt, rfl, p, g⟩
  obtain ⟨n3, c3, m3, d3, rfl, rfl, l, tk⟩ := p
  refine hK.out _ _ (fun _ => trivial) ?_
  clear hK K
  have HG3 : Keep (w.grownBy w3 none) := ⟨World.grownBy.trans (HG2.out) g⟩
  have HS3 := Keep.mk g
  have HP3 : Keep (PartC w3 w.heap.size w3.heap.size .S vb (o + 3) (fc n3 c3) (fc m3 d3)) := ⟨(show PartC w3 w2.heap.size w3.heap.size .S vb (o + 3) (fc n3 c3) (fc m3 d3) from ⟨n3, c3, m3, d3, rfl, rfl, l, tk⟩).kept (Kpt.refl _ _ _) HG2.out.size (Nat.le_refl _)⟩
  clear g l tk
  refine wpAnyY_one (i := 21) (o := _) (by kernel_rfl) rfl (fun K hK => ?_)
  go_simp
  refine (plainI vb (o + 4) _).mono ?_
  rintro e w4 ⟨vl, vt, rfl, p, g⟩
  obtain ⟨n4, c4, m4, d4, rfl, rfl, l, tk⟩ := p
  refine hK.out _ _ (fun _ => trivial) ?_
  clear hK K
  have HG4 : Keep (w.grownBy w4 none) := ⟨World.grownBy.trans (HG3.out) g⟩
  have HS4 := Keep.mk g
  have HP4 : Keep (PartC w4 w.heap.size w4.heap.size .I vb (o + 4) (fc n4 c4) (fc m4 d4)) := ⟨(show PartC w4 w3.heap.size w4.heap.size .I vb (o + 4) (fc n4 c4) (fc m4 d4) from ⟨n4, c4, m4, d4, rfl, rfl, l, tk⟩).kept (Kpt.refl _ _ _) HG3.out.size (Nat.le_refl _)⟩
  clear g l tk
  refine wpAnyY_one (i := 22) (o := _) (by kernel_rfl) rfl (fun K hK => ?_)
  rw [if_pos (show Region.wanted _ _ = true from rfl)]
  refine wp_bs5 199 5 (.tmp 6) (.tmp 10) (.tmp 15) (.tmp 20) (.tmp 24) rfl (.agg #[fc n0 c0, fc m0 d0]) (.agg #[fc n1 c1, fc m1 d1]) (.agg #[fc n2 c2, fc m2 d2]) (.agg #[fc n3 c3, fc m3 d3]) (.agg #[fc n4 c4, fc m4 d4]) rfl rfl rfl rfl rfl (bs5 n0 m0 n1 m1 n2 m2 n3 m3 n4 m4 c0 d0 c1 d1 c2 d2 c3 d3 c4 d4 w4) ?_
  refine hK.out _ _ (fun _ => trivial) ?_
  clear hK K
  obtain ⟨wz, hwz⟩ : ∃ q, w4.alloc (.cells #[fc n0 c0, fc m0 d0, fc n1 c1, fc m1 d1, fc n2 c2, fc m2 d2, fc n3 c3, fc m3 d3, fc n4 c4, fc m4 d4] 132) = q := ⟨_, rfl⟩
  have gz : w4.grownBy wz none := by rw [← hwz]; exact gr_al _ _
  have hz : Has wz w4.heap.size [fc n0 c0, fc m0 d0, fc n1 c1, fc m1 d1, fc n2 c2, fc m2 d2, fc n3 c3, fc m3 d3, fc n4 c4, fc m4 d4] 132 := by rw [← hwz]; exact Has.newA w4 _ 132
  have hsz : wz.heap.size = w4.heap.size + 1 := by rw [← hwz]; exact hs1 _ _
  rw [hwz]
  have HZ := Keep.mk (And.intro gz (And.intro hz hsz))
  clear gz hz hsz hwz
  have HT4 : Keep (w4.grownBy wz none) := ⟨HZ.out.1⟩
  have HT3 : Keep (w3.grownBy wz none) := ⟨HS4.out.trans HT4.out⟩
  have HT2 : Keep (w2.grownBy wz none) := ⟨HS3.out.trans HT3.out⟩
  have HT1 : Keep (w1.grownBy wz none) := ⟨HS2.out.trans HT2.out⟩
  have HT0 : Keep (w0.grownBy wz none) := ⟨HS1.out.trans HT1.out⟩
  simp only [Act.put, List.getElem_toArray, List.getElem_cons_succ, List.getElem_cons_zero, List.setIfInBounds_toArray, List.set_cons_zero, List.set_cons_succ]
  refine wpAnyY_one (i := 23) (o := _) (by kernel_rfl) rfl (fun K hK => ?_)
  go_simp
  refine hK.out _ _ (fun h => h) ?_
  clear hK K
  refine wpAnyY_done (by kernel_rfl) ?_ _
  go_wp2_with fail
  go_ret
  refine ⟨w4.heap.size, [(fc n0 c0, fc m0 d0), (fc n1 c1, fc m1 d1), (fc n2 c2, fc m2 d2), (fc n3 c3, fc m3 d3), (fc n4 c4, fc m4 d4)], rfl, ⟨rfl, HZ.out.2.1, ?_, ?_⟩, HG4.out.trans HZ.out.1⟩
  · intro k p m e1 e2
    match k, e1, e2 with
    | 0, e1, e2 => obtain rfl := Option.some.inj e1; obtain rfl := Option.some.inj e2; exact HP0.out.kept (Kpt.grown HT0.out (Nat.le_refl _)) (Nat.le_refl _) HT0.out.size
    | 1, e1, e2 => obtain rfl := Option.some.inj e1; obtain rfl := Option.some.inj e2; exact HP1.out.kept (Kpt.grown HT1.out (Nat.le_refl _)) (Nat.le_refl _) HT1.out.size
    | 2, e1, e2 => obtain rfl := Option.some.inj e1; obtain rfl := Option.some.inj e2; exact HP2.out.kept (Kpt.grown HT2.out (Nat.le_refl _)) (Nat.le_refl _) HT2.out.size
    | 3, e1, e2 => obtain rfl := Option.some.inj e1; obtain rfl := Option.some.inj e2; exact HP3.out.kept (Kpt.grown HT3.out (Nat.le_refl _)) (Nat.le_refl _) HT3.out.size
    | 4, e1, e2 => obtain rfl := Option.some.inj e1; obtain rfl := Option.some.inj e2; exact HP4.out.kept (Kpt.grown HT4.out (Nat.le_refl _)) (Nat.le_refl _) HT4.out.size
    | k + 5, e1, e2 => cases e1
  · have := HG4.out.size; have := HZ.out.2.2; omega
end Go.Proofs.YtldnpebnpbahjaaGreatDoor.Pk.Sn
