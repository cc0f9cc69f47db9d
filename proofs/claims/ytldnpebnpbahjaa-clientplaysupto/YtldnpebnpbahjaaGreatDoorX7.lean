import Derived.Test.YtldnpebnpbahjaaGreatDoorX6
set_option maxRecDepth 100000
set_option maxHeartbeats 8000000
namespace Go.Proofs.YtldnpebnpbahjaaGreatDoor.Pk.Sn
open Go Go.RowKit Go.Proofs.Tryz
def hMs : List Mk := [.U, .I, .T, .S, .S, .S, .S, .S, .S, .S, .S, .S, .S, .S, .S, .C]
def tMs : List Mk := [.I, .S, .S, .S, .I]
structure Parts (w : World) (lo hi : Nat) (ms : List Mk) (b o hb : Nat) (L : List (Value × Value)) : Prop where
  n : L.length = ms.length
  h : Has w hb (L.flatMap fun p => [p.1, p.2]) 132
  p : ∀ k p m, L[k]? = some p → ms[k]? = some m → PartC w lo hi m b (o + k) p.1 p.2
  q : lo ≤ hb ∧ hb < hi
theorem Parts.kept {w w' : World} {lo hi lo' hi' : Nat} {ms : List Mk} {b o hb : Nat} {L : List (Value × Value)} (h : Parts w lo hi ms b o hb L) (k : Kpt lo hi w w') (h1 : lo' ≤ lo) (h2 : hi ≤ hi') : Parts w' lo' hi' ms b o hb L :=
  ⟨h.n, k.has h.h h.q.1 h.q.2, fun i p m e1 e2 => (h.p i p m e1 e2).kept k h1 h2, by have := h.q; omega⟩
theorem flat_at (L : List (Value × Value)) (k : Nat) (p : Value × Value) (h : L[k]? = some p) : (L.flatMap fun p => [p.1, p.2])[2 * k]? = some p.1 ∧ (L.flatMap fun p => [p.1, p.2])[2 * k + 1]? = some p.2 := by
  induction L generalizing k with
  | nil => cases h
  | cons a r ih =>
    cases k with
    | zero => obtain rfl := Option.some.inj h; exact ⟨rfl, rfl⟩
    | succ k =>
      have := ih k h; rw [show 2 * (k + 1) = 2 * k + 1 + 1 by omega]
      simpa using this
theorem bs16 (n0 m0 n1 m1 n2 m2 n3 m3 n4 m4 n5 m5 n6 m6 n7 m7 n8 m8 n9 m9 n10 m10 n11 m11 n12 m12 n13 m13 n14 m14 n15 m15 : Nat) (c0 d0 c1 d1 c2 d2 c3 d3 c4 d4 c5 d5 c6 d6 c7 d7 c8 d8 c9 d9 c10 d10 c11 d11 c12 d12 c13 d13 c14 d14 c15 d15 : Array Value) (W : World) : (Instr.buildSlice 199 16 #[(0, .agg #[fc n0 c0, fc m0 d0]), (1, .agg #[fc n1 c1, fc m1 d1]), (2, .agg #[fc n2 c2, fc m2 d2]), (3, .agg #[fc n3 c3, fc m3 d3]), (4, .agg #[fc n4 c4, fc m4 d4]), (5, .agg #[fc n5 c5, fc m5 d5]), (6, .agg #[fc n6 c6, fc m6 d6]), (7, .agg #[fc n7 c7, fc m7 d7]), (8, .agg #[fc n8 c8, fc m8 d8]), (9, .agg #[fc n9 c9, fc m9 d9]), (10, .agg #[fc n10 c10, fc m10 d10]), (11, .agg #[fc n11 c11, fc m11 d11]), (12, .agg #[fc n12 c12, fc m12 d12]), (13, .agg #[fc n13 c13, fc m13 d13]), (14, .agg #[fc n14 c14, fc m14 d14]), (15, .agg #[fc n15 c15, fc m15 d15])]).run prog W = .ok (.slice (some ⟨W.heap.size, 0, none⟩) 16 16) (W.alloc (.cells #[fc n0 c0, fc m0 d0, fc n1 c1, fc m1 d1, fc n2 c2, fc m2 d2, fc n3 c3, fc m3 d3, fc n4 c4, fc m4 d4, fc n5 c5, fc m5 d5, fc n6 c6, fc m6 d6, fc n7 c7, fc m7 d7, fc n8 c8, fc m8 d8, fc n9 c9, fc m9 d9, fc n10 c10, fc m10 d10, fc n11 c11, fc m11 d11, fc n12 c12, fc m12 d12, fc n13 c13, fc m13 d13, fc n14 c14, fc m14 d14, fc n15 c15, fc m15 d15] 132)) := by kernel_rfl
theorem bs5 (n0 m0 n1 m1 n2 m2 n3 m3 n4 m4 : Nat) (c0 d0 c1 d1 c2 d2 c3 d3 c4 d4 : Array Value) (W : World) : (Instr.buildSlice 199 5 #[(0, .agg #[fc n0 c0, fc m0 d0]), (1, .agg #[fc n1 c1, fc m1 d1]), (2, .agg #[fc n2 c2, fc m2 d2]), (3, .agg #[fc n3 c3, fc m3 d3]), (4, .agg #[fc n4 c4, fc m4 d4])]).run prog W = .ok (.slice (some ⟨W.heap.size, 0, none⟩) 5 5) (W.alloc (.cells #[fc n0 c0, fc m0 d0, fc n1 c1, fc m1 d1, fc n2 c2, fc m2 d2, fc n3 c3, fc m3 d3, fc n4 c4, fc m4 d4] 132)) := by kernel_rfl
theorem wp_bs16 {P : Program} {o : Oper} {a : Act} {w : World} {K : Act → World → Prop} {Q : Exit → Act → World → Prop} (t : TypeId) (n : Nat) (x0 x1 x2 x3 x4 x5 x6 x7 x8 x9 x10 x11 x12 x13 x14 x15 : Operand)
    (ho : o.op = .buildSlice t n #[(0, x0), (1, x1), (2, x2), (3, x3), (4, x4), (5, x5), (6, x6), (7, x7), (8, x8), (9, x9), (10, x10), (11, x11), (12, x12), (13, x13), (14, x14), (15, x15)]) (u0 u1 u2 u3 u4 u5 u6 u7 u8 u9 u10 u11 u12 u13 u14 u15 : Value) (h0 : a.eval x0 = u0) (h1 : a.eval x1 = u1) (h2 : a.eval x2 = u2) (h3 : a.eval x3 = u3) (h4 : a.eval x4 = u4) (h5 : a.eval x5 = u5) (h6 : a.eval x6 = u6) (h7 : a.eval x7 = u7) (h8 : a.eval x8 = u8) (h9 : a.eval x9 = u9) (h10 : a.eval x10 = u10) (h11 : a.eval x11 = u11) (h12 : a.eval x12 = u12) (h13 : a.eval x13 = u13) (h14 : a.eval x14 = u14) (h15 : a.eval x15 = u15) {v' : Value} {w' : World}
    (hr : (Instr.buildSlice t n #[(0, u0), (1, u1), (2, u2), (3, u3), (4, u4), (5, u5), (6, u6), (7, u7), (8, u8), (9, u9), (10, u10), (11, u11), (12, u12), (13, u13), (14, u14), (15, u15)]).run P w = .ok v' w') (h : K (a.put o.dst v') w') : Oper.wp P o a w K Q := by
  unfold Oper.wp execOp; simp only [ho, Sem.run_bind, Sem.run_pure, Result.andThen_ok, List.map_toArray, List.map_cons, List.map_nil, h0, h1, h2, h3, h4, h5, h6, h7, h8, h9, h10, h11, h12, h13, h14, h15, hr]; exact h
theorem wp_bs5 {P : Program} {o : Oper} {a : Act} {w : World} {K : Act → World → Prop} {Q : Exit → Act → World → Prop} (t : TypeId) (n : Nat) (x0 x1 x2 x3 x4 : Operand)
    (ho : o.op = .buildSlice t n #[(0, x0), (1, x1), (2, x2), (3, x3), (4, x4)]) (u0 u1 u2 u3 u4 : Value) (h0 : a.eval x0 = u0) (h1 : a.eval x1 = u1) (h2 : a.eval x2 = u2) (h3 : a.eval x3 = u3) (h4 : a.eval x4 = u4) {v' : Value} {w' : World}
    (hr : (Instr.buildSlice t n #[(0, u0), (1, u1), (2, u2), (3, u3), (4, u4)]).run P w = .ok v' w') (h : K (a.put o.dst v') w') : Oper.wp P o a w K Q := by
  unfold Oper.wp execOp; simp only [ho, Sem.run_bind, Sem.run_pure, Result.andThen_ok, List.map_toArray, List.map_cons, List.map_nil, h0, h1, h2, h3, h4, hr]; exact h
abbrev oM (d s t : Nat) (p : String) : Oper := { dst := some d, op := Op.move (Operand.tmp s), type := t, pos := p, after := #[], guard := none }
abbrev oN (d s a : Nat) (p : String) : Oper := { dst := some d, op := Op.nilCheck (Operand.tmp s), type := 0, pos := p, after := #[{ on := a, ground := Ground.data }], guard := none }
abbrev oF (d T s f a : Nat) (p : String) : Oper := { dst := some d, op := Op.fieldAddr T (Operand.tmp s) f, type := 0, pos := p, after := #[{ on := a, ground := Ground.data }], guard := none }
theorem head_c (vb : Nat) (w : World) :
    Calls prog 159 #[pa vb 0] w fun e w' => ∃ hb L, e = .returned (.slice (some ⟨hb, 0, none⟩) 16 16) ∧ Parts w' w.heap.size w'.heap.size hMs vb 0 hb L ∧ w.grownBy w' none := by
  go_enter func159, ntmps159; go_wp2_with fail; refine region_Y (S := fun _ => True) [] (by kernel_rfl) ?_; have hHeld := trivial; refine yq 0 (oi := oM 7 0 128 "part.go:32") rfl ?_; refine yq 1 (oi := oN 8 7 0 "part.go:32") rfl ?_; refine yq 2 (oi := oF 9 49 8 0 1 "part.go:32") rfl ?_; refine yq 4 (oi := oM 11 3 228 "part.go:32") rfl ?_; refine yq 5 (oi := oN 12 11 4 "part.go:32") rfl ?_; refine yq 6 (oi := oF 13 46 12 0 5 "part.go:32") rfl ?_; refine yq 8 (oi := oM 15 3 228 "part.go:32") rfl ?_; refine yq 9 (oi := oN 16 15 8 "part.go:32") rfl ?_; refine yq 10 (oi := oF 17 46 16 1 9 "part.go:32") rfl ?_; refine yq 12 (oi := oM 19 3 228 "part.go:32") rfl ?_; refine yq 13 (oi := oN 20 19 12 "part.go:32") rfl ?_; refine yq 14 (oi := oF 21 46 20 2 13 "part.go:32") rfl ?_; refine yq 15 (oi := oF 22 44 21 0 14 "part.go:32") rfl ?_; refine yq 17 (oi := oM 24 3 228 "part.go:32") rfl ?_; refine yq 18 (oi := oN 25 24 17 "part.go:32") rfl ?_; refine yq 19 (oi := oF 26 46 25 2 18 "part.go:32") rfl ?_; refine yq 20 (oi := oF 27 44 26 1 19 "part.go:32") rfl ?_; refine yq 22 (oi := oM 29 3 228 "part.go:32") rfl ?_; refine yq 23 (oi := oN 30 29 22 "part.go:32") rfl ?_; refine yq 24 (oi := oF 31 46 30 3 23 "part.go:32") rfl ?_; refine yq 25 (oi := oF 32 44 31 0 24 "part.go:32") rfl ?_; refine yq 27 (oi := oM 34 3 228 "part.go:32") rfl ?_; refine yq 28 (oi := oN 35 34 27 "part.go:32") rfl ?_; refine yq 29 (oi := oF 36 46 35 3 28 "part.go:32") rfl ?_; refine yq 30 (oi := oF 37 44 36 1 29 "part.go:32") rfl ?_; refine yq 32 (oi := oM 39 3 228 "part.go:32") rfl ?_; refine yq 33 (oi := oN 40 39 32 "part.go:32") rfl ?_; refine yq 34 (oi := oF 41 46 40 4 33 "part.go:32") rfl ?_; refine yq 36 (oi := oM 43 3 228 "part.go:32") rfl ?_; refine yq 37 (oi := oN 44 43 36 "part.go:32") rfl ?_; refine yq 38 (oi := oF 45 46 44 5 37 "part.go:32") rfl ?_; refine yq 40 (oi := oM 47 3 228 "part.go:32") rfl ?_; refine yq 41 (oi := oN 48 47 40 "part.go:32") rfl ?_; refine yq 42 (oi := oF 49 46 48 6 41 "part.go:32") rfl ?_; refine yq 44 (oi := oM 51 3 228 "part.go:32") rfl ?_; refine yq 45 (oi := oN 52 51 44 "part.go:32") rfl ?_; refine yq 46 (oi := oF 53 46 52 7 45 "part.go:32") rfl ?_; refine yq 48 (oi := oM 55 3 228 "part.go:32") rfl ?_; refine yq 49 (oi := oN 56 55 48 "part.go:32") rfl ?_; refine yq 50 (oi := oF 57 46 56 8 49 "part.go:32") rfl ?_; refine yq 52 (oi := oM 59 3 228 "part.go:32") rfl ?_; refine yq 53 (oi := oN 60 59 52 "part.go:32") rfl ?_; refine yq 54 (oi := oF 61 46 60 9 53 "part.go:32") rfl ?_; refine yq 56 (oi := oM 63 3 228 "part.go:32") rfl ?_; refine yq 57 (oi := oN 64 63 56 "part.go:32") rfl ?_; refine yq 58 (oi := oF 65 46 64 10 57 "part.go:32") rfl ?_; refine yq 60 (oi := oM 67 3 228 "part.go:32") rfl ?_; refine yq 61 (oi := oN 68 67 60 "part.go:32") rfl ?_; refine yq 62 (oi := oF 69 46 68 11 61 "part.go:32") rfl ?_; refine yq 64 (oi := oM 71 0 128 "part.go:32") rfl ?_; refine yq 65 (oi := oN 72 71 64 "part.go:32") rfl ?_; refine yq 66 (oi := oF 73 49 72 2 65 "part.go:32") rfl ?_; simp only [Act.put, uz]; refine wpAnyY_one (i := 3) (o := { dst := some 10, op := Op.call { callee := Callee.value (Operand.func 195), args := #[Operand.tmp 9, Operand.const (Value.int IntKind.i64 8)], argTypes := #[190, 3] }, type := 132, pos := "part.go:33", after := #[{ on := 2, ground := Ground.data }], guard := none }) (by kernel_rfl) rfl (fun K hK => ?_); go_simp; refine (plainU vb 0 _).mono ?_; rintro e w0 ⟨vl, vt, rfl, p, g⟩; obtain ⟨n0, c0, m0, d0, rfl, rfl, l, tk⟩ := p; refine hK.out _ _ (fun _ => trivial) ?_; clear hK K; have HG0 : Kp (w.grownBy w0 none) := ⟨World.grownBy.trans (gr_drew _ none) g⟩; have HP0 : Kp (PartC w0 w.heap.size w0.heap.size .U vb 0 (fc n0 c0) (fc m0 d0)) := ⟨(show PartC w0 w.heap.size w0.heap.size .U vb 0 (fc n0 c0) (fc m0 d0) from ⟨n0, c0, m0, d0, rfl, rfl, l, tk⟩).kept (Kpt.refl _ _ _) (Nat.le_refl _) (Nat.le_refl _)⟩; clear g l tk; refine wpAnyY_one (i := 7) (o := { dst := some 14, op := Op.call { callee := Callee.value (Operand.func 196), args := #[Operand.tmp 13, Operand.const (Value.int IntKind.i64 1)], argTypes := #[193, 3] }, type := 132, pos := "part.go:34", after := #[{ on := 6, ground := Ground.data }, { on := 3, ground := Ground.chain }], guard := none }) (by kernel_rfl) rfl (fun K hK => ?_); go_simp; refine (plainI vb 1 _).mono ?_; rintro e w1 ⟨vl, vt, rfl, p, g⟩; obtain ⟨n1, c1, m1, d1, rfl, rfl, l, tk⟩ := p; refine hK.out _ _ (fun _ => trivial) ?_; clear hK K; have HG1 : Kp (w.grownBy w1 none) := ⟨World.grownBy.trans (HG0.out) g⟩; have HS1 := Kp.mk g; have HP1 : Kp (PartC w1 w.heap.size w1.heap.size .I vb 1 (fc n1 c1) (fc m1 d1)) := ⟨(show PartC w1 w0.heap.size w1.heap.size .I vb 1 (fc n1 c1) (fc m1 d1) from ⟨n1, c1, m1, d1, rfl, rfl, l, tk⟩).kept (Kpt.refl _ _ _) HG0.out.size (Nat.le_refl _)⟩; clear g l tk; refine wpAnyY_one (i := 11) (o := { dst := some 18, op := Op.call { callee := Callee.value (Operand.func 197), args := #[Operand.tmp 17], argTypes := #[185] }, type := 132, pos := "part.go:35", after := #[{ on := 10, ground := Ground.data }, { on := 7, ground := Ground.chain }], guard := none }) (by kernel_rfl) rfl (fun K hK => ?_); go_simp; refine (textP vb 2 _).mono ?_; rintro e w2 ⟨vl, vt, rfl, p, g⟩; obtain ⟨n2, c2, m2, d2, rfl, rfl, l, tk⟩ := p; refine hK.out _ _ (fun _ => trivial) ?_; clear hK K; have HG2 : Kp (w.grownBy w2 none) := ⟨World.grownBy.trans (HG1.out) g⟩; have HS2 := Kp.mk g; have HP2 : Kp (PartC w2 w.heap.size w2.heap.size .T vb 2 (fc n2 c2) (fc m2 d2)) := ⟨(show PartC w2 w1.heap.size w2.heap.size .T vb 2 (fc n2 c2) (fc m2 d2) from ⟨n2, c2, m2, d2, rfl, rfl, l, tk⟩).kept (Kpt.refl _ _ _) HG1.out.size (Nat.le_refl _)⟩; clear g l tk; refine wpAnyY_one (i := 16) (o := { dst := some 23, op := Op.call { callee := Callee.value (Operand.func 198), args := #[Operand.tmp 22], argTypes := #[233] }, type := 132, pos := "part.go:36", after := #[{ on := 15, ground := Ground.data }, { on := 11, ground := Ground.chain }], guard := none }) (by kernel_rfl) rfl (fun K hK => ?_); go_simp; refine (signL vb 3 _).mono ?_; rintro e w3 ⟨vl, vt, rfl, p, g⟩; obtain ⟨n3, c3, m3, d3, rfl, rfl, l, tk⟩ := p; refine hK.out _ _ (fun _ => trivial) ?_; clear hK K; have HG3 : Kp (w.grownBy w3 none) := ⟨World.grownBy.trans (HG2.out) g⟩; have HS3 := Kp.mk g; have HP3 : Kp (PartC w3 w.heap.size w3.heap.size .S vb 3 (fc n3 c3) (fc m3 d3)) := ⟨(show PartC w3 w2.heap.size w3.heap.size .S vb 3 (fc n3 c3) (fc m3 d3) from ⟨n3, c3, m3, d3, rfl, rfl, l, tk⟩).kept (Kpt.refl _ _ _) HG2.out.size (Nat.le_refl _)⟩; clear g l tk; refine wpAnyY_one (i := 21) (o := { dst := some 28, op := Op.call { callee := Callee.value (Operand.func 198), args := #[Operand.tmp 27], argTypes := #[233] }, type := 132, pos := "part.go:36", after := #[{ on := 20, ground := Ground.data }, { on := 16, ground := Ground.chain }], guard := none }) (by kernel_rfl) rfl (fun K hK => ?_); go_simp; refine (signL vb 4 _).mono ?_; rintro e w4 ⟨vl, vt, rfl, p, g⟩; obtain ⟨n4, c4, m4, d4, rfl, rfl, l, tk⟩ := p; refine hK.out _ _ (fun _ => trivial) ?_; clear hK K; have HG4 : Kp (w.grownBy w4 none) := ⟨World.grownBy.trans (HG3.out) g⟩; have HS4 := Kp.mk g; have HP4 : Kp (PartC w4 w.heap.size w4.heap.size .S vb 4 (fc n4 c4) (fc m4 d4)) := ⟨(show PartC w4 w3.heap.size w4.heap.size .S vb 4 (fc n4 c4) (fc m4 d4) from ⟨n4, c4, m4, d4, rfl, rfl, l, tk⟩).kept (Kpt.refl _ _ _) HG3.out.size (Nat.le_refl _)⟩; clear g l tk; refine wpAnyY_one (i := 26) (o := { dst := some 33, op := Op.call { callee := Callee.value (Operand.func 198), args := #[Operand.tmp 32], argTypes := #[233] }, type := 132, pos := "part.go:37", after := #[{ on := 25, ground := Ground.data }, { on := 21, ground := Ground.chain }], guard := none }) (by kernel_rfl) rfl (fun K hK => ?_); go_simp; refine (signL vb 5 _).mono ?_; rintro e w5 ⟨vl, vt, rfl, p, g⟩; obtain ⟨n5, c5, m5, d5, rfl, rfl, l, tk⟩ := p; refine hK.out _ _ (fun _ => trivial) ?_; clear hK K; have HG5 : Kp (w.grownBy w5 none) := ⟨World.grownBy.trans (HG4.out) g⟩; have HS5 := Kp.mk g; have HP5 : Kp (PartC w5 w.heap.size w5.heap.size .S vb 5 (fc n5 c5) (fc m5 d5)) := ⟨(show PartC w5 w4.heap.size w5.heap.size .S vb 5 (fc n5 c5) (fc m5 d5) from ⟨n5, c5, m5, d5, rfl, rfl, l, tk⟩).kept (Kpt.refl _ _ _) HG4.out.size (Nat.le_refl _)⟩; clear g l tk; refine wpAnyY_one (i := 31) (o := { dst := some 38, op := Op.call { callee := Callee.value (Operand.func 198), args := #[Operand.tmp 37], argTypes := #[233] }, type := 132, pos := "part.go:37", after := #[{ on := 30, ground := Ground.data }, { on := 26, ground := Ground.chain }], guard := none }) (by kernel_rfl) rfl (fun K hK => ?_); go_simp; refine (signL vb 6 _).mono ?_; rintro e w6 ⟨vl, vt, rfl, p, g⟩; obtain ⟨n6, c6, m6, d6, rfl, rfl, l, tk⟩ := p; refine hK.out _ _ (fun _ => trivial) ?_; clear hK K; have HG6 : Kp (w.grownBy w6 none) := ⟨World.grownBy.trans (HG5.out) g⟩; have HS6 := Kp.mk g; have HP6 : Kp (PartC w6 w.heap.size w6.heap.size .S vb 6 (fc n6 c6) (fc m6 d6)) := ⟨(show PartC w6 w5.heap.size w6.heap.size .S vb 6 (fc n6 c6) (fc m6 d6) from ⟨n6, c6, m6, d6, rfl, rfl, l, tk⟩).kept (Kpt.refl _ _ _) HG5.out.size (Nat.le_refl _)⟩; clear g l tk; refine wpAnyY_one (i := 35) (o := { dst := some 42, op := Op.call { callee := Callee.value (Operand.func 199), args := #[Operand.tmp 41], argTypes := #[193] }, type := 132, pos := "part.go:38", after := #[{ on := 34, ground := Ground.data }, { on := 31, ground := Ground.chain }], guard := none }) (by kernel_rfl) rfl (fun K hK => ?_); go_simp; refine (signN vb 7 _).mono ?_; rintro e w7 ⟨vl, vt, rfl, p, g⟩; obtain ⟨n7, c7, m7, d7, rfl, rfl, l, tk⟩ := p; refine hK.out _ _ (fun _ => trivial) ?_; clear hK K; have HG7 : Kp (w.grownBy w7 none) := ⟨World.grownBy.trans (HG6.out) g⟩; have HS7 := Kp.mk g; have HP7 : Kp (PartC w7 w.heap.size w7.heap.size .S vb 7 (fc n7 c7) (fc m7 d7)) := ⟨(show PartC w7 w6.heap.size w7.heap.size .S vb 7 (fc n7 c7) (fc m7 d7) from ⟨n7, c7, m7, d7, rfl, rfl, l, tk⟩).kept (Kpt.refl _ _ _) HG6.out.size (Nat.le_refl _)⟩; clear g l tk; refine wpAnyY_one (i := 39) (o := { dst := some 46, op := Op.call { callee := Callee.value (Operand.func 199), args := #[Operand.tmp 45], argTypes := #[193] }, type := 132, pos := "part.go:39", after := #[{ on := 38, ground := Ground.data }, { on := 35, ground := Ground.chain }], guard := none }) (by kernel_rfl) rfl (fun K hK => ?_); go_simp; refine (signN vb 8 _).mono ?_; rintro e w8 ⟨vl, vt, rfl, p, g⟩; obtain ⟨n8, c8, m8, d8, rfl, rfl, l, tk⟩ := p; refine hK.out _ _ (fun _ => trivial) ?_; clear hK K; have HG8 : Kp (w.grownBy w8 none) := ⟨World.grownBy.trans (HG7.out) g⟩; have HS8 := Kp.mk g; have HP8 : Kp (PartC w8 w.heap.size w8.heap.size .S vb 8 (fc n8 c8) (fc m8 d8)) := ⟨(show PartC w8 w7.heap.size w8.heap.size .S vb 8 (fc n8 c8) (fc m8 d8) from ⟨n8, c8, m8, d8, rfl, rfl, l, tk⟩).kept (Kpt.refl _ _ _) HG7.out.size (Nat.le_refl _)⟩; clear g l tk; refine wpAnyY_one (i := 43) (o := { dst := some 50, op := Op.call { callee := Callee.value (Operand.func 199), args := #[Operand.tmp 49], argTypes := #[193] }, type := 132, pos := "part.go:40", after := #[{ on := 42, ground := Ground.data }, { on := 39, ground := Ground.chain }], guard := none }) (by kernel_rfl) rfl (fun K hK => ?_); go_simp; refine (signN vb 9 _).mono ?_; rintro e w9 ⟨vl, vt, rfl, p, g⟩; obtain ⟨n9, c9, m9, d9, rfl, rfl, l, tk⟩ := p; refine hK.out _ _ (fun _ => trivial) ?_; clear hK K; have HG9 : Kp (w.grownBy w9 none) := ⟨World.grownBy.trans (HG8.out) g⟩; have HS9 := Kp.mk g; have HP9 : Kp (PartC w9 w.heap.size w9.heap.size .S vb 9 (fc n9 c9) (fc m9 d9)) := ⟨(show PartC w9 w8.heap.size w9.heap.size .S vb 9 (fc n9 c9) (fc m9 d9) from ⟨n9, c9, m9, d9, rfl, rfl, l, tk⟩).kept (Kpt.refl _ _ _) HG8.out.size (Nat.le_refl _)⟩; clear g l tk; refine wpAnyY_one (i := 47) (o := { dst := some 54, op := Op.call { callee := Callee.value (Operand.func 199), args := #[Operand.tmp 53], argTypes := #[193] }, type := 132, pos := "part.go:41", after := #[{ on := 46, ground := Ground.data }, { on := 43, ground := Ground.chain }], guard := none }) (by kernel_rfl) rfl (fun K hK => ?_); go_simp; refine (signN vb 10 _).mono ?_; rintro e w10 ⟨vl, vt, rfl, p, g⟩; obtain ⟨n10, c10, m10, d10, rfl, rfl, l, tk⟩ := p; refine hK.out _ _ (fun _ => trivial) ?_; clear hK K; have HG10 : Kp (w.grownBy w10 none) := ⟨World.grownBy.trans (HG9.out) g⟩; have HS10 := Kp.mk g; have HP10 : Kp (PartC w10 w.heap.size w10.heap.size .S vb 10 (fc n10 c10) (fc m10 d10)) := ⟨(show PartC w10 w9.heap.size w10.heap.size .S vb 10 (fc n10 c10) (fc m10 d10) from ⟨n10, c10, m10, d10, rfl, rfl, l, tk⟩).kept (Kpt.refl _ _ _) HG9.out.size (Nat.le_refl _)⟩; clear g l tk; refine wpAnyY_one (i := 51) (o := { dst := some 58, op := Op.call { callee := Callee.value (Operand.func 199), args := #[Operand.tmp 57], argTypes := #[193] }, type := 132, pos := "part.go:42", after := #[{ on := 50, ground := Ground.data }, { on := 47, ground := Ground.chain }], guard := none }) (by kernel_rfl) rfl (fun K hK => ?_); go_simp; refine (signN vb 11 _).mono ?_; rintro e w11 ⟨vl, vt, rfl, p, g⟩; obtain ⟨n11, c11, m11, d11, rfl, rfl, l, tk⟩ := p; refine hK.out _ _ (fun _ => trivial) ?_; clear hK K; have HG11 : Kp (w.grownBy w11 none) := ⟨World.grownBy.trans (HG10.out) g⟩; have HS11 := Kp.mk g; have HP11 : Kp (PartC w11 w.heap.size w11.heap.size .S vb 11 (fc n11 c11) (fc m11 d11)) := ⟨(show PartC w11 w10.heap.size w11.heap.size .S vb 11 (fc n11 c11) (fc m11 d11) from ⟨n11, c11, m11, d11, rfl, rfl, l, tk⟩).kept (Kpt.refl _ _ _) HG10.out.size (Nat.le_refl _)⟩; clear g l tk; refine wpAnyY_one (i := 55) (o := { dst := some 62, op := Op.call { callee := Callee.value (Operand.func 199), args := #[Operand.tmp 61], argTypes := #[193] }, type := 132, pos := "part.go:43", after := #[{ on := 54, ground := Ground.data }, { on := 51, ground := Ground.chain }], guard := none }) (by kernel_rfl) rfl (fun K hK => ?_); go_simp; refine (signN vb 12 _).mono ?_; rintro e w12 ⟨vl, vt, rfl, p, g⟩; obtain ⟨n12, c12, m12, d12, rfl, rfl, l, tk⟩ := p; refine hK.out _ _ (fun _ => trivial) ?_; clear hK K; have HG12 : Kp (w.grownBy w12 none) := ⟨World.grownBy.trans (HG11.out) g⟩; have HS12 := Kp.mk g; have HP12 : Kp (PartC w12 w.heap.size w12.heap.size .S vb 12 (fc n12 c12) (fc m12 d12)) := ⟨(show PartC w12 w11.heap.size w12.heap.size .S vb 12 (fc n12 c12) (fc m12 d12) from ⟨n12, c12, m12, d12, rfl, rfl, l, tk⟩).kept (Kpt.refl _ _ _) HG11.out.size (Nat.le_refl _)⟩; clear g l tk; refine wpAnyY_one (i := 59) (o := { dst := some 66, op := Op.call { callee := Callee.value (Operand.func 199), args := #[Operand.tmp 65], argTypes := #[193] }, type := 132, pos := "part.go:44", after := #[{ on := 58, ground := Ground.data }, { on := 55, ground := Ground.chain }], guard := none }) (by kernel_rfl) rfl (fun K hK => ?_); go_simp; refine (signN vb 13 _).mono ?_; rintro e w13 ⟨vl, vt, rfl, p, g⟩; obtain ⟨n13, c13, m13, d13, rfl, rfl, l, tk⟩ := p; refine hK.out _ _ (fun _ => trivial) ?_; clear hK K; have HG13 : Kp (w.grownBy w13 none) := ⟨World.grownBy.trans (HG12.out) g⟩; have HS13 := Kp.mk g; have HP13 : Kp (PartC w13 w.heap.size w13.heap.size .S vb 13 (fc n13 c13) (fc m13 d13)) := ⟨(show PartC w13 w12.heap.size w13.heap.size .S vb 13 (fc n13 c13) (fc m13 d13) from ⟨n13, c13, m13, d13, rfl, rfl, l, tk⟩).kept (Kpt.refl _ _ _) HG12.out.size (Nat.le_refl _)⟩; clear g l tk; refine wpAnyY_one (i := 63) (o := { dst := some 70, op := Op.call { callee := Callee.value (Operand.func 199), args := #[Operand.tmp 69], argTypes := #[193] }, type := 132, pos := "part.go:45", after := #[{ on := 62, ground := Ground.data }, { on := 59, ground := Ground.chain }], guard := none }) (by kernel_rfl) rfl (fun K hK => ?_); go_simp; refine (signN vb 14 _).mono ?_; rintro e w14 ⟨vl, vt, rfl, p, g⟩; obtain ⟨n14, c14, m14, d14, rfl, rfl, l, tk⟩ := p; refine hK.out _ _ (fun _ => trivial) ?_; clear hK K; have HG14 : Kp (w.grownBy w14 none) := ⟨World.grownBy.trans (HG13.out) g⟩; have HS14 := Kp.mk g; have HP14 : Kp (PartC w14 w.heap.size w14.heap.size .S vb 14 (fc n14 c14) (fc m14 d14)) := ⟨(show PartC w14 w13.heap.size w14.heap.size .S vb 14 (fc n14 c14) (fc m14 d14) from ⟨n14, c14, m14, d14, rfl, rfl, l, tk⟩).kept (Kpt.refl _ _ _) HG13.out.size (Nat.le_refl _)⟩; clear g l tk; refine wpAnyY_one (i := 67) (o := { dst := some 74, op := Op.call { callee := Callee.value (Operand.func 200), args := #[Operand.tmp 73], argTypes := #[236] }, type := 132, pos := "part.go:46", after := #[{ on := 66, ground := Ground.data }, { on := 63, ground := Ground.chain }], guard := none }) (by kernel_rfl) rfl (fun K hK => ?_); go_simp; refine (countP vb 15 _).mono ?_; rintro e w15 ⟨vl, vt, rfl, p, g⟩; obtain ⟨n15, c15, m15, d15, rfl, rfl, l, tk⟩ := p; refine hK.out _ _ (fun _ => trivial) ?_; clear hK K; have HG15 : Kp (w.grownBy w15 none) := ⟨World.grownBy.trans (HG14.out) g⟩; have HS15 := Kp.mk g; have HP15 : Kp (PartC w15 w.heap.size w15.heap.size .C vb 15 (fc n15 c15) (fc m15 d15)) := ⟨(show PartC w15 w14.heap.size w15.heap.size .C vb 15 (fc n15 c15) (fc m15 d15) from ⟨n15, c15, m15, d15, rfl, rfl, l, tk⟩).kept (Kpt.refl _ _ _) HG14.out.size (Nat.le_refl _)⟩; clear g l tk; refine wpAnyY_one (i := 68) (o := { dst := some 75, op := Op.buildSlice 199 16 #[(0, Operand.tmp 10), (1, Operand.tmp 14), (2, Operand.tmp 18), (3, Operand.tmp 23), (4, Operand.tmp 28), (5, Operand.tmp 33), (6, Operand.tmp 38), (7, Operand.tmp 42), (8, Operand.tmp 46), (9, Operand.tmp 50), (10, Operand.tmp 54), (11, Operand.tmp 58), (12, Operand.tmp 62), (13, Operand.tmp 66), (14, Operand.tmp 70), (15, Operand.tmp 74)], type := 199, pos := "part.go:32", after := #[{ on := 3, ground := Ground.data }, { on := 7, ground := Ground.data }, { on := 11, ground := Ground.data }, { on := 16, ground := Ground.data }, { on := 21, ground := Ground.data }, { on := 26, ground := Ground.data }, { on := 31, ground := Ground.data }, { on := 35, ground := Ground.data }, { on := 39, ground := Ground.data }, { on := 43, ground := Ground.data }, { on := 47, ground := Ground.data }, { on := 51, ground := Ground.data }, { on := 55, ground := Ground.data }, { on := 59, ground := Ground.data }, { on := 63, ground := Ground.data }, { on := 67, ground := Ground.data }], guard := none }) (by kernel_rfl) rfl (fun K hK => ?_); rw [if_pos (show Region.wanted _ _ = true from rfl)]; refine wp_bs16 199 16 (.tmp 10) (.tmp 14) (.tmp 18) (.tmp 23) (.tmp 28) (.tmp 33) (.tmp 38) (.tmp 42) (.tmp 46) (.tmp 50) (.tmp 54) (.tmp 58) (.tmp 62) (.tmp 66) (.tmp 70) (.tmp 74) rfl (.agg #[fc n0 c0, fc m0 d0]) (.agg #[fc n1 c1, fc m1 d1]) (.agg #[fc n2 c2, fc m2 d2]) (.agg #[fc n3 c3, fc m3 d3]) (.agg #[fc n4 c4, fc m4 d4]) (.agg #[fc n5 c5, fc m5 d5]) (.agg #[fc n6 c6, fc m6 d6]) (.agg #[fc n7 c7, fc m7 d7]) (.agg #[fc n8 c8, fc m8 d8]) (.agg #[fc n9 c9, fc m9 d9]) (.agg #[fc n10 c10, fc m10 d10]) (.agg #[fc n11 c11, fc m11 d11]) (.agg #[fc n12 c12, fc m12 d12]) (.agg #[fc n13 c13, fc m13 d13]) (.agg #[fc n14 c14, fc m14 d14]) (.agg #[fc n15 c15, fc m15 d15]) rfl rfl rfl rfl rfl rfl rfl rfl rfl rfl rfl rfl rfl rfl rfl rfl (bs16 n0 m0 n1 m1 n2 m2 n3 m3 n4 m4 n5 m5 n6 m6 n7 m7 n8 m8 n9 m9 n10 m10 n11 m11 n12 m12 n13 m13 n14 m14 n15 m15 c0 d0 c1 d1 c2 d2 c3 d3 c4 d4 c5 d5 c6 d6 c7 d7 c8 d8 c9 d9 c10 d10 c11 d11 c12 d12 c13 d13 c14 d14 c15 d15 w15) ?_; refine hK.out _ _ (fun _ => trivial) ?_; clear hK K; obtain ⟨wz, hwz⟩ : ∃ q, w15.alloc (.cells #[fc n0 c0, fc m0 d0, fc n1 c1, fc m1 d1, fc n2 c2, fc m2 d2, fc n3 c3, fc m3 d3, fc n4 c4, fc m4 d4, fc n5 c5, fc m5 d5, fc n6 c6, fc m6 d6, fc n7 c7, fc m7 d7, fc n8 c8, fc m8 d8, fc n9 c9, fc m9 d9, fc n10 c10, fc m10 d10, fc n11 c11, fc m11 d11, fc n12 c12, fc m12 d12, fc n13 c13, fc m13 d13, fc n14 c14, fc m14 d14, fc n15 c15, fc m15 d15] 132) = q := ⟨_, rfl⟩; have gz : w15.grownBy wz none := by rw [← hwz]; exact gr_al _ _
  have hz : Has wz w15.heap.size [fc n0 c0, fc m0 d0, fc n1 c1, fc m1 d1, fc n2 c2, fc m2 d2, fc n3 c3, fc m3 d3, fc n4 c4, fc m4 d4, fc n5 c5, fc m5 d5, fc n6 c6, fc m6 d6, fc n7 c7, fc m7 d7, fc n8 c8, fc m8 d8, fc n9 c9, fc m9 d9, fc n10 c10, fc m10 d10, fc n11 c11, fc m11 d11, fc n12 c12, fc m12 d12, fc n13 c13, fc m13 d13, fc n14 c14, fc m14 d14, fc n15 c15, fc m15 d15] 132 := by rw [← hwz]; exact Has.newA w15 _ 132
  have hsz : wz.heap.size = w15.heap.size + 1 := by rw [← hwz]; exact hs1 _ _
  rw [hwz]; have HZ := Kp.mk (And.intro gz (And.intro hz hsz)); clear gz hz hsz hwz; have HT15 : Kp (w15.grownBy wz none) := ⟨HZ.out.1⟩; have HT14 : Kp (w14.grownBy wz none) := ⟨HS15.out.trans HT15.out⟩; have HT13 : Kp (w13.grownBy wz none) := ⟨HS14.out.trans HT14.out⟩; have HT12 : Kp (w12.grownBy wz none) := ⟨HS13.out.trans HT13.out⟩; have HT11 : Kp (w11.grownBy wz none) := ⟨HS12.out.trans HT12.out⟩; have HT10 : Kp (w10.grownBy wz none) := ⟨HS11.out.trans HT11.out⟩; have HT9 : Kp (w9.grownBy wz none) := ⟨HS10.out.trans HT10.out⟩; have HT8 : Kp (w8.grownBy wz none) := ⟨HS9.out.trans HT9.out⟩; have HT7 : Kp (w7.grownBy wz none) := ⟨HS8.out.trans HT8.out⟩; have HT6 : Kp (w6.grownBy wz none) := ⟨HS7.out.trans HT7.out⟩; have HT5 : Kp (w5.grownBy wz none) := ⟨HS6.out.trans HT6.out⟩; have HT4 : Kp (w4.grownBy wz none) := ⟨HS5.out.trans HT5.out⟩; have HT3 : Kp (w3.grownBy wz none) := ⟨HS4.out.trans HT4.out⟩; have HT2 : Kp (w2.grownBy wz none) := ⟨HS3.out.trans HT3.out⟩; have HT1 : Kp (w1.grownBy wz none) := ⟨HS2.out.trans HT2.out⟩; have HT0 : Kp (w0.grownBy wz none) := ⟨HS1.out.trans HT1.out⟩; simp only [Act.put, uz]; refine yo 69 (fun K hK => ?_) rfl; go_simp; refine hK.out _ _ (fun h => h) ?_; clear hK K; refine yd ?_; go_wp2_with fail; go_ret; refine ⟨w15.heap.size, [(fc n0 c0, fc m0 d0), (fc n1 c1, fc m1 d1), (fc n2 c2, fc m2 d2), (fc n3 c3, fc m3 d3), (fc n4 c4, fc m4 d4), (fc n5 c5, fc m5 d5), (fc n6 c6, fc m6 d6), (fc n7 c7, fc m7 d7), (fc n8 c8, fc m8 d8), (fc n9 c9, fc m9 d9), (fc n10 c10, fc m10 d10), (fc n11 c11, fc m11 d11), (fc n12 c12, fc m12 d12), (fc n13 c13, fc m13 d13), (fc n14 c14, fc m14 d14), (fc n15 c15, fc m15 d15)], rfl, ⟨rfl, HZ.out.2.1, ?_, ?_⟩, HG15.out.trans HZ.out.1⟩
  · intro k p m e1 e2
    match k, e1, e2 with
    | 0, e1, e2 => obtain rfl := Option.some.inj e1; obtain rfl := Option.some.inj e2; exact (show PartC wz w.heap.size wz.heap.size .U vb (0 + 0) (fc n0 c0) (fc m0 d0) from HP0.out.kept (Kpt.grown HT0.out (Nat.le_refl _)) (Nat.le_refl _) HT0.out.size)
    | 1, e1, e2 => obtain rfl := Option.some.inj e1; obtain rfl := Option.some.inj e2; exact (show PartC wz w.heap.size wz.heap.size .I vb (0 + 1) (fc n1 c1) (fc m1 d1) from HP1.out.kept (Kpt.grown HT1.out (Nat.le_refl _)) (Nat.le_refl _) HT1.out.size)
    | 2, e1, e2 => obtain rfl := Option.some.inj e1; obtain rfl := Option.some.inj e2; exact (show PartC wz w.heap.size wz.heap.size .T vb (0 + 2) (fc n2 c2) (fc m2 d2) from HP2.out.kept (Kpt.grown HT2.out (Nat.le_refl _)) (Nat.le_refl _) HT2.out.size)
    | 3, e1, e2 => obtain rfl := Option.some.inj e1; obtain rfl := Option.some.inj e2; exact (show PartC wz w.heap.size wz.heap.size .S vb (0 + 3) (fc n3 c3) (fc m3 d3) from HP3.out.kept (Kpt.grown HT3.out (Nat.le_refl _)) (Nat.le_refl _) HT3.out.size)
    | 4, e1, e2 => obtain rfl := Option.some.inj e1; obtain rfl := Option.some.inj e2; exact (show PartC wz w.heap.size wz.heap.size .S vb (0 + 4) (fc n4 c4) (fc m4 d4) from HP4.out.kept (Kpt.grown HT4.out (Nat.le_refl _)) (Nat.le_refl _) HT4.out.size)
    | 5, e1, e2 => obtain rfl := Option.some.inj e1; obtain rfl := Option.some.inj e2; exact (show PartC wz w.heap.size wz.heap.size .S vb (0 + 5) (fc n5 c5) (fc m5 d5) from HP5.out.kept (Kpt.grown HT5.out (Nat.le_refl _)) (Nat.le_refl _) HT5.out.size)
    | 6, e1, e2 => obtain rfl := Option.some.inj e1; obtain rfl := Option.some.inj e2; exact (show PartC wz w.heap.size wz.heap.size .S vb (0 + 6) (fc n6 c6) (fc m6 d6) from HP6.out.kept (Kpt.grown HT6.out (Nat.le_refl _)) (Nat.le_refl _) HT6.out.size)
    | 7, e1, e2 => obtain rfl := Option.some.inj e1; obtain rfl := Option.some.inj e2; exact (show PartC wz w.heap.size wz.heap.size .S vb (0 + 7) (fc n7 c7) (fc m7 d7) from HP7.out.kept (Kpt.grown HT7.out (Nat.le_refl _)) (Nat.le_refl _) HT7.out.size)
    | 8, e1, e2 => obtain rfl := Option.some.inj e1; obtain rfl := Option.some.inj e2; exact (show PartC wz w.heap.size wz.heap.size .S vb (0 + 8) (fc n8 c8) (fc m8 d8) from HP8.out.kept (Kpt.grown HT8.out (Nat.le_refl _)) (Nat.le_refl _) HT8.out.size)
    | 9, e1, e2 => obtain rfl := Option.some.inj e1; obtain rfl := Option.some.inj e2; exact (show PartC wz w.heap.size wz.heap.size .S vb (0 + 9) (fc n9 c9) (fc m9 d9) from HP9.out.kept (Kpt.grown HT9.out (Nat.le_refl _)) (Nat.le_refl _) HT9.out.size)
    | 10, e1, e2 => obtain rfl := Option.some.inj e1; obtain rfl := Option.some.inj e2; exact (show PartC wz w.heap.size wz.heap.size .S vb (0 + 10) (fc n10 c10) (fc m10 d10) from HP10.out.kept (Kpt.grown HT10.out (Nat.le_refl _)) (Nat.le_refl _) HT10.out.size)
    | 11, e1, e2 => obtain rfl := Option.some.inj e1; obtain rfl := Option.some.inj e2; exact (show PartC wz w.heap.size wz.heap.size .S vb (0 + 11) (fc n11 c11) (fc m11 d11) from HP11.out.kept (Kpt.grown HT11.out (Nat.le_refl _)) (Nat.le_refl _) HT11.out.size)
    | 12, e1, e2 => obtain rfl := Option.some.inj e1; obtain rfl := Option.some.inj e2; exact (show PartC wz w.heap.size wz.heap.size .S vb (0 + 12) (fc n12 c12) (fc m12 d12) from HP12.out.kept (Kpt.grown HT12.out (Nat.le_refl _)) (Nat.le_refl _) HT12.out.size)
    | 13, e1, e2 => obtain rfl := Option.some.inj e1; obtain rfl := Option.some.inj e2; exact (show PartC wz w.heap.size wz.heap.size .S vb (0 + 13) (fc n13 c13) (fc m13 d13) from HP13.out.kept (Kpt.grown HT13.out (Nat.le_refl _)) (Nat.le_refl _) HT13.out.size)
    | 14, e1, e2 => obtain rfl := Option.some.inj e1; obtain rfl := Option.some.inj e2; exact (show PartC wz w.heap.size wz.heap.size .S vb (0 + 14) (fc n14 c14) (fc m14 d14) from HP14.out.kept (Kpt.grown HT14.out (Nat.le_refl _)) (Nat.le_refl _) HT14.out.size)
    | 15, e1, e2 => obtain rfl := Option.some.inj e1; obtain rfl := Option.some.inj e2; exact (show PartC wz w.heap.size wz.heap.size .C vb (0 + 15) (fc n15 c15) (fc m15 d15) from HP15.out.kept (Kpt.grown HT15.out (Nat.le_refl _)) (Nat.le_refl _) HT15.out.size)
    | k + 16, e1, e2 => cases e1
  · have := HG15.out.size; have := HZ.out.2.2; omega
theorem thing_c (vb o : Nat) (w : World) :
    Calls prog 160 #[pa vb o] w fun e w' => ∃ hb L, e = .returned (.slice (some ⟨hb, 0, none⟩) 5 5) ∧ Parts w' w.heap.size w'.heap.size tMs vb o hb L ∧ w.grownBy w' none := by
  go_enter func160, ntmps160; go_wp2_with fail; refine region_Y (S := fun _ => True) [] (by kernel_rfl) ?_; have hHeld := trivial; refine yq 0 rfl ?_; refine yq 1 rfl ?_; refine yq 2 rfl ?_; refine yq 4 rfl ?_; refine yq 5 rfl ?_; refine yq 6 rfl ?_; refine yq 8 rfl ?_; refine yq 9 rfl ?_; refine yq 10 rfl ?_; refine yq 11 rfl ?_; refine yq 13 rfl ?_; refine yq 14 rfl ?_; refine yq 15 rfl ?_; refine yq 16 rfl ?_; refine yq 18 rfl ?_; refine yq 19 rfl ?_; refine yq 20 rfl ?_; simp only [Act.put, uz]; refine yo 3 (fun K hK => ?_) rfl; go_simp; refine (plainI vb (o + 0) _).mono ?_; rintro e w0 ⟨vl, vt, rfl, p, g⟩; obtain ⟨n0, c0, m0, d0, rfl, rfl, l, tk⟩ := p; refine hK.out _ _ (fun _ => trivial) ?_; clear hK K; have HG0 : Kp (w.grownBy w0 none) := ⟨World.grownBy.trans (gr_drew _ none) g⟩; have HP0 : Kp (PartC w0 w.heap.size w0.heap.size .I vb (o + 0) (fc n0 c0) (fc m0 d0)) := ⟨(show PartC w0 w.heap.size w0.heap.size .I vb (o + 0) (fc n0 c0) (fc m0 d0) from ⟨n0, c0, m0, d0, rfl, rfl, l, tk⟩).kept (Kpt.refl _ _ _) (Nat.le_refl _) (Nat.le_refl _)⟩; clear g l tk; refine yo 7 (fun K hK => ?_) rfl; go_simp; refine (signN vb (o + 1) _).mono ?_; rintro e w1 ⟨vl, vt, rfl, p, g⟩; obtain ⟨n1, c1, m1, d1, rfl, rfl, l, tk⟩ := p; refine hK.out _ _ (fun _ => trivial) ?_; clear hK K; have HG1 : Kp (w.grownBy w1 none) := ⟨World.grownBy.trans (HG0.out) g⟩; have HS1 := Kp.mk g; have HP1 : Kp (PartC w1 w.heap.size w1.heap.size .S vb (o + 1) (fc n1 c1) (fc m1 d1)) := ⟨(show PartC w1 w0.heap.size w1.heap.size .S vb (o + 1) (fc n1 c1) (fc m1 d1) from ⟨n1, c1, m1, d1, rfl, rfl, l, tk⟩).kept (Kpt.refl _ _ _) HG0.out.size (Nat.le_refl _)⟩; clear g l tk; refine yo 12 (fun K hK => ?_) rfl; go_simp; refine (signL vb (o + 2) _).mono ?_; rintro e w2 ⟨vl, vt, rfl, p, g⟩; obtain ⟨n2, c2, m2, d2, rfl, rfl, l, tk⟩ := p; refine hK.out _ _ (fun _ => trivial) ?_; clear hK K; have HG2 : Kp (w.grownBy w2 none) := ⟨World.grownBy.trans (HG1.out) g⟩; have HS2 := Kp.mk g; have HP2 : Kp (PartC w2 w.heap.size w2.heap.size .S vb (o + 2) (fc n2 c2) (fc m2 d2)) := ⟨(show PartC w2 w1.heap.size w2.heap.size .S vb (o + 2) (fc n2 c2) (fc m2 d2) from ⟨n2, c2, m2, d2, rfl, rfl, l, tk⟩).kept (Kpt.refl _ _ _) HG1.out.size (Nat.le_refl _)⟩; clear g l tk; refine yo 17 (fun K hK => ?_) rfl; go_simp; refine (signL vb (o + 3) _).mono ?_; rintro e w3 ⟨vl, vt, rfl, p, g⟩; obtain ⟨n3, c3, m3, d3, rfl, rfl, l, tk⟩ := p; refine hK.out _ _ (fun _ => trivial) ?_; clear hK K; have HG3 : Kp (w.grownBy w3 none) := ⟨World.grownBy.trans (HG2.out) g⟩; have HS3 := Kp.mk g; have HP3 : Kp (PartC w3 w.heap.size w3.heap.size .S vb (o + 3) (fc n3 c3) (fc m3 d3)) := ⟨(show PartC w3 w2.heap.size w3.heap.size .S vb (o + 3) (fc n3 c3) (fc m3 d3) from ⟨n3, c3, m3, d3, rfl, rfl, l, tk⟩).kept (Kpt.refl _ _ _) HG2.out.size (Nat.le_refl _)⟩; clear g l tk; refine yo 21 (fun K hK => ?_) rfl; go_simp; refine (plainI vb (o + 4) _).mono ?_; rintro e w4 ⟨vl, vt, rfl, p, g⟩; obtain ⟨n4, c4, m4, d4, rfl, rfl, l, tk⟩ := p; refine hK.out _ _ (fun _ => trivial) ?_; clear hK K; have HG4 : Kp (w.grownBy w4 none) := ⟨World.grownBy.trans (HG3.out) g⟩; have HS4 := Kp.mk g; have HP4 : Kp (PartC w4 w.heap.size w4.heap.size .I vb (o + 4) (fc n4 c4) (fc m4 d4)) := ⟨(show PartC w4 w3.heap.size w4.heap.size .I vb (o + 4) (fc n4 c4) (fc m4 d4) from ⟨n4, c4, m4, d4, rfl, rfl, l, tk⟩).kept (Kpt.refl _ _ _) HG3.out.size (Nat.le_refl _)⟩; clear g l tk; refine yo 22 (fun K hK => ?_) rfl; rw [if_pos (show Region.wanted _ _ = true from rfl)]; refine wp_bs5 199 5 (.tmp 6) (.tmp 10) (.tmp 15) (.tmp 20) (.tmp 24) rfl (.agg #[fc n0 c0, fc m0 d0]) (.agg #[fc n1 c1, fc m1 d1]) (.agg #[fc n2 c2, fc m2 d2]) (.agg #[fc n3 c3, fc m3 d3]) (.agg #[fc n4 c4, fc m4 d4]) rfl rfl rfl rfl rfl (bs5 n0 m0 n1 m1 n2 m2 n3 m3 n4 m4 c0 d0 c1 d1 c2 d2 c3 d3 c4 d4 w4) ?_; refine hK.out _ _ (fun _ => trivial) ?_; clear hK K; obtain ⟨wz, hwz⟩ : ∃ q, w4.alloc (.cells #[fc n0 c0, fc m0 d0, fc n1 c1, fc m1 d1, fc n2 c2, fc m2 d2, fc n3 c3, fc m3 d3, fc n4 c4, fc m4 d4] 132) = q := ⟨_, rfl⟩; have gz : w4.grownBy wz none := by rw [← hwz]; exact gr_al _ _
  have hz : Has wz w4.heap.size [fc n0 c0, fc m0 d0, fc n1 c1, fc m1 d1, fc n2 c2, fc m2 d2, fc n3 c3, fc m3 d3, fc n4 c4, fc m4 d4] 132 := by rw [← hwz]; exact Has.newA w4 _ 132
  have hsz : wz.heap.size = w4.heap.size + 1 := by rw [← hwz]; exact hs1 _ _
  rw [hwz]; have HZ := Kp.mk (And.intro gz (And.intro hz hsz)); clear gz hz hsz hwz; have HT4 : Kp (w4.grownBy wz none) := ⟨HZ.out.1⟩; have HT3 : Kp (w3.grownBy wz none) := ⟨HS4.out.trans HT4.out⟩; have HT2 : Kp (w2.grownBy wz none) := ⟨HS3.out.trans HT3.out⟩; have HT1 : Kp (w1.grownBy wz none) := ⟨HS2.out.trans HT2.out⟩; have HT0 : Kp (w0.grownBy wz none) := ⟨HS1.out.trans HT1.out⟩; simp only [Act.put, uz]; refine yo 23 (fun K hK => ?_) rfl; go_simp; refine hK.out _ _ (fun h => h) ?_; clear hK K; refine yd ?_; go_wp2_with fail; go_ret; refine ⟨w4.heap.size, [(fc n0 c0, fc m0 d0), (fc n1 c1, fc m1 d1), (fc n2 c2, fc m2 d2), (fc n3 c3, fc m3 d3), (fc n4 c4, fc m4 d4)], rfl, ⟨rfl, HZ.out.2.1, ?_, ?_⟩, HG4.out.trans HZ.out.1⟩
  · intro k p m e1 e2
    match k, e1, e2 with
    | 0, e1, e2 => obtain rfl := Option.some.inj e1; obtain rfl := Option.some.inj e2; exact HP0.out.kept (Kpt.grown HT0.out (Nat.le_refl _)) (Nat.le_refl _) HT0.out.size
    | 1, e1, e2 => obtain rfl := Option.some.inj e1; obtain rfl := Option.some.inj e2; exact HP1.out.kept (Kpt.grown HT1.out (Nat.le_refl _)) (Nat.le_refl _) HT1.out.size
    | 2, e1, e2 => obtain rfl := Option.some.inj e1; obtain rfl := Option.some.inj e2; exact HP2.out.kept (Kpt.grown HT2.out (Nat.le_refl _)) (Nat.le_refl _) HT2.out.size
    | 3, e1, e2 => obtain rfl := Option.some.inj e1; obtain rfl := Option.some.inj e2; exact HP3.out.kept (Kpt.grown HT3.out (Nat.le_refl _)) (Nat.le_refl _) HT3.out.size
    | 4, e1, e2 => obtain rfl := Option.some.inj e1; obtain rfl := Option.some.inj e2; exact HP4.out.kept (Kpt.grown HT4.out (Nat.le_refl _)) (Nat.le_refl _) HT4.out.size
    | k + 5, e1, e2 => cases e1
  · have := HG4.out.size; have := HZ.out.2.2; omega
structure Sn where
  k : Int
  i : Int
  x : Int
  y : Int
  h : Int
deriving DecidableEq
def Sn.lv (s : Sn) : List Lv := [.num s.k, .num s.i, .num s.x, .num s.y, .num s.h]
def Sn.cs (s : Sn) : List Value := [iv s.k, iv s.i, iv s.x, iv s.y, iv s.h]
def hK : List Kd := hMs.map Mk.kd
def tK : List Kd := tMs.map Mk.kd
def laySn (S : List Sn) (st : WS) : WS := S.foldl (fun st s => Pk.layL tK s.lv st) st
def SnR (w : World) (b o : Nat) (S : List Sn) : Prop := ∀ (j : Nat) (s : Sn), S[j]? = some s → ∀ (i : Nat) (z : Value), s.cs[i]? = some z → w.cell? ⟨b, o + 5 * j + i, none⟩ = some z
theorem SnR.fr {F : Nat → Prop} {w w' : World} {b o : Nat} {S : List Sn} (h : SnR w b o S) (f : Fr F w w') (hb : ¬ F b) : SnR w' b o S := fun j s e i z hz => fr_cell f hb (h j s e i z hz)
def Says : List Mk → List Lv → List Value → Prop
  | [], [], [] => True
  | m :: ms, x :: xs, z :: zs => m.r x z ∧ Says ms xs zs
  | _, _, _ => False
theorem Says.len : ∀ {ms : List Mk} {xs : List Lv} {zs : List Value} (_ : Says ms xs zs), xs.length = ms.length ∧ zs.length = ms.length
  | [], [], [], _ => ⟨rfl, rfl⟩
  | _ :: ms, _ :: xs, _ :: zs, h => by have := Says.len h.2; exact ⟨by simp [this.1], by simp [this.2]⟩
theorem layL_len : ∀ (ks : List Kd) (vs : List Lv) (st : WS), okL ks vs → ((Pk.layL ks vs st).getD []).length ≤ (st.getD []).length + 256 * ks.length
  | [], [], st, _ => by simp [Pk.layL]
  | k :: ks, v :: vs, st, h => by
    have h1 := layK_len k v st h.1; have h2 := layL_len ks vs (layK k v st) h.2; rw [Pk.layL, List.length_cons]; omega
def Sn.ok (s : Sn) : Prop := okL tK s.lv
theorem laySn_len (S : List Sn) (st : WS) (h : ∀ s ∈ S, s.ok) : ((laySn S st).getD []).length ≤ (st.getD []).length + 1280 * S.length := by
  induction S generalizing st with
  | nil => simp [laySn]
  | cons s r ih =>
    have h1 := layL_len tK s.lv st (h s (by simp)); have h2 := ih (Pk.layL tK s.lv st) (fun x hx => h x (by simp [hx])); have h3 : laySn (s :: r) st = laySn r (Pk.layL tK s.lv st) := rfl; have h4 : tK.length = 5 := rfl; rw [h3, List.length_cons]; omega
theorem laySn_take (S : List Sn) (st : WS) (j : Nat) (s : Sn) (h : S[j]? = some s) : laySn (S.take (j + 1)) st = Pk.layL tK s.lv (laySn (S.take j) st) := by
  unfold laySn; rw [List.take_add_one, h, List.foldl_append]; rfl
theorem hasN {w : World} {a : Array Value} {t : TypeId} {wz : World} (h : w.alloc (.cells a t) = wz) : Has wz w.heap.size a.toList t ∧ w.grownBy wz none ∧ wz.heap.size = w.heap.size + 1 := by
  subst h; exact ⟨Has.newA w a t, gr_al _ _, hs1 _ _⟩
theorem hKl (k : Nat) : (hK.take k).length ≤ 16 := by
  rw [List.length_take]; have : hK.length = 16 := rfl; omega
theorem some_at {α : Type} {l : List α} {k : Nat} (h : k < l.length) : ∃ x, l[k]? = some x := ⟨l[k], List.getElem?_eq_getElem h⟩
theorem says_app : ∀ {ms ms' : List Mk} {xs xs' : List Lv} {zs zs' : List Value}, Says ms xs zs → Says ms' xs' zs' → Says (ms ++ ms') (xs ++ xs') (zs ++ zs')
  | [], _, [], _, [], _, _, k => k
  | _ :: ms, _, _ :: _, _, _ :: _, _, h, k => ⟨h.1, says_app (ms := ms) h.2 k⟩
theorem take_snoc {α : Type} {l : List α} {k : Nat} {x : α} (h : l[k]? = some x) : l.take (k + 1) = l.take k ++ [x] := by
  rw [List.take_add_one, h]; rfl
theorem takeL_take (ks : List Kd) (st : RS) (k : Nat) (kd : Kd) (h : ks[k]? = some kd) : takeL (ks.take (k + 1)) st = ((takeL (ks.take k) st).1 ++ [(takeK kd (takeL (ks.take k) st).2).1], (takeK kd (takeL (ks.take k) st).2).2) := by
  rw [take_snoc h, takeL_app]; rfl
theorem says_take {ms : List Mk} {k : Nat} {m : Mk} {xs : List Lv} {zs : List Value} {x : Lv} {z : Value} (h : Says (ms.take k) xs zs) (hm : ms[k]? = some m) (hr : m.r x z) : Says (ms.take (k + 1)) (xs ++ [x]) (zs ++ [z]) := by
  rw [take_snoc hm]; exact says_app h ⟨hr, trivial⟩
theorem set_mid {A Z : List Value} {k : Nat} (v : Value) (hA : A.length = k) (hk : k < Z.length) : (A ++ Z.drop k).set k v = (A ++ [v]) ++ Z.drop (k + 1) := by
  rw [List.set_append_right _ _ (by omega), hA, Nat.sub_self, List.drop_eq_getElem_cons hk, List.set_cons_zero]; simp
def snOf : List Lv → Sn
  | [.num a, .num b, .num c, .num d, .num e] => ⟨a, b, c, d, e⟩
  | _ => ⟨0, 0, 0, 0, 0⟩
theorem snOf_lv (st : RS) : (snOf (takeL tK st).1).lv = (takeL tK st).1 := by
  simp only [tK, tMs, List.map_cons, List.map_nil, Mk.kd, takeL, takeK, snOf, Sn.lv]
def takeSn : Nat → RS → List Sn × RS
  | 0, st => ([], st)
  | n + 1, st => ((takeSn n st).1 ++ [snOf (takeL tK (takeSn n st).2).1], (takeL tK (takeSn n st).2).2)
theorem takeSn_len : ∀ (n : Nat) (st : RS), (takeSn n st).1.length = n
  | 0, _ => rfl
  | n + 1, st => by rw [takeSn, List.length_append, takeSn_len n st]; rfl
def fls (S : List Sn) : List Value := S.flatMap Sn.cs
theorem fls_len (S : List Sn) : (fls S).length = 5 * S.length := by
  unfold fls
  induction S with
  | nil => rfl
  | cons s r ih => rw [List.flatMap_cons, List.length_append, ih, List.length_cons]; show 5 + 5 * r.length = _; omega
theorem fls_app (S : List Sn) (s : Sn) : fls (S ++ [s]) = fls S ++ s.cs := by simp [fls]
theorem says_cs {st : RS} {zs : List Value} (h : Says tMs (takeL tK st).1 zs) : zs = (snOf (takeL tK st).1).cs := by
  rw [← snOf_lv] at h; generalize snOf (takeL tK st).1 = s at h
  match zs, h with
  | [z1, z2, z3, z4, z5], ⟨⟨_, e1, h1⟩, ⟨_, e2, h2⟩, ⟨_, e3, h3⟩, ⟨_, e4, h4⟩, ⟨_, e5, h5⟩, _⟩ =>
    cases e1; cases e2; cases e3; cases e4; cases e5; subst h1 h2 h3 h4 h5; rfl
  | [], h => exact h.elim
  | [_], h => exact h.2.elim
  | [_, _], h => exact h.2.2.elim
  | [_, _, _], h => exact h.2.2.2.elim
  | [_, _, _, _], h => exact h.2.2.2.2.elim
  | _ :: _ :: _ :: _ :: _ :: _ :: _, h => exact h.2.2.2.2.2.elim
theorem t_r {m : Mk} {W w1 : World} {x : Lv} {v : Value} (h : m.t W w1 x v) : m.r x v := by
  cases m with
  | C => obtain ⟨n, g, cs, e1, e2, _⟩ := h; exact ⟨_, n, n, e1, e2⟩
  | _ => exact h
theorem t_old {m : Mk} {W W' w1 : World} {x : Lv} {v : Value} (h : m.t W' w1 x v) (g : W.heap.size ≤ W'.heap.size) : m.t W w1 x v := by
  cases m with
  | C => obtain ⟨n, b, cs, e1, e2, e3, e4⟩ := h; exact ⟨n, b, cs, e1, e2, by omega, e4⟩
  | _ => exact h
theorem entR : Ent 94 := fun _ _ => by kernel_rfl
theorem dor_c (w : World) (lo hi : Nat) (m : Mk) (b o nl nt : Nat) (cl ct : Array Value) (h : TakeC w lo hi m b o nt ct) (W : World) (rb B rx : Nat) (st : RS) (z : Value)
    (hk : Kpt lo hi w W) (hh : hi ≤ W.heap.size) (h1 : rb < lo ∨ hi ≤ rb) (h2 : b < lo ∨ hi ≤ b) (h3 : b ≠ rb) (hz : W.cell? ⟨b, o, none⟩ = some z) (hf : W.frozen? ⟨b, o, none⟩ = false) (ha : RAt W rb B st) (hx : W.cell? ⟨rx, 0, none⟩ = some (pa rb 0)) :
    Calls prog 94 #[.agg #[fc nl cl, fc nt ct], pa rx 0] W fun e w' => e = .returned (.tuple #[]) ∧ ∃ w1 v, RDid W w1 rb B (takeK m.kd st).2 ∧ m.t W w1 (takeK m.kd st).1 v ∧ w' = w1.setCell ⟨b, o, none⟩ v := by
  obtain ⟨w1, hw1⟩ : ∃ q, W.alloc (.cells #[fc nl cl, fc nt ct] 132) = q := ⟨_, rfl⟩; obtain ⟨i1, g1, s1⟩ := hasN hw1; have HC := Kp.mk (h.2 w1 rb B st z (hk.trans (Kpt.grown g1 hh)) h1 h2 h3 (g1.cell hz (by simp)) (fr_frozen (S := fun _ => False) (Fr.ofNone g1) (fun e => e) hz hf) (ha.kept g1)); have hen := h.1; have c1 : w1.cell? ⟨W.heap.size, 1, none⟩ = some (fc nt ct) := i1.cellv 1 _ rfl; have c2 : w1.cell? ⟨rx, 0, none⟩ = some (pa rb 0) := g1.cell hx (by simp); have HG := Kp.mk g1; clear h hk hh h1 h2 h3 hz hf ha i1 g1 s1 hx; go_enter func94, ntmps94; go_wp2_with fail; refine HC.out.mono ?_; rintro e w2 ⟨rfl, w3, v, d, mt, hw2⟩; have HD := Kp.mk (And.intro (RDid.ahead HG.out d) (And.intro (t_old mt HG.out.size) hw2)); clear d mt hw2 HC; go_wp2_with fail
  go_end0
  exact ⟨rfl, w3, v, HD.out.1, HD.out.2.1, HD.out.2.2⟩
structure Tk (w1 w : World) (rb B vb k : Nat) (A Z : List Value) (ty : TypeId) (ms : List Mk) (xs : List Lv) (st : RS) (Cs : List Value) : Prop where
  h : Has w vb (A ++ (Cs ++ Z.drop k)) ty
  n : Cs.length = k
  s : Says (ms.take k) xs Cs
  r : RAt w rb B st
  f : Fr (fun i => i = rb ∨ i = vb) w1 w
theorem Tk.next {w1 wr wz w2 : World} {rb B vb k : Nat} {A Z : List Value} {ty : TypeId} {ms : List Mk} {xs : List Lv} {st : RS} {Cs : List Value} (h : Tk w1 wr rb B vb k A Z ty ms xs st Cs) (g : wr.grownBy wz none) (hk : k < Z.length) (hn : vb ≠ rb) (hB : vb ≠ B)
    {m : Mk} {v : Value} (hm : ms[k]? = some m) (d : RDid wz w2 rb B (takeK m.kd st).2) (ht : m.t wz w2 (takeK m.kd st).1 v) :
    Tk w1 (w2.setCell ⟨vb, A.length + k, none⟩ v) rb B vb (k + 1) A Z ty ms (xs ++ [(takeK m.kd st).1]) (takeK m.kd st).2 (Cs ++ [v]) := by
  have h2 : Has w2 vb (A ++ (Cs ++ Z.drop k)) ty := (h.h.kept g (by simp)).fr d.f hn; have f3 : Fr (fun i => i = vb) w2 (w2.setCell ⟨vb, A.length + k, none⟩ v) := Fr.ofSome (gr_set _ _ _ _) rfl; refine ⟨?_, by rw [List.length_append, h.n]; rfl, says_take h.s hm (t_r ht), d.a.fr f3 (fun e => hn e.symm) (fun e => hB e.symm), ?_⟩
  · have := h2.setCell (A.length + k) v; rw [List.set_append_right _ _ (by omega), Nat.add_sub_cancel_left, set_mid v h.n hk] at this; exact this
  · have f1 : Fr (fun i => i = rb ∨ i = vb) wr w2 := ((Fr.ofNone g).trans (d.f.mono (fun i e => .inl (.inl e)))); exact (h.f.trans f1).trans (f3.mono (fun i e => .inl (.inr e)))
theorem cell_lt {w : World} {b o : Nat} {v : Value} (h : w.cell? ⟨b, o, none⟩ = some v) : b < w.heap.size := by
  refine Nat.lt_of_not_le (fun q => ?_); unfold World.cell? at h; rw [Array.getElem?_eq_none q] at h; cases h
def Lst (w1 w : World) (Cs : List Value) : Prop := ∃ n g cs, Cs[15]? = some (.slice (some ⟨g, 0, none⟩) n n) ∧ n ≤ 255 ∧ w1.heap.size ≤ g ∧ Has w g cs 98 ∧ cs.length = n * 5
structure EaR (w w' : World) (vb rb B : Nat) (st0 : RS) (Cs : List Value) (n g : Nat) : Prop where
  v : Has w' vb Cs 49
  s : Says hMs (takeL hK st0).1 Cs
  c : Cs[15]? = some (.slice (some ⟨g, 0, none⟩) n n)
  nn : n ≤ 255
  gg : w.heap.size ≤ g
  h : Has w' g (fls (takeSn n (takeL hK st0).2).1) 98
  r : RAt w' rb B (takeSn n (takeL hK st0).2).2
  f : Fr (fun i => i = rb ∨ i = vb) w w'
structure Ou (w w' : World) (vb rb B g j : Nat) (st1 : RS) (Cs cs : List Value) : Prop where
  v : Has w' vb Cs 49
  h : Has w' g (fls (takeSn j st1).1 ++ cs.drop (5 * j)) 98
  r : RAt w' rb B (takeSn j st1).2
  f : Fr (fun i => i = rb ∨ i = vb) w w'
theorem u1_lt {st : RS} {n : Nat} (h : (takeK .u1 st).1 = .num (n : Nat)) : n ≤ 255 := by
  have h2 : (((rNum st 1).1 : Nat) : Int) = (n : Nat) := by
    have := h; simp only [takeK, Lv.num.injEq] at this; exact this
  have := rNum_lt1 st; omega
theorem m15 {m : Mk} (h : hMs[15]? = some m) : m = .C := (Option.some.inj h).symm
theorem lst_next {w1 wz w2 : World} {vb k : Nat} {m : Mk} {Cs : List Value} {x : Lv} {v : Value} (hm : hMs[k]? = some m) (hk : k + 1 = 16) (hn : Cs.length = k) (ht : m.t wz w2 x v) (hx : ∀ n : Nat, x = .num (n : Nat) → m = .C → n ≤ 255) (hz : w1.heap.size ≤ wz.heap.size) (hv : vb < wz.heap.size) : Lst w1 (w2.setCell ⟨vb, k, none⟩ v) (Cs ++ [v]) := by
  obtain rfl : k = 15 := by omega
  obtain rfl := m15 hm; obtain ⟨n, g, cs, e1, e2, e3, e4, e5⟩ := ht; refine ⟨n, g, cs, ?_, hx n e1 rfl, by omega, e4.fr (S := fun i => i = vb) (Fr.ofSome (gr_set _ _ _ _) rfl) (by omega), e5⟩; rw [List.getElem?_append_right (by omega), hn, Nat.sub_self, e2]; rfl
theorem Lst.fr {w1 w w' : World} {Cs : List Value} {S : Nat → Prop} (h : Lst w1 w Cs) (f : Fr S w w') (hs : ∀ i, w1.heap.size ≤ i → ¬ S i) : Lst w1 w' Cs := by
  obtain ⟨n, g, cs, e1, e2, e3, e4, e5⟩ := h; exact ⟨n, g, cs, e1, e2, e3, e4.fr f (hs g e3), e5⟩
theorem each_r (w : World) (vb rb B rx : Nat) (st0 : RS) (Z : List Value) (hZ : Has w vb Z 49) (hl : Z.length = 16) (ha : RAt w rb B st0) (hn : vb ≠ rb) (hB : vb ≠ B) (hx : w.cell? ⟨rx, 0, none⟩ = some (pa rb 0)) (hx1 : rx ≠ rb) (hx2 : rx ≠ vb) :
    Calls prog 90 #[pa vb 0, fc 94 #[pa rx 0]] w fun e w' => e = .returned (.tuple #[]) ∧ ∃ Cs n g, EaR w w' vb rb B st0 Cs n g := by
  have HZ := Kp.mk (And.intro hZ hl); have HA := Kp.mk (And.intro ha (And.intro hn (And.intro hB (And.intro hx (And.intro hx1 hx2)))))
  have HLT : Kp (vb < w.heap.size ∧ rb < w.heap.size ∧ B < w.heap.size ∧ rx < w.heap.size) := by
    obtain ⟨⟨a, c, h1, h2⟩, h3, h4, h5⟩ := ha; exact ⟨hZ.lt, h1.lt, h4, cell_lt hx⟩
  have hen := entR; clear hZ hl ha hn hB hx hx1 hx2; go_enter func90, ntmps90; go_wp2_with fail; refine (head_c vb w).mono ?_; rintro e w1 ⟨hb, L, rfl, P, g1⟩; have HP := Kp.mk P; have HG1 := Kp.mk g1; clear P g1; go_wp2_with fail
  go_loopw [12] (fun t w' => ∃ (k : Nat) (Cs : List Value), k ≤ 16 ∧ t = .int .i64 k ∧ Kp (Tk w1 w' rb B vb k [] Z 49 hMs (takeL (hK.take k) st0).1 (takeL (hK.take k) st0).2 Cs ∧ (k = 16 → Lst w1 w' Cs))) (fun t _ => 16 - (intOf t).toNat)
  case atStart => exact ⟨0, [], by omega, rfl, ⟨⟨HZ.out.1.kept HG1.out (by simp), rfl, trivial, HA.out.1.kept HG1.out, Fr.refl _ _⟩, fun e => by cases e⟩⟩
  case round =>
    obtain ⟨k, Cs, hk16, rfl, hrel⟩ := hrel; by_cases hlt : k < 16
    · obtain ⟨m, hm⟩ := some_at (l := hMs) (k := k) hlt; obtain ⟨p, hp⟩ := some_at (l := L) (k := k) (by rw [HP.out.n]; exact hlt); obtain ⟨q1, q2⟩ := flat_at L k p hp; obtain ⟨nl, cl, nt, ct, e1, e2, LC, TC⟩ := HP.out.p k p m hp hm; rw [Nat.zero_add] at TC; obtain ⟨hT, hT16⟩ := hrel.out; have hsz := HG1.out.size; have hlts := HLT.out; have hbq := HP.out.q; have hfs := hT.f.size; (have nhb : ¬ (hb = rb ∨ hb = vb) := by omega); have cl0 : wr.cell? ⟨hb, 2 * k, none⟩ = some (fc nl cl) := fr_cell hT.f nhb (by rw [HP.out.h.cell, q1, e1]); have cl1 : wr.cell? ⟨hb, 2 * k + 1, none⟩ = some (fc nt ct) := fr_cell hT.f nhb (by rw [HP.out.h.cell, q2, e2])
      have hvk : ∃ z, wr.cell? ⟨vb, k, none⟩ = some z := by
        obtain ⟨z, hz⟩ := some_at (l := ([] : List Value) ++ (Cs ++ Z.drop k)) (k := k) (by simp [hT.n]; have := HZ.out.2; omega); exact ⟨z, hT.h.cellv k z hz⟩
      obtain ⟨z, hzc⟩ := hvk; obtain ⟨wz, hwz⟩ : ∃ q, wr.alloc (.cells #[fc nl cl, fc nt ct] 132) = q := ⟨_, rfl⟩; obtain ⟨hz, gz, sz⟩ := hasN hwz; have d0 : wz.cell? ⟨wr.heap.size, 0, none⟩ = some (fc nl cl) := hz.cellv 0 _ rfl; have d1 : wz.cell? ⟨wr.heap.size, 1, none⟩ = some (fc nt ct) := hz.cellv 1 _ rfl; (have hkd : hK[k]? = some m.kd := by unfold hK; rw [List.getElem?_map, hm]; rfl); have hgz := gz.size
      have HDW := Kp.mk (dor_c w1 w.heap.size w1.heap.size m vb k nl nt cl ct TC wz rb B rx (takeL (hK.take k) st0).2 z
        ((Kpt.fr hT.f (Nat.le_refl _) (fun i e => by omega)).trans (Kpt.grown gz hfs)) (by omega) (by omega) (by omega) HA.out.2.1
        (gz.cell hzc (by simp)) (fr_frozen (S := fun _ => False) (Fr.ofNone gz) (fun e => e) hzc (hT.h.frozen k)) (hT.r.kept gz)
        (gz.cell (fr_cell hT.f (by have := HA.out.2.2.2.2; omega) (HG1.out.cell HA.out.2.2.2.1 (by simp))) (by simp)))
      have HRL := Kp.mk (And.intro hT (And.intro gz (And.intro (takeL_take hK st0 k m.kd hkd) (And.intro hm (And.intro hgz hfs))))); rw [Nat.mul_comm] at cl0 cl1; clear hm hp q1 q2 e1 e2 LC TC hT hT16 hsz hlts hbq hfs nhb hzc hz gz sz hkd hgz hrel; go_wp2_with fail; refine HDW.out.mono ?_; rintro e w2 ⟨rfl, w4, v, dd, mt, hw2⟩
      have HNX : Kp (Tk w1 w2 rb B vb (k + 1) [] Z 49 hMs (takeL (hK.take (k + 1)) st0).1 (takeL (hK.take (k + 1)) st0).2 (Cs ++ [v]) ∧ (k + 1 = 16 → Lst w1 w2 (Cs ++ [v]))) := by
        obtain ⟨hT, gz, htk, hm, hgz, hfs⟩ := HRL.out; have hsz := HG1.out.size; have hlts := HLT.out; have h1 := hT.next gz (by have := HZ.out.2; omega) HA.out.2.1 HA.out.2.2.1 hm dd mt; simp only [List.length_nil, Nat.zero_add] at h1; rw [htk, hw2]; refine ⟨h1, fun e => lst_next hm e hT.n mt (fun n hx hmC => ?_) (by omega) (by omega)⟩; subst hmC; exact u1_lt hx
      clear dd mt hw2 HDW HRL; go_wp2_with fail
      go_roundw
      case rel => exact ⟨k + 1, Cs ++ [v], by omega, by go_num, HNX⟩
      case measure => simp [intOf]; omega
    · have HK16 : Kp (k = 16) := ⟨by omega⟩; (have hlt' : ¬ ((k : Int) < 16) := by omega); obtain ⟨hT, hT16⟩ := hrel.out; obtain ⟨n, g, cs, hc15, hn255, hg1, hg, hcs⟩ := hT16 HK16.out; obtain ⟨st1, hst1⟩ : ∃ q, (takeL hK st0).2 = q := ⟨_, rfl⟩; (have hkl : hK.take k = hK := by rw [HK16.out]; exact List.take_of_length_le (by show 16 ≤ 16; omega)); have hml : hMs.take k = hMs := by rw [HK16.out]; exact List.take_of_length_le (by show 16 ≤ 16; omega)
      have hV : Has wr vb Cs 49 := by
        have h := hT.h; rw [List.drop_eq_nil_of_le (by rw [HZ.out.2, HK16.out]; omega), List.append_nil, List.nil_append] at h; exact h
      have HSY : Kp (Says hMs (takeL hK st0).1 Cs) := by
        have h := hT.s; rw [hkl, hml] at h; exact ⟨h⟩
      have HCS := Kp.mk (And.intro hc15 (And.intro hg1 hcs))
      have HOU : Kp (Ou w wr vb rb B g 0 st1 Cs cs) := by
        refine ⟨hV, ?_, ?_, (Fr.ofNone HG1.out).trans hT.f⟩
        · simpa [takeSn, fls] using hg
        · have h := hT.r; rw [hkl, hst1] at h; exact h
      have HST := Kp.mk hst1; have c15 : wr.cell? ⟨vb, 15, none⟩ = some (.slice (some ⟨g, 0, none⟩) n n) := hV.cellv 15 _ hc15; clear hT hT16 hc15 hg1 hg hcs hst1 hkl hml hV hrel HP; go_wp2_with fail; clear c15
      go_loopw [25] (fun t w' => ∃ j : Nat, j ≤ n ∧ t = .int .i64 j ∧ Kp (Ou w w' vb rb B g j st1 Cs cs)) (fun t _ => n - (intOf t).toNat)
      case atStart => exact ⟨0, by omega, rfl, HOU⟩
      case round =>
        obtain ⟨j, hjn, rfl, hrel⟩ := hrel; rename World => wo; by_cases hlt : j < n
        · have c15 : wo.cell? ⟨vb, 15, none⟩ = some (.slice (some ⟨g, 0, none⟩) n n) := hrel.out.v.cellv 15 _ HCS.out.1; (have hltI : (j : Int) < (n : Int) := by omega); have HO := Kp.mk hrel.out; clear hrel; go_wp2_with fail; refine (thing_c g (j * 5) wo).mono ?_; rintro e w3 ⟨hb2, L2, rfl, P2, g3⟩; have HP2 := Kp.mk P2; have HG3 := Kp.mk g3; obtain ⟨st2, hst2⟩ : ∃ q, (takeSn j st1).2 = q := ⟨_, rfl⟩; obtain ⟨A, hAA⟩ : ∃ q, fls (takeSn j st1).1 = q := ⟨_, rfl⟩; have HAL : Kp (A.length = j * 5 ∧ fls (takeSn j st1).1 = A ∧ (takeSn j st1).2 = st2) := ⟨by rw [← hAA, fls_len, takeSn_len]; omega, hAA, hst2⟩
          have HGL : Kp (g < wo.heap.size ∧ w.heap.size ≤ wo.heap.size ∧ w.heap.size ≤ g) := by
            have := HG1.out.size; have := HCS.out.2.1; exact ⟨HO.out.h.lt, HO.out.f.size, by omega⟩
          have HT0 : Kp (Tk w3 w3 rb B g 0 A (cs.drop (5 * j)) 98 tMs (takeL (tK.take 0) st2).1 (takeL (tK.take 0) st2).2 []) := by
            have h := HO.out.h; have r := HO.out.r; rw [hAA] at h; rw [hst2] at r; exact ⟨⟨h.kept HG3.out (by simp), rfl, trivial, r.kept HG3.out, Fr.refl _ _⟩⟩
          clear P2 g3 c15 hst2 hAA; go_wp2_with fail
          go_loopw [36] (fun t w' => ∃ (k : Nat) (Ps : List Value), k ≤ 5 ∧ t = .int .i64 k ∧ Kp (Tk w3 w' rb B g k A (cs.drop (5 * j)) 98 tMs (takeL (tK.take k) st2).1 (takeL (tK.take k) st2).2 Ps)) (fun t _ => 5 - (intOf t).toNat)
          case atStart => exact ⟨0, [], by omega, rfl, HT0⟩
          case round =>
            obtain ⟨k, Ps, hk5, rfl, hrel⟩ := hrel; have hgs3 := HG3.out.size; have hlts := HLT.out; have hgl := HGL.out; by_cases hlt5 : k < 5
            · obtain ⟨m, hm⟩ := some_at (l := tMs) (k := k) hlt5; obtain ⟨p, hp⟩ := some_at (l := L2) (k := k) (by rw [HP2.out.n]; exact hlt5); obtain ⟨q1, q2⟩ := flat_at L2 k p hp; obtain ⟨nl, cl, nt, ct, e1, e2, LC, TC⟩ := HP2.out.p k p m hp hm; have hT := hrel.out; have hbq := HP2.out.q; have hfs := hT.f.size; (have nhb : ¬ (hb2 = rb ∨ hb2 = g) := by omega); have cl0 : wr.cell? ⟨hb2, 2 * k, none⟩ = some (fc nl cl) := fr_cell hT.f nhb (by rw [HP2.out.h.cell, q1, e1]); have cl1 : wr.cell? ⟨hb2, 2 * k + 1, none⟩ = some (fc nt ct) := fr_cell hT.f nhb (by rw [HP2.out.h.cell, q2, e2]); have hZl : k < (cs.drop (5 * j)).length := by rw [List.length_drop, HCS.out.2.2]; omega
              have hvk : ∃ z, wr.cell? ⟨g, j * 5 + k, none⟩ = some z := by
                obtain ⟨z, hz⟩ := some_at (l := A ++ (Ps ++ (cs.drop (5 * j)).drop k)) (k := j * 5 + k) (by
                  rw [List.length_append, List.length_append, HAL.out.1, hT.n, List.length_drop]; omega)
                exact ⟨z, hT.h.cellv _ z hz⟩
              obtain ⟨z, hzc⟩ := hvk; obtain ⟨wz, hwz⟩ : ∃ q, wr.alloc (.cells #[fc nl cl, fc nt ct] 132) = q := ⟨_, rfl⟩; obtain ⟨hz, gz, sz⟩ := hasN hwz; have d0 : wz.cell? ⟨wr.heap.size, 0, none⟩ = some (fc nl cl) := hz.cellv 0 _ rfl; have d1 : wz.cell? ⟨wr.heap.size, 1, none⟩ = some (fc nt ct) := hz.cellv 1 _ rfl; (have hkd : tK[k]? = some m.kd := by unfold tK; rw [List.getElem?_map, hm]; rfl); have hgz := gz.size; have nrx : ¬ (rx = rb ∨ rx = g) := by have := HA.out.2.2.2.2; omega
              have nrx2 : ¬ (rx = rb ∨ rx = vb) := by have := HA.out.2.2.2.2; omega
              have HDW := Kp.mk (dor_c w3 wo.heap.size w3.heap.size m g (j * 5 + k) nl nt cl ct TC wz rb B rx (takeL (tK.take k) st2).2 z
                ((Kpt.fr hT.f (Nat.le_refl _) (fun i e => by omega)).trans (Kpt.grown gz hfs)) (by omega) (by omega) (by omega) (by omega)
                (gz.cell hzc (by simp)) (fr_frozen (S := fun _ => False) (Fr.ofNone gz) (fun e => e) hzc (hT.h.frozen _)) (hT.r.kept gz)
                (gz.cell (fr_cell hT.f nrx (HG3.out.cell (fr_cell HO.out.f nrx2 HA.out.2.2.2.1) (by simp))) (by simp)))
              have HRL := Kp.mk (And.intro hT (And.intro gz (And.intro (takeL_take tK st2 k m.kd hkd) (And.intro hm hZl)))); rw [Nat.mul_comm] at cl0 cl1; clear hm hp q1 q2 e1 e2 LC TC hT hbq hfs nhb hzc hz gz sz hkd hgz hrel nrx nrx2 hZl hgs3 hlts hgl; go_wp2_with fail; refine HDW.out.mono ?_; rintro e w2 ⟨rfl, w4, v, dd, mt, hw2⟩
              have HNX : Kp (Tk w3 w2 rb B g (k + 1) A (cs.drop (5 * j)) 98 tMs (takeL (tK.take (k + 1)) st2).1 (takeL (tK.take (k + 1)) st2).2 (Ps ++ [v])) := by
                obtain ⟨hT, gz, htk, hm, hZl⟩ := HRL.out; have hlts := HLT.out; have hgl := HGL.out; have h1 := hT.next gz hZl (by omega) (by omega) hm dd mt; rw [HAL.out.1] at h1; rw [htk, hw2]; exact ⟨h1⟩
              clear dd mt hw2 HDW HRL; go_wp2_with fail
              go_roundw
              case rel => exact ⟨k + 1, Ps ++ [v], by omega, by go_num, HNX⟩
              case measure => simp [intOf]; omega
            · obtain rfl : k = 5 := by omega
              have HNX : Kp (Ou w wr vb rb B g (j + 1) st1 Cs cs) := by
                have hT := hrel.out; have hks : tK.take 5 = tK := rfl; have hms : tMs.take 5 = tMs := rfl; have hs := hT.s; rw [hks, hms] at hs; have hPs := says_cs hs; (have hn : takeSn (j + 1) st1 = ((takeSn j st1).1 ++ [snOf (takeL tK st2).1], (takeL tK st2).2) := by rw [takeSn, HAL.out.2.2]); (have hv : vb ≠ g := by omega); refine ⟨⟨(HO.out.v.kept HG3.out (by simp)).fr hT.f (by have := HA.out.2.1; omega), ?_, ?_, ?_⟩⟩
                · have h := hT.h; rw [hPs, ← List.append_assoc, ← HAL.out.2.1, ← fls_app, List.drop_drop] at h; rw [hn, show 5 * (j + 1) = 5 * j + 5 by omega]; exact h
                · have h := hT.r; rw [hks] at h; rw [hn]; exact h
                · exact (HO.out.f.trans (Fr.ofNone HG3.out)).then hT.f (fun i e => by omega)
              clear hrel hgs3 hlts hgl; go_wp2_with fail
              go_roundw
              case rel => exact ⟨j + 1, by omega, by go_num, HNX⟩
              case measure => simp [intOf]; omega
        · obtain rfl : j = n := by omega
          have HF : Kp (EaR w wo vb rb B st0 Cs j g) := by
            have h := hrel.out; have hh := h.h; rw [List.drop_eq_nil_of_le (by have := HCS.out.2.2; omega), List.append_nil] at hh; have hr := h.r; rw [← HST.out] at hh hr; have := HG1.out.size; have := HCS.out.2.1; exact ⟨h.v, HSY.out, HCS.out.1, by omega, by omega, hh, hr, h.f⟩
          clear hrel; go_wp2_with fail
          go_end0
          exact ⟨rfl, Cs, j, g, HF.out⟩
structure Vw where
  t : Int
  p : Int
  n : ByteArray
  x : Int
  y : Int
  u : Int
  v : Int
  h : Int
  he : Int
  en : Int
  am : Int
  co : Int
  wt : Int
  sp : Int
  sc : Int
  S : List Sn
def Vw.cs (V : Vw) (a : Option Addr) (c : Nat) : List Value := [uv V.t, iv V.p, .string V.n, iv V.x, iv V.y, iv V.u, iv V.v, iv V.h, iv V.he, iv V.en, iv V.am, iv V.co, iv V.wt, iv V.sp, iv V.sc, .slice a V.S.length c]
def Vw.lv (V : Vw) : List Lv := [.num V.t, .num V.p, .txt (sl V.n), .num V.x, .num V.y, .num V.u, .num V.v, .num V.h, .num V.he, .num V.en, .num V.am, .num V.co, .num V.wt, .num V.sp, .num V.sc, .num (V.S.length : Nat)]
def Vw.zero : Vw := ⟨0, 0, ⟨#[]⟩, 0, 0, 0, 0, 0, 0, 0, 0, 0, 0, 0, 0, []⟩
structure Vw.ok (V : Vw) : Prop where
  h : okL hK V.lv
  s : ∀ s ∈ V.S, s.ok
def SeenR (w : World) (a : Option Addr) (S : List Sn) : Prop := S ≠ [] → ∃ sb so, a = some ⟨sb, so, none⟩ ∧ SnR w sb so S
theorem SeenR.kept {w w' : World} {a : Option Addr} {S : List Sn} (h : SeenR w a S) (g : w.grownBy w' none) : SeenR w' a S := fun q => by
  obtain ⟨sb, so, e, r⟩ := h q; exact ⟨sb, so, e, fun j s e i z hz => g.cell (r j s e i z hz) (by simp)⟩
def wrS (V : Vw) : WS := laySn V.S (Pk.layL hK V.lv (some []))
def wrV (V : Vw) : List UInt8 × Int := if 255 < V.S.length then ([], 51) else ((wrS V).getD [], werr (wrS V))
end Go.Proofs.YtldnpebnpbahjaaGreatDoor.Pk.Sn
