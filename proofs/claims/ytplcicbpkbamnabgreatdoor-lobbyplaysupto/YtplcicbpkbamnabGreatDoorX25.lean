import Derived.Test.YtplcicbpkbamnabGreatDoorX24
/- lobby: the cells of a session that is built. -/
namespace Go.Proofs.YtplcicbpkbamnabGreatDoor.Lo
open Go Go.RowKit Go.Maps
set_option maxRecDepth 100000 in
theorem built97' (v0 v1 v2 v3 v4 v5 v6 r u y : Value) (a : Int) (d0 d1 d2 d3 d4 d5 d6 d7 d8 d9 d10 d11 d12 d13 d14 d15 d16 d17 d18 d19 d20 d21 d22 d23 d24 d25 d26 d27 d28 d29 d30 d31 : Value) :
    Tryz.prog.built 109 [(0, .agg #[v0, v1, v2, v3, v4, v5, v6]), (1, iv a), (2, .agg [d0, d1, d2, d3, d4, d5, d6, d7, d8, d9, d10, d11, d12, d13, d14, d15, d16, d17, d18, d19, d20, d21, d22, d23, d24, d25, d26, d27, d28, d29, d30, d31].toArray), (4, .agg #[r, u, y])] = some ([v0, v1, v2, v3, v4, v5, v6, iv a] ++ [d0, d1, d2, d3, d4, d5, d6, d7, d8, d9, d10, d11, d12, d13, d14, d15, d16, d17, d18, d19, d20, d21, d22, d23, d24, d25, d26, d27, d28, d29, d30, d31] ++ [uv 0, uv 0, r, u, y]).toArray := by kernel_rfl
set_option maxRecDepth 100000 in
theorem built97 (v0 v1 v2 v3 v4 v5 v6 r u y : Value) (a : Int) (d : List Value) (hd : d.length = 32) :
    Tryz.prog.built 109 [(0, .agg #[v0, v1, v2, v3, v4, v5, v6]), (1, iv a), (2, .agg d.toArray), (4, .agg #[r, u, y])] = some ([v0, v1, v2, v3, v4, v5, v6, iv a] ++ d ++ [uv 0, uv 0, r, u, y]).toArray :=
  match d, hd with
  | [d0, d1, d2, d3, d4, d5, d6, d7, d8, d9, d10, d11, d12, d13, d14, d15, d16, d17, d18, d19, d20, d21, d22, d23, d24, d25, d26, d27, d28, d29, d30, d31], _ => built97' v0 v1 v2 v3 v4 v5 v6 r u y a d0 d1 d2 d3 d4 d5 d6 d7 d8 d9 d10 d11 d12 d13 d14 d15 d16 d17 d18 d19 d20 d21 d22 d23 d24 d25 d26 d27 d28 d29 d30 d31
/-- a value that is built may be taken first -/
theorem yieldsIf_build {P : Program} {ops : Array Oper} {S : World → Prop} {op : Oper} {a : Act} (hw : Region.wanted op (yielded ops a.tmps) = true) (t : TypeId) (parts : Array (Nat × Operand)) (ho : op.op = .build t parts) (cells : Array Value)
    (hb : P.built t (parts.map fun (i, x) => (i, a.eval x)).toList = some cells) : YieldsIf P ops S op (.agg cells) a :=
  .inl ⟨hw, fun w _ => by
    unfold execOp
    simp only [ho, Sem.run_bind, run_build w t _ cells hb, Result.andThen_ok]
    rfl⟩
set_option maxRecDepth 100000 in
theorem hse (X : Lb) (fr nonce salt nm : ByteArray) (tick ac : Nat) (x : Ac) (hx : X.A[ac]? = some x) (hlc : lvc (joiE X fr nonce salt nm tick ac) = [uv X.next, .int .i64 (frS X), .string nm, .string fr, uv tick, uv 0, uv 0]) : sev X.r X.u (joiE X fr nonce salt nm tick ac) = [uv X.next, .int .i64 (frS X), .string nm, .string fr, uv tick, uv 0, uv 0, iv (ac : Nat)] ++ (drv x.sc nonce salt X.next).map b8 ++ [uv 0, uv 0, iv X.r, iv X.u, iv (16 * X.u)] := by
  have e : (joiE X fr nonce salt nm tick ac).key = drv x.sc nonce salt X.next := by
    unfold joiE
    simp only [hx, Option.map_some, Option.getD_some]
  have e2 : (joiE X fr nonce salt nm tick ac).wh = 0 ∧ (joiE X fr nonce salt nm tick ac).wb = 0 ∧ (joiE X fr nonce salt nm tick ac).y = 16 * X.u ∧ (joiE X fr nonce salt nm tick ac).acc = ac := by
    unfold joiE; exact ⟨rfl, rfl, rfl, rfl⟩
  unfold sev
  rw [hlc, e, e2.1, e2.2.1, e2.2.2.1, e2.2.2.2]
  simp only [List.cons_append, List.nil_append]
end Go.Proofs.YtplcicbpkbamnabGreatDoor.Lo

/- lobby: a session more. -/
namespace Go.Proofs.YtplcicbpkbamnabGreatDoor.Lo
open Go Go.RowKit Go.Maps

set_option maxRecDepth 100000 in
theorem look_new {P : List (Nat × Se)} {k : Nat} (h : ∀ p ∈ P, p.2.num < k) : Tb.look (P.map fun p => (p.2.num, p.1)) k = none := by
  induction P with
  | nil => rfl
  | cons p P ih =>
    have h1 := h p (List.mem_cons_self ..)
    have := ih (fun q hq => h q (List.mem_cons_of_mem _ hq))
    simp only [List.map_cons, Tb.look]
    rw [if_neg (by omega)]
    exact this
/-- a session more: its box is there, and the map and the number turn -/
theorem lob_new {w0 W : World} {R : List As} {lb kb mb : Nat} {X : Lb} {v : Value} {P : List (Nat × Se)} {s : Se} (h : Sep w0 W (boxA kb (sev X.r X.u s) 109 :: (lobL lb X (v, mb, P) ++ R))) (hs : s.num = X.next) (ok : LbOk X) (hx : X.next < 1000000) :
    ∃ W' hole, (Instr.mapUpdate 68 (.map (some mb)) (uv X.next) (pt kb)).run Tryz.prog W = .ok () W' ∧ (∀ W2, W'.grownBy W2 none → W2.cell? ⟨lb, 6, none⟩ = some (uv X.next) ∧ W2.cell? ⟨lb, 7, none⟩ = some (.map (some mb)) ∧ W2.frozen? ⟨lb, 6, none⟩ = false ∧ Sep w0 (W2.setCell ⟨lb, 6, none⟩ (uv (X.next + 1 : Nat))) (boxA kb (sev X.r X.u s) 109 :: (hole ++ R))) ∧ ∀ W3 R', Sep w0 W3 (boxA kb (sev X.r X.u s) 109 :: (hole ++ R')) → Sep w0 W3 (lobA lb { X with next := X.next + 1, S := X.S ++ [s] } :: R') := by
  have hP : P.map (fun p => p.2) = X.S := h.fact k1m
  have hl : P.length = X.S.length := by rw [← hP, List.length_map]
  have hlook : Tb.look (P.map fun p => (p.2.num, p.1)) X.next = none := look_new fun p hp => (ok.s p.2 (by rw [← hP]; exact List.mem_map.2 ⟨p, hp, rfl⟩)).2.1
  let cs : List Value := [iv (X.most : Nat), uv X.idle, iv X.r, iv X.u, iv (16 * X.u), v, uv X.next, .map (some mb)]
  let bx : List As := P.map fun p => boxA p.1 (sev X.r X.u p.2) 109
  have h1 : Sep w0 W ([boxA kb (sev X.r X.u s) 109, pureA (P.map (fun p => p.2) = X.S), boxA lb cs 70, rowV 104 33 v X.A.length (acs X.A)] ++ mapA mb (P.map fun p => (p.2.num, p.1)) :: (bx ++ R)) := h
  have hle := ok.le
  have hm2 := ok.m2
  obtain ⟨W', r1, r2⟩ := (fr1 _ h1).mapPut X.next (by omega) kb hlook (by rw [List.length_map, hl]; omega)
  have r3 := bk1 _ r2
  have r4 : Sep w0 W' (boxA lb cs 70 :: boxA kb (sev X.r X.u s) 109 :: pureA (P.map (fun p => p.2) = X.S) :: rowV 104 33 v X.A.length (acs X.A) :: mapA mb ((P.map fun p => (p.2.num, p.1)) ++ [(X.next, kb)]) :: (bx ++ R)) := Sep.third r3
  refine ⟨W', boxA lb (cs.set 6 (uv (X.next + 1 : Nat))) 70 :: rowV 104 33 v X.A.length (acs X.A) :: mapA mb ((P.map fun p => (p.2.num, p.1)) ++ [(X.next, kb)]) :: bx, r1, fun W2 g => ?_, fun W3 R' h3 => ?_⟩
  · have r5 := r4.grown g
    refine ⟨(r5.boxGet k0m).cellv 6 _ rfl, (r5.boxGet k0m).cellv 7 _ rfl, (r5.boxGet k0m).frozen 6, ?_⟩
    have r6 := (r5.boxPut 6 (uv (X.next + 1 : Nat))).third.tail.swap
    exact r6
  · refine Sep.cls (lobL lb { X with next := X.next + 1, S := X.S ++ [s] }) (v, mb, P ++ [(kb, s)]) ?_
    have e1 : ((P ++ [(kb, s)]).map fun p => (p.2.num, p.1)) = (P.map fun p => (p.2.num, p.1)) ++ [(X.next, kb)] := by rw [List.map_append, ← hs]; rfl
    have e2 : ((P ++ [(kb, s)]).map fun p : Nat × Se => boxA p.1 (sev X.r X.u p.2) 109) = bx ++ [boxA kb (sev X.r X.u s) 109] := by rw [List.map_append]; rfl
    have h4 := Sep.know (p := (P ++ [(kb, s)]).map (fun p => p.2) = X.S ++ [s]) h3 (by rw [List.map_append, hP]; rfl)
    show Sep w0 W3 (pureA _ :: boxA lb (cs.set 6 (uv (X.next + 1 : Nat))) 70 :: rowV 104 33 v X.A.length (acs X.A) :: mapA mb ((P ++ [(kb, s)]).map fun p => (p.2.num, p.1)) :: (((P ++ [(kb, s)]).map fun p : Nat × Se => boxA p.1 (sev X.r X.u p.2) 109) ++ R'))
    rw [e1, e2, List.append_assoc]
    refine h4.perm (List.Perm.cons _ ?_)
    exact (List.perm_middle (a := boxA kb (sev X.r X.u s) 109) (l₁ := boxA lb (cs.set 6 (uv (X.next + 1 : Nat))) 70 :: rowV 104 33 v X.A.length (acs X.A) :: mapA mb ((P.map fun p => (p.2.num, p.1)) ++ [(X.next, kb)]) :: bx) (l₂ := R')).symm
end Go.Proofs.YtplcicbpkbamnabGreatDoor.Lo

