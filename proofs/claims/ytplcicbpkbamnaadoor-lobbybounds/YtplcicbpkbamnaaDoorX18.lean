import Derived.Test.YtplcicbpkbamnaaDoorX17
/- lobby: a session more. -/
namespace Go.Proofs.YtplcicbpkbamnaaDoor.Lo
open Go Go.RowKit Go.Maps

theorem look_new {P : List (Nat × Se)} {k : Nat} (h : ∀ p ∈ P, p.2.num < k) : Tb.look (P.map fun p => (p.2.num, p.1)) k = none := by
  induction P with
  | nil => rfl
  | cons p P ih =>
    have h1 := h p (List.mem_cons_self ..)
    have := ih (fun q hq => h q (List.mem_cons_of_mem _ hq))
    simp only [List.map_cons, Tb.look]
    rw [if_neg (by omega)]
    exact this
/-- a session more: its box is there, and the map and the number turn -/
theorem lob_new {w0 W : World} {R : List As} {lb kb mb : Nat} {X : Lb} {v : Value} {P : List (Nat × Se)} {s : Se} (h : Sep w0 W (boxA kb (sev X.r X.u s) 97 :: (lobL lb X (v, mb, P) ++ R))) (hs : s.num = X.next) (ok : LbOk X) (hx : X.next < 1000000) :
    ∃ W' hole, (Instr.mapUpdate 78 (.map (some mb)) (uv X.next) (pt kb)).run Tryd.prog W = .ok () W' ∧ (∀ W2, W'.grownBy W2 none → W2.cell? ⟨lb, 6, none⟩ = some (uv X.next) ∧ W2.cell? ⟨lb, 7, none⟩ = some (.map (some mb)) ∧ W2.frozen? ⟨lb, 6, none⟩ = false ∧ Sep w0 (W2.setCell ⟨lb, 6, none⟩ (uv (X.next + 1 : Nat))) (boxA kb (sev X.r X.u s) 97 :: (hole ++ R))) ∧ ∀ W3 R', Sep w0 W3 (boxA kb (sev X.r X.u s) 97 :: (hole ++ R')) → Sep w0 W3 (lobA lb { X with next := X.next + 1, S := X.S ++ [s] } :: R') := by
  have hP : P.map (fun p => p.2) = X.S := h.fact k1m
  have hl : P.length = X.S.length := by rw [← hP, List.length_map]
  have hlook : Tb.look (P.map fun p => (p.2.num, p.1)) X.next = none := look_new fun p hp => (ok.s p.2 (by rw [← hP]; exact List.mem_map.2 ⟨p, hp, rfl⟩)).2.1
  let cs : List Value := [iv (X.most : Nat), uv X.idle, iv X.r, iv X.u, iv (16 * X.u), v, uv X.next, .map (some mb)]
  let bx : List As := P.map fun p => boxA p.1 (sev X.r X.u p.2) 97
  have h1 : Sep w0 W ([boxA kb (sev X.r X.u s) 97, pureA (P.map (fun p => p.2) = X.S), boxA lb cs 80, rowV 87 33 v X.A.length (acs X.A)] ++ mapA mb (P.map fun p => (p.2.num, p.1)) :: (bx ++ R)) := h
  have hle := ok.le
  have hm2 := ok.m2
  obtain ⟨W', r1, r2⟩ := (fr1 _ h1).mapPut X.next (by omega) kb hlook (by rw [List.length_map, hl]; omega)
  have r3 := bk1 _ r2
  have r4 : Sep w0 W' (boxA lb cs 80 :: boxA kb (sev X.r X.u s) 97 :: pureA (P.map (fun p => p.2) = X.S) :: rowV 87 33 v X.A.length (acs X.A) :: mapA mb ((P.map fun p => (p.2.num, p.1)) ++ [(X.next, kb)]) :: (bx ++ R)) := Sep.third r3
  refine ⟨W', boxA lb (cs.set 6 (uv (X.next + 1 : Nat))) 80 :: rowV 87 33 v X.A.length (acs X.A) :: mapA mb ((P.map fun p => (p.2.num, p.1)) ++ [(X.next, kb)]) :: bx, r1, fun W2 g => ?_, fun W3 R' h3 => ?_⟩
  · have r5 := r4.grown g
    refine ⟨(r5.boxGet k0m).cellv 6 _ rfl, (r5.boxGet k0m).cellv 7 _ rfl, (r5.boxGet k0m).frozen 6, ?_⟩
    have r6 := (r5.boxPut 6 (uv (X.next + 1 : Nat))).third.tail.swap
    exact r6
  · refine Sep.cls (lobL lb { X with next := X.next + 1, S := X.S ++ [s] }) (v, mb, P ++ [(kb, s)]) ?_
    have e1 : ((P ++ [(kb, s)]).map fun p => (p.2.num, p.1)) = (P.map fun p => (p.2.num, p.1)) ++ [(X.next, kb)] := by rw [List.map_append, ← hs]; rfl
    have e2 : ((P ++ [(kb, s)]).map fun p : Nat × Se => boxA p.1 (sev X.r X.u p.2) 97) = bx ++ [boxA kb (sev X.r X.u s) 97] := by rw [List.map_append]; rfl
    have h4 := Sep.know (p := (P ++ [(kb, s)]).map (fun p => p.2) = X.S ++ [s]) h3 (by rw [List.map_append, hP]; rfl)
    show Sep w0 W3 (pureA _ :: boxA lb (cs.set 6 (uv (X.next + 1 : Nat))) 80 :: rowV 87 33 v X.A.length (acs X.A) :: mapA mb ((P ++ [(kb, s)]).map fun p => (p.2.num, p.1)) :: (((P ++ [(kb, s)]).map fun p : Nat × Se => boxA p.1 (sev X.r X.u p.2) 97) ++ R'))
    rw [e1, e2, List.append_assoc]
    refine h4.perm (List.Perm.cons _ ?_)
    exact (List.perm_middle (a := boxA kb (sev X.r X.u s) 97) (l₁ := boxA lb (cs.set 6 (uv (X.next + 1 : Nat))) 80 :: rowV 87 33 v X.A.length (acs X.A) :: mapA mb ((P.map fun p => (p.2.num, p.1)) ++ [(X.next, kb)]) :: bx) (l₂ := R')).symm
end Go.Proofs.YtplcicbpkbamnaaDoor.Lo

