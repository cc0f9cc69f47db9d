import Derived.Test.YtplcicbpkbamnabGreatDoorX20
import Derived.Test.YtplcicbpkbamnabGreatDoorX31
import Derived.SevenTiedAt
import Derived.ChangeMaps5
import Derived.Test.YtplcicbpkbamnabGreatDoorX22
import Derived.Test.YtplcicbpkbamnabGreatDoorX1
import Derived.Test.YtplcicbpkbamnabGreatDoorX4
/- rows of accounts of the call's own -/
namespace Go.Proofs.YtplcicbpkbamnabGreatDoor.Lo
open Go Go.RowKit

def prv (p : Pr) : List Value := [.string p.1, .string p.2]
set_option maxRecDepth 100000 in
theorem prv_len (p : Pr) : (prv p).length = 2 := rfl
set_option maxRecDepth 100000 in
theorem prv_one (p : Pr) : ∀ v ∈ prv p, v.oneCell' = true := by
  intro v hv
  simp only [prv, List.mem_cons, List.not_mem_nil, or_false] at hv
  rcases hv with rfl | rfl <;> rfl
def prs (M : List Pr) : List Value := M.flatMap prv
set_option maxRecDepth 100000 in
theorem prs_len (M : List Pr) : (prs M).length = M.length * 2 := by
  induction M with
  | nil => rfl
  | cons c M ih =>
    have e : prs (c :: M) = prv c ++ prs M := rfl
    rw [e, List.length_append, ih, prv_len, List.length_cons]; omega
set_option maxRecDepth 100000 in
theorem prs_app (A B : List Pr) : prs (A ++ B) = prs A ++ prs B := by simp [prs]
set_option maxRecDepth 100000 in
theorem prs_one1 (c : Pr) : prs [c] = prv c := by simp [prs]
set_option maxRecDepth 100000 in
theorem prs_get : ∀ (M : List Pr) (j : Nat) (x : Pr) (r : Nat) (v : Value), M[j]? = some x → (prv x)[r]? = some v → (prs M)[j * 2 + r]? = some v
  | [], j, x, r, v, h, _ => by cases h
  | c :: M, 0, x, r, v, h, hv => by
    cases h
    have e : prs (c :: M) = prv c ++ prs M := rfl
    rw [e, Nat.zero_mul, Nat.zero_add, List.getElem?_append_left (List.getElem?_eq_some_iff.1 hv).1]
    exact hv
  | c :: M, j + 1, x, r, v, h, hv => by
    have e : prs (c :: M) = prv c ++ prs M := rfl
    rw [e, List.getElem?_append_right (by rw [prv_len]; omega), prv_len, show (j + 1) * 2 + r - 2 = j * 2 + r by omega]
    exact prs_get M j x r v (by simpa using h) hv
set_option maxRecDepth 100000 in
theorem prs_one (M : List Pr) : ∀ u ∈ prs M, u.oneCell' = true := by
  intro u hu
  unfold prs at hu
  rw [List.mem_flatMap] at hu
  obtain ⟨c, _, hc⟩ := hu
  exact prv_one c u hc
def z2 : List Value := [.string ⟨#[]⟩, .string ⟨#[]⟩]
set_option maxRecDepth 100000 in
theorem info27b : ∃ i, Tryz.prog.info? 73 = some i ∧ i.size = 2 ∧ i.bytes = 32 ∧ i.zero = some (.agg z2.toArray) := by
  have h : (Tryz.prog.info? 73).map (fun i => (i.size, i.bytes, i.zero)) = some (2, 32, some (.agg z2.toArray)) := by kernel_rfl
  cases hq : Tryz.prog.info? 73 with
  | none => simp [hq] at h
  | some i =>
    simp only [hq, Option.map_some, Option.some.injEq, Prod.mk.injEq] at h
    exact ⟨i, rfl, h.1, h.2.1, h.2.2⟩
set_option maxRecDepth 100000 in
theorem info27 : (Tryz.prog.info? 73).map (·.size) = some 2 := by kernel_rfl
set_option maxRecDepth 100000 in
theorem under22 : Tryz.prog.underlying 22 = some (.slice 73) := by kernel_rfl
set_option maxRecDepth 100000 in
theorem under27 : ∃ d, Tryz.prog.underlying 73 = some d ∧ d.isRow = true := ⟨_, Tryz.underlying73, rfl⟩
def prow (v : Value) (M : List Pr) : As := rowV 73 2 v M.length (prs M)
/-- one account more -/
theorem Sep.par {w0 W : World} {l : List As} {v : Value} {M : List Pr} (c : Pr) (h : Sep w0 W (prow v M :: l)) (hn : (M.length + 1) * 32 ≤ 140737488355328) :
    ∃ g q W', (Builtin.append_ #[22, 22] 22 #[v, .slice (some ⟨W.heap.size, 0, none⟩) 1 1]).run Tryz.prog (W.alloc (.cells (prv c).toArray 73)) = .ok (.slice (some ⟨g, 0, none⟩) (M.length + 1) q) W' ∧ Sep w0 W' (prow (.slice (some ⟨g, 0, none⟩) (M.length + 1) q) (M ++ [c]) :: l) := by
  obtain ⟨i, i1, i2, i3, i4⟩ := info27b
  obtain ⟨g, q, W', r1, r2⟩ := Sep.app under22 i1 i4 i2 i3 rfl (by decide) h (prv c) (prv_len c) (prv_one c) (by omega) (by decide)
  refine ⟨g, q, W', r1, ?_⟩
  unfold prow
  rw [List.length_append, prs_app, prs_one1]
  exact r2
/-- accounts that lie elsewhere are laid behind a row of the call's own -/
theorem Sep.appP {w0 W : World} {l : List As} {v : Value} {M : List Pr} (h : Sep w0 W (prow v M :: l)) (a : Addr) (m k : Nat) (B : List Pr) (hB : B.length = m) (hnews : ∀ (j : Nat) u, (prs B)[j]? = some u → W.cell? (a.add j) = some u) (hn : (M.length + m) * 32 ≤ 140737488355328) :
    ∃ v' W', (Builtin.append_ #[22, 22] 22 #[v, .slice (some a) m k]).run Tryz.prog W = .ok v' W' ∧ Sep w0 W' (prow v' (M ++ B) :: l) := by
  obtain ⟨i, i1, i2, i3, i4⟩ := info27b
  obtain ⟨F, ⟨ho, rfl⟩, _, hu⟩ := h.use
  obtain ⟨v', w', r1, r2, r3, _, r5⟩ := run_append_own_at (P := Tryz.prog) W 0 22 22 73 i (.agg z2.toArray) 2 32 under22 i1 i4 i2 i3 rfl (by decide) v M.length (prs M) ho a m k (prs B) (by rw [prs_len, hB]) hnews (prs_one B) (by unfold maxLen; omega) (by omega) (Nat.zero_le _)
  refine ⟨v', w', r1, hu w' [_] ((Fr.of r3).mono (fun i hi => .inl hi)) (Loc.one (a := prow _ _) _ ⟨?_, rfl⟩ (fun i hi => ?_))⟩
  · rw [prs_app, List.length_append, hB]; exact r2
  · rcases r5 with q | q
    · exact .inl (by rw [← q]; exact hi)
    · rw [q] at hi
      injection hi with e
      exact .inr (by omega)
set_option maxRecDepth 100000 in
theorem bs_none (w : World) : (Instr.buildSlice 22 0 #[]).run Tryz.prog w = .ok (.slice (some ⟨w.heap.size, 0, none⟩) 0 0) (w.alloc (.cells #[] 73)) := by kernel_rfl
set_option maxRecDepth 100000 in
theorem bs_prv (w : World) (c : Pr) : (Instr.buildSlice 22 1 #[(0, .agg (prv c).toArray)]).run Tryz.prog w = .ok (.slice (some ⟨w.heap.size, 0, none⟩) 1 1) (w.alloc (.cells (prv c).toArray 73)) := by
  obtain ⟨a, b⟩ := c
  kernel_rfl
set_option maxRecDepth 100000 in
theorem Sep.none {w0 W : World} {l : List As} (h : Sep w0 W l) : Sep w0 (W.alloc (.cells #[] 73)) (prow (.slice (some ⟨W.heap.size, 0, Option.none⟩) 0 0) [] :: l) :=
  h.new (World.grownBy_alloc _ _ _) (Loc.one (a := prow _ _) _ ⟨⟨rfl, .inr ⟨W.heap.size, 0, #[], rfl, Nat.zero_le _, Has.newA W #[] 73, Nat.le_refl _, Nat.zero_le _, rfl, rfl⟩⟩, rfl⟩ (fun i hi => .inr (by
    injection hi with e
    rw [← e]; exact Nat.le_refl _)))
/-- all accounts that are handed in, in a row of the call's own -/
theorem Sep.inp {w0 W : World} {l : List As} {v u : Value} {P : List Pr} (h : Sep w0 W (prow u [] :: l)) (hv : InR W v P) (hz : v = .slice Option.none 0 0 ∨ ∃ a n c, v = .slice (some a) n c) (hn : P.length * 32 ≤ 140737488351232) :
    ∃ v1 W1, (Builtin.append_ #[22, 22] 22 #[u, v]).run Tryz.prog W = .ok v1 W1 ∧ Sep w0 W1 (prow v1 P :: l) := by
  obtain ⟨a0, cap, e, hq⟩ := hv.o
  rcases hz with e2 | ⟨a, n, c, e2⟩
  · rw [e2] at e
    injection e with _ e3
    have hnil : P = [] := List.eq_nil_of_length_eq_zero e3.symm
    obtain ⟨i, i1, _⟩ := info27b
    have := run_append_owned_none (P := Tryz.prog) (w := W) 0 22 22 73 i 2 under22 i1 _ _ _ (h.rowGet k0m)
    rw [e2, hnil]
    exact ⟨_, _, this, h⟩
  · rw [e2] at e
    injection e with e3 e4 e5
    obtain ⟨v', W', q1, q2⟩ := h.appP a n c P e4.symm (fun j u hu => by
      have hj : j < P.length * 2 := by have := (List.getElem?_eq_some_iff.1 hu).1; rwa [prs_len] at this
      obtain ⟨g, o, eg, hcl⟩ := hq (by omega)
      rw [← e3] at eg
      injection eg with eg
      subst eg
      have hx : j / 2 < P.length := by omega
      obtain ⟨c1, c2⟩ := hcl (j / 2) _ (List.getElem?_eq_getElem hx)
      rw [Addr.add_mid]
      rcases Nat.mod_two_eq_zero_or_one j with hm | hm
      · have h2 := prs_get P (j / 2) _ 0 _ (List.getElem?_eq_getElem hx) rfl
        rw [show j / 2 * 2 + 0 = j by omega] at h2
        rw [h2] at hu
        cases hu
        rw [← c1]
        congr 2
        omega
      · have h2 := prs_get P (j / 2) _ 1 _ (List.getElem?_eq_getElem hx) rfl
        rw [show j / 2 * 2 + 1 = j by omega] at h2
        rw [h2] at hu
        cases hu
        rw [← c2]
        congr 2
        omega) (by simp; omega)
    rw [e2]
    exact ⟨v', W', q1, by simpa using q2⟩
/-- how a row of the call's own is read -/
theorem inr_of {w0 W : World} {l : List As} {g c : Nat} {n : Nat} {P R : List Pr} (h : Sep w0 W (prow (.slice (some ⟨g, 0, Option.none⟩) n c) (P ++ R) :: l)) (hs : ∀ x ∈ P, x.1.size ≤ 281474976710656 ∧ x.2.size ≤ 281474976710656) : InR W (.slice (some ⟨g, 0, Option.none⟩) P.length c) P := by
  refine ⟨⟨_, c, rfl, fun hl => ⟨g, 0, rfl, fun j x hx => ?_⟩⟩, hs⟩
  obtain ⟨g', c', e, hq⟩ := own_any (h.rowGet (show rowV 73 2 _ _ _ ∈ _ from k0m)) (by rw [List.length_append]; omega)
  injection e with e1
  injection e1 with e1
  injection e1 with e1
  subst e1
  have hx2 : (P ++ R)[j]? = some x := by rw [List.getElem?_append_left (List.getElem?_eq_some_iff.1 hx).1]; exact hx
  rw [Nat.zero_add]
  exact ⟨(hq _ _ (prs_get _ j x 0 _ hx2 rfl)).1, (hq _ _ (prs_get _ j x 1 _ hx2 rfl)).1⟩
/-- its shape -/
theorem Sep.shape {w0 W : World} {l : List As} {v : Value} {M : List Pr} (h : Sep w0 W (prow v M :: l)) (hl : 0 < M.length) : ∃ g c, v = .slice (some ⟨g, 0, Option.none⟩) M.length c ∧ M.length ≤ c ∧ ∀ (j : Nat) x, M[j]? = some x → W.rangeAt g (j * 2) (prv x) := by
  have ho := h.rowGet (show rowV 73 2 _ _ _ ∈ _ from k0m)
  obtain ⟨g, c, e, hq⟩ := own_any ho hl
  refine ⟨g, c, e, ?_, fun j x hx r u hu => (hq _ _ (prs_get _ j x r u hx hu)).1⟩
  obtain ⟨_, h2⟩ := ho
  rcases h2 with ⟨e', _⟩ | ⟨g', cap', cur, e', _, _, hc, _⟩
  · rw [e'] at e; cases e
  · rw [e'] at e
    injection e with _ _ e3
    rw [← e3]
    exact hc
set_option maxRecDepth 100000 in
theorem Sep.pgetM {w0 W : World} {l : List As} {g n c : Nat} {M : List Pr} (h : Sep w0 W l) (hm : prow (.slice (some ⟨g, 0, Option.none⟩) n c) M ∈ l) {i : Nat} {p : Pr} (hp : M[i]? = some p) : (W.cell? ⟨g, i * 2, Option.none⟩ = some (.string p.1) ∧ W.cell? ⟨g, i * 2 + 1, Option.none⟩ = some (.string p.2)) ∧ W.frozen? ⟨g, i * 2, Option.none⟩ = false ∧ W.frozen? ⟨g, i * 2 + 1, Option.none⟩ = false := by
  obtain ⟨g', c', e, hq⟩ := own_any (h.rowGet (show rowV 73 2 _ _ _ ∈ _ from hm)) (by have := (List.getElem?_eq_some_iff.1 hp).1; omega)
  injection e with e1
  injection e1 with e1
  injection e1 with e1
  subst e1
  have q0 := hq _ _ (prs_get _ i p 0 _ hp rfl)
  have q1 := hq _ _ (prs_get _ i p 1 _ hp rfl)
  exact ⟨⟨q0.1, q1.1⟩, q0.2, q1.2⟩
/-- one of them written over -/
theorem Sep.prSet {w0 W : World} {l : List As} {g n c : Nat} {A B : List Pr} {x : Pr} (y : Pr) (h : Sep w0 W (prow (.slice (some ⟨g, 0, Option.none⟩) n c) (A ++ x :: B) :: l)) (hn : n = (A ++ x :: B).length) : Sep w0 ((W.setCell ⟨g, A.length * 2, Option.none⟩ (.string y.1)).setCell ⟨g, A.length * 2 + 1, Option.none⟩ (.string y.2)) (prow (.slice (some ⟨g, 0, Option.none⟩) n c) (A ++ y :: B) :: l) := by
  have e0 : prs (A ++ x :: B) = prs A ++ (.string x.1 :: .string x.2 :: prs B) := by simp [prs, prv]
  have e1 : prs (A ++ y :: B) = prs A ++ (.string y.1 :: .string y.2 :: prs B) := by simp [prs, prv]
  have el : (A ++ y :: B).length = n := by rw [hn]; simp
  unfold prow at h ⊢
  rw [← hn, e0] at h
  rw [el, e1]
  have h1 := h.rowSet (prs A).length (.string y.1)
  rw [List.set_append_right _ _ (Nat.le_refl _), Nat.sub_self, List.set_cons_zero] at h1
  have h2 := h1.rowSet ((prs A).length + 1) (.string y.2)
  rw [List.set_append_right _ _ (by omega), show (prs A).length + 1 - (prs A).length = 1 by omega, List.set_cons_succ, List.set_cons_zero] at h2
  rw [prs_len] at h2
  exact h2
set_option maxRecDepth 100000 in
theorem build_p {P : Program} {w : World} {ops : Array Oper} {rest : List Oper} {o : Oper} {a : Act} {Q : Exit → Act → World → Prop} (hgd : o.guard = Option.none) (t : TypeId) (parts : Array (Nat × Operand))
    (ho : o.op = .build t parts) (cells : Array Value) (hb : P.built t (parts.map fun (i, x) => (i, a.eval x)).toList = some cells) (h : wpList P ops Q rest (a.put o.dst (.agg cells)) w) : wpList P ops Q (o :: rest) a w :=
  wpList_plain hgd fun _ hK => by
    unfold Oper.wp execOp
    simp only [ho, Sem.run_bind, run_build w t _ cells hb, Result.andThen_ok]
    exact hK _ _ h
abbrev sRoom : ByteArray := ⟨#[114, 111, 111, 109]⟩
abbrev sOver : ByteArray := ⟨#[111, 118, 101, 114]⟩
def room : Pr := (sRoom, ⟨#[]⟩)
set_option maxRecDepth 100000 in
theorem built27 : Tryz.prog.built 73 [(0, .string sRoom)] = some (prv room).toArray := by kernel_rfl
set_option maxRecDepth 100000 in
theorem eq27 (p : Pr) (w : World) : (Op.equalIn 10000 73 (.agg (prv p).toArray) (.agg (prv p).toArray)).run Tryz.prog w = .ok true w := by
  rw [show (10000 : Nat) = 9999 + 1 from rfl, run_equalIn_agg w 9999 73 _ _ (by kernel_rfl) (by kernel_rfl)]
  have u9 := Tryz.underlying9
  have a9 := Tryz.isAgg9
  have z9 := Tryz.sizeOf9
  simp only [Program.fieldsOf, Tryz.underlying73, prv]
  go_simp
/-- the first account is found -/
theorem cpy_pre : ∀ (P : List Pr) (A B : List Ac), cpy A P = some B → ∃ C, B = A ++ C
  | [], A, B, h => ⟨[], by simpa [cpy] using h.symm⟩
  | p :: r, A, B, h => by
    unfold cpy at h
    unfold cpyS at h
    split at h
    · cases h
    · rename_i C hC
      split at hC
      · cases hC
      · obtain rfl : A ++ [⟨p.1, Na.sl p.2⟩] = C := by simpa using hC
        obtain ⟨D, rfl⟩ := cpy_pre r _ B h
        exact ⟨_, List.append_assoc _ _ _⟩
set_option maxRecDepth 100000 in
theorem first_in {c : Cf} {p : Pr} {r : List Pr} {X : Lb} (h : newL c (p :: r) = some X) : fdI X.A p.1 = some 0 ∧ secS X p.1 = p.2 := by
  unfold newL at h
  split at h
  · obtain ⟨A, hA, rfl⟩ := Option.map_eq_some_iff.1 h
    unfold cpyL at hA
    split at hA
    · cases hA
    · unfold cpy at hA
      split at hA
      · cases hA
      · rename_i C hC
        unfold cpyS at hC
        split at hC
        · cases hC
        · rename_i hq
          obtain rfl : [⟨p.1, Na.sl p.2⟩] = C := by simpa using hC
          obtain ⟨D, rfl⟩ := cpy_pre r _ A hA
          have hc : Na.chkOK p.1 = true := Decidable.byContradiction fun e => hq (.inr (.inl e))
          have e1 : fdI ([⟨p.1, Na.sl p.2⟩] ++ D) p.1 = some 0 := by
            unfold fdI
            rw [if_pos hc]
            have : same ⟨p.1, Na.sl p.2⟩ p.1 = true := by simp [same]
            simp [List.findIdx?_cons, this]
          refine ⟨e1, ?_⟩
          unfold secS
          simp only [e1]
          simp [txt, Na.sl]
  · cases h
end Go.Proofs.YtplcicbpkbamnabGreatDoor.Lo

/- a configuration with its accounts, as it is handed in (as LobbyMemory's text has it) -/
namespace Go.Proofs.YtplcicbpkbamnabGreatDoor.Lo
open Go Go.ChangeShapes Go.WideShapes Go.ChangeAt Go.RowKit

set_option maxRecDepth 100000 in
theorem kc22 : Tryz.prog.cellsOf 22 = 1 := by kernel_rfl
set_option maxRecDepth 100000 in
theorem kc27 : Tryz.prog.cellsOf 73 = 2 := by kernel_rfl
set_option maxRecDepth 100000 in
theorem by27 : Tryz.prog.bytesOf 73 = 32 := by kernel_rfl
set_option maxRecDepth 100000 in
theorem cfg_acc {H : Type} {enc : TypeId × Value → H} {W : World} {base fuel : Nat} {v : Value} {d : DataW H} {pl : List MemPlace} (hv : Value.okWide Tryz.prog W .any base 24 v) (hf : DataW.trod enc Tryz.prog W 0 (fun _ => true) true fuel 24 v.cells.toList = some (d, pl)) :
    ∃ (c : Cf) (u : Value) (n : Nat) (y : DataW H × List MemPlace), v = .agg (cfv c u) ∧ DataW.trod enc Tryz.prog W 0 (fun _ => true) true n 22 [u] = some y ∧ (∀ m ∈ y.1.weights Tryz.prog 22, m ∈ d.weights Tryz.prog 24) ∧ Rows.uptoBulk y.1 ≤ Rows.uptoBulk d := by
  obtain ⟨cs, rfl, _⟩ := okWide_struct Tryz.underlying24 hv
  simp only [Value.cells] at hf
  obtain ⟨xs, n, _, hx, hlen, hxl, hfl⟩ := DataW.trod_struct Tryz.underlying24 hf
  have hlen : cs.toList.length = 13 := hlen.trans (by kernel_rfl)
  have hcs : cs = cs.toList.toArray := by simp
  generalize cs.toList = l at hlen hfl hcs
  subst hcs
  match l, hlen with
  | [c0, c1, c2, c3, c4, c5, c6, c7, c8, c9, c10, c11, c12], _ =>
  match xs, (show xs.length = 13 from hxl) with
  | [y0, y1, y2, y3, y4, y5, y6, y7, y8, y9, y10, y11, y12], _ =>
  have t0 : DataW.trod enc Tryz.prog W 0 (fun _ => true) true n 3 (([c0, c1, c2, c3, c4, c5, c6, c7, c8, c9, c10, c11, c12].drop 0).take (Tryz.prog.cellsOf 3)) = some y0 := hfl 0 _ rfl
  rw [kc3] at t0
  have t1 : DataW.trod enc Tryz.prog W 0 (fun _ => true) true n 3 (([c0, c1, c2, c3, c4, c5, c6, c7, c8, c9, c10, c11, c12].drop 1).take (Tryz.prog.cellsOf 3)) = some y1 := hfl 1 _ rfl
  rw [kc3] at t1
  have t2 : DataW.trod enc Tryz.prog W 0 (fun _ => true) true n 3 (([c0, c1, c2, c3, c4, c5, c6, c7, c8, c9, c10, c11, c12].drop 2).take (Tryz.prog.cellsOf 3)) = some y2 := hfl 2 _ rfl
  rw [kc3] at t2
  have t3 : DataW.trod enc Tryz.prog W 0 (fun _ => true) true n 3 (([c0, c1, c2, c3, c4, c5, c6, c7, c8, c9, c10, c11, c12].drop 3).take (Tryz.prog.cellsOf 3)) = some y3 := hfl 3 _ rfl
  rw [kc3] at t3
  have t4 : DataW.trod enc Tryz.prog W 0 (fun _ => true) true n 3 (([c0, c1, c2, c3, c4, c5, c6, c7, c8, c9, c10, c11, c12].drop 4).take (Tryz.prog.cellsOf 3)) = some y4 := hfl 4 _ rfl
  rw [kc3] at t4
  have t5 : DataW.trod enc Tryz.prog W 0 (fun _ => true) true n 3 (([c0, c1, c2, c3, c4, c5, c6, c7, c8, c9, c10, c11, c12].drop 5).take (Tryz.prog.cellsOf 3)) = some y5 := hfl 5 _ rfl
  rw [kc3] at t5
  have t6 : DataW.trod enc Tryz.prog W 0 (fun _ => true) true n 3 (([c0, c1, c2, c3, c4, c5, c6, c7, c8, c9, c10, c11, c12].drop 6).take (Tryz.prog.cellsOf 3)) = some y6 := hfl 6 _ rfl
  rw [kc3] at t6
  have t7 : DataW.trod enc Tryz.prog W 0 (fun _ => true) true n 3 (([c0, c1, c2, c3, c4, c5, c6, c7, c8, c9, c10, c11, c12].drop 7).take (Tryz.prog.cellsOf 3)) = some y7 := hfl 7 _ rfl
  rw [kc3] at t7
  have t8 : DataW.trod enc Tryz.prog W 0 (fun _ => true) true n 3 (([c0, c1, c2, c3, c4, c5, c6, c7, c8, c9, c10, c11, c12].drop 8).take (Tryz.prog.cellsOf 3)) = some y8 := hfl 8 _ rfl
  rw [kc3] at t8
  have t9 : DataW.trod enc Tryz.prog W 0 (fun _ => true) true n 3 (([c0, c1, c2, c3, c4, c5, c6, c7, c8, c9, c10, c11, c12].drop 9).take (Tryz.prog.cellsOf 3)) = some y9 := hfl 9 _ rfl
  rw [kc3] at t9
  have t10 : DataW.trod enc Tryz.prog W 0 (fun _ => true) true n 9 (([c0, c1, c2, c3, c4, c5, c6, c7, c8, c9, c10, c11, c12].drop 10).take (Tryz.prog.cellsOf 9)) = some y10 := hfl 10 _ rfl
  rw [kc9] at t10
  have t11 : DataW.trod enc Tryz.prog W 0 (fun _ => true) true n 9 (([c0, c1, c2, c3, c4, c5, c6, c7, c8, c9, c10, c11, c12].drop 11).take (Tryz.prog.cellsOf 9)) = some y11 := hfl 11 _ rfl
  rw [kc9] at t11
  have t12 : DataW.trod enc Tryz.prog W 0 (fun _ => true) true n 22 (([c0, c1, c2, c3, c4, c5, c6, c7, c8, c9, c10, c11, c12].drop 12).take (Tryz.prog.cellsOf 22)) = some y12 := hfl 12 _ rfl
  rw [kc22] at t12
  obtain ⟨x0, e0, _, _⟩ := DataW.trod_int Tryz.underlying3 t0
  obtain rfl : c0 = _ := by simpa using e0
  obtain ⟨x1, e1, _, _⟩ := DataW.trod_int Tryz.underlying3 t1
  obtain rfl : c1 = _ := by simpa using e1
  obtain ⟨x2, e2, _, _⟩ := DataW.trod_int Tryz.underlying3 t2
  obtain rfl : c2 = _ := by simpa using e2
  obtain ⟨x3, e3, _, _⟩ := DataW.trod_int Tryz.underlying3 t3
  obtain rfl : c3 = _ := by simpa using e3
  obtain ⟨x4, e4, _, _⟩ := DataW.trod_int Tryz.underlying3 t4
  obtain rfl : c4 = _ := by simpa using e4
  obtain ⟨x5, e5, _, _⟩ := DataW.trod_int Tryz.underlying3 t5
  obtain rfl : c5 = _ := by simpa using e5
  obtain ⟨x6, e6, _, _⟩ := DataW.trod_int Tryz.underlying3 t6
  obtain rfl : c6 = _ := by simpa using e6
  obtain ⟨x7, e7, _, _⟩ := DataW.trod_int Tryz.underlying3 t7
  obtain rfl : c7 = _ := by simpa using e7
  obtain ⟨x8, e8, _, _⟩ := DataW.trod_int Tryz.underlying3 t8
  obtain rfl : c8 = _ := by simpa using e8
  obtain ⟨x9, e9, _, _⟩ := DataW.trod_int Tryz.underlying3 t9
  obtain rfl : c9 = _ := by simpa using e9
  obtain ⟨x10, e10, _, _⟩ := DataW.trod_string Tryz.underlying9 t10
  obtain rfl : c10 = _ := by simpa using e10
  obtain ⟨x11, e11, _, _⟩ := DataW.trod_string Tryz.underlying9 t11
  obtain rfl : c11 = _ := by simpa using e11
  have hd : d = .agg [y0.1, y1.1, y2.1, y3.1, y4.1, y5.1, y6.1, y7.1, y8.1, y9.1, y10.1, y11.1, y12.1] := congrArg Prod.fst hx
  refine ⟨⟨x0, x1, x2, x3, x4, x5, x6, x7, x8, x9, x10, x11⟩, c12, n, y12, rfl, t12, fun m hm => ?_, ?_⟩
  · rw [hd]
    simp only [DataW.weights, Tryz.underlying24]
    exact DataW.weights_mem_each (j := 12) (t := 22) rfl rfl _ hm
  · rw [hd]
    simp only [Rows.uptoBulk, Rows.uptoBulkAll]
    omega
def pdat {H : Type} (p : Pr) : DataW H := .agg [.lit (.string p.1.data.toList), .lit (.string p.2.data.toList)]
instance : Inhabited Pr := ⟨(⟨#[]⟩, ⟨#[]⟩)⟩
set_option maxRecDepth 100000 in
set_option maxHeartbeats 4000000 in
theorem acc_open {H : Type} {enc : TypeId × Value → H} {W : World} {u : Value} {fuel : Nat} {d : DataW H} {pl : List MemPlace} (hf : DataW.trod enc Tryz.prog W 0 (fun _ => true) true fuel 22 [u] = some (d, pl)) :
    ∃ P : List Pr, (∃ a cap, u = .slice a P.length cap ∧ (0 < P.length → ∃ g o, a = some ⟨g, o, none⟩ ∧ ∀ (j : Nat) (x : Pr), P[j]? = some x → W.cell? ⟨g, o + j * 2, none⟩ = some (.string x.1) ∧ W.cell? ⟨g, o + j * 2 + 1, none⟩ = some (.string x.2))) ∧ (u = .slice none 0 0 ∨ ∃ a n c, u = .slice (some a) n c) ∧ ((d = .nil ∧ P = []) ∨ ∃ spare, d = .slice (P.map pdat) spare) := by
  rcases Deep.open_slice Tryz.underlying22 hf with ⟨hcs, hx⟩ | ⟨a, len, cap, m, n, D, Pl, hcs, _, hl, hm, hmm, hx, hel⟩
  · have e : u = Value.slice none 0 0 := by simpa using hcs
    subst e
    simp only [Prod.mk.injEq] at hx
    exact ⟨[], ⟨none, 0, rfl, fun h => by cases h⟩, .inl rfl, .inl ⟨hx.1, rfl⟩⟩
  · have e : u = Value.slice (some a) len cap := by simpa using hcs
    subst e
    simp only [if_true] at hmm
    simp only [Prod.mk.injEq] at hx
    have each : ∀ i, i < m → ∃ o : Pr, D i = pdat o ∧ ∀ j v, (prv o)[j]? = some v → W.cell? (a.add (i * 2 + j)) = some v := by
      intro i hi
      obtain ⟨cs', h1, h2⟩ := hel i hi
      rw [kc27] at h1
      obtain ⟨_, hlen, hcell⟩ := World.cells?_some h1
      obtain ⟨xs, k, _, hD, _, hxl, hfl⟩ := DataW.trod_struct Tryz.underlying73 h2
      match cs', hlen with
      | [x0, x1], _ =>
      match xs, (show xs.length = 2 from hxl) with
      | [y0, y1], _ =>
        have t0 : DataW.trod enc Tryz.prog W 0 (fun _ => true) true k 9 (([x0, x1].drop 0).take (Tryz.prog.cellsOf 9)) = some y0 := hfl 0 _ rfl
        rw [kc9] at t0
        have t1 : DataW.trod enc Tryz.prog W 0 (fun _ => true) true k 9 (([x0, x1].drop 1).take (Tryz.prog.cellsOf 9)) = some y1 := hfl 1 _ rfl
        rw [kc9] at t1
        obtain ⟨z0, e0, d0, r0⟩ := DataW.trod_string Tryz.underlying9 t0
        obtain ⟨z1, e1, d1, r1⟩ := DataW.trod_string Tryz.underlying9 t1
        simp at e0 e1
        subst e0 e1
        refine ⟨(z0, z1), ?_, fun j v hv => ?_⟩
        · rw [show D i = .agg [y0.1, y1.1] from congrArg Prod.fst hD]
          simp only [pdat, d0, d1]
        · simp only [prv] at hv
          have hj : j < 2 := (List.getElem?_eq_some_iff.1 hv).1
          have g := hcell j (by simpa using hj)
          rw [Deep.add_add] at g
          rw [g]
          exact hv
    obtain ⟨q, hq⟩ := Deep.choose_lt each
    refine ⟨(List.range len).map q, ⟨some a, cap, by simp, fun hn => ?_⟩, .inr ⟨_, _, _, rfl⟩, .inr ⟨(List.range (m - len)).map (fun j => D (len + j)), ?_⟩⟩
    · have hn : 0 < len := by simpa using hn
      obtain ⟨b, off, spot⟩ := a
      have hspot : spot = none := by simpa [Addr.add] using World.cell?_spot ((hq 0 (by omega)).2 0 _ rfl)
      subst hspot
      refine ⟨b, off, rfl, fun j o hj => ?_⟩
      have hj2 : j < len := by
        have := (List.getElem?_eq_some_iff.1 hj).1
        simpa using this
      have e : q j = o := by
        rw [List.getElem?_map, List.getElem?_range hj2] at hj
        simpa using hj
      have p := (hq j (by omega)).2
      rw [e] at p
      have p0 := p 0 _ rfl
      have p1 := p 1 _ rfl
      rw [Addr.add_mid] at p0 p1
      exact ⟨p0, by rw [Nat.add_assoc]; exact p1⟩
    · rw [hx.1, List.map_map]
      congr 1
      refine List.map_congr_left fun i hi => ?_
      exact (hq i (by have := List.mem_range.1 hi; omega)).1
set_option maxRecDepth 100000 in
theorem acc_wide {H : Type} {d : DataW H} {P : List Pr} (h : (d = .nil ∧ P = []) ∨ ∃ spare, d = .slice (P.map pdat) spare) (hw : ∀ n ∈ d.weights Tryz.prog 22, n ≤ 140737488351232) : P.length * 32 ≤ 140737488351232 ∧ ∀ x ∈ P, x.1.size ≤ 281474976710656 ∧ x.2.size ≤ 281474976710656 := by
  rcases h with ⟨_, rfl⟩ | ⟨sp, rfl⟩
  · exact ⟨by simp, fun x hx => by cases hx⟩
  · refine ⟨?_, fun x hx => ?_⟩
    · have := hw ((P.map (pdat (H := H))).length * 32 + sp.length * 32) (by
        simp only [DataW.weights, Tryz.underlying22, by27, List.mem_cons]
        exact .inl (by omega))
      rw [List.length_map] at this
      omega
    · have key : ∀ n ∈ (pdat (H := H) x).weights Tryz.prog 73, n ≤ 140737488351232 := fun n hn => hw n (by
        simp only [DataW.weights, Tryz.underlying22, List.mem_cons, List.mem_append]
        exact .inr (.inl (weights_mem (List.mem_map.2 ⟨x, hx, rfl⟩) n hn)))
      have q0 := key x.1.data.toList.length (by
        unfold pdat
        simp only [DataW.weights, Tryz.underlying73]
        exact DataW.weights_mem_each (j := 0) (t := 9) rfl rfl _ (by simp [DataW.weights]))
      have q1 := key x.2.data.toList.length (by
        unfold pdat
        simp only [DataW.weights, Tryz.underlying73]
        exact DataW.weights_mem_each (j := 1) (t := 9) rfl rfl _ (by simp [DataW.weights]))
      rw [sz] at q0 q1
      exact ⟨by omega, by omega⟩
set_option maxRecDepth 100000 in
theorem bulk_at {H : Type} : ∀ (l : List (DataW H)) (d : DataW H), d ∈ l → Rows.uptoBulk d ≤ Rows.uptoBulkAll l
  | [], d, h => by cases h
  | x :: r, d, h => by
    simp only [Rows.uptoBulkAll]
    rcases List.mem_cons.1 h with rfl | h
    · omega
    · have := bulk_at r d h
      omega
set_option maxRecDepth 100000 in
theorem bulk_len {H : Type} : ∀ (P : List Pr), P.length ≤ Rows.uptoBulkAll (P.map (pdat (H := H)))
  | [] => by simp
  | x :: r => by
    have := bulk_len (H := H) r
    simp only [List.map_cons, Rows.uptoBulkAll, List.length_cons, pdat, Rows.uptoBulk]
    omega
set_option maxRecDepth 100000 in
theorem acc_bulk {H : Type} {d : DataW H} {P : List Pr} (h : (d = .nil ∧ P = []) ∨ ∃ spare, d = .slice (P.map pdat) spare) (hb : Rows.uptoBulk d ≤ 1048576) : P.length ≤ 1048576 ∧ ∀ x ∈ P, x.1.size ≤ 1048576 ∧ x.2.size ≤ 1048576 := by
  rcases h with ⟨_, rfl⟩ | ⟨sp, rfl⟩
  · exact ⟨by simp, fun x hx => by cases hx⟩
  · simp only [Rows.uptoBulk] at hb
    have hl := bulk_len (H := H) P
    refine ⟨by omega, fun x hx => ?_⟩
    have := bulk_at (P.map (pdat (H := H))) (pdat x) (List.mem_map.2 ⟨x, hx, rfl⟩)
    simp only [pdat, Rows.uptoBulk, Rows.uptoBulkAll] at this
    rw [sz, sz] at this
    exact ⟨by omega, by omega⟩
set_option maxRecDepth 100000 in
theorem scr_bulk {H : Type} {d : DataW H} {L : List Opr} (h : (d = .nil ∧ L = []) ∨ ∃ spare, d = .slice (L.map datum) spare) (hb : Rows.uptoBulk d ≤ 1048576) : ∀ x ∈ L, x.a.size ≤ 1048576 ∧ x.b.size ≤ 1048576 ∧ x.c.size ≤ 1048576 ∧ x.nm.size ≤ 1048576 := by
  rcases h with ⟨_, rfl⟩ | ⟨sp, rfl⟩
  · exact fun x hx => by cases hx
  · simp only [Rows.uptoBulk] at hb
    intro x hx
    have := bulk_at (L.map (datum (H := H))) (datum x) (List.mem_map.2 ⟨x, hx, rfl⟩)
    simp only [datum, Rows.uptoBulk, Rows.uptoBulkAll] at this
    rw [sz, sz, sz, sz] at this
    exact ⟨by omega, by omega, by omega, by omega⟩
end Go.Proofs.YtplcicbpkbamnabGreatDoor.Lo

/- LobbyPlays: the reference's lobby as it lies; find, Next -/
namespace Go.Proofs.YtplcicbpkbamnabGreatDoor.Lo
open Go Go.RowKit Go.Maps

/-- one of the reference's sessions: what the program's has, its marks, whether it is gone -/
structure Rs where
  s : Se
  L : List Nat
  g : Bool
/-- its cells -/
def rsv (r u : Int) (wb : Nat) (x : Rs) : List Value := lvc x.s ++ [iv (x.s.acc : Nat), .string (txt x.s.key), pt wb, iv r, iv (16 * u), iv x.s.y, .bool x.g]
/-- where it lies -/
structure Rp where
  sb : Nat
  wb : Nat
  sv : Value
  x : Rs
def rsA (r u : Int) (p : Rp) : List As := [boxA p.sb (rsv r u p.wb p.x) 94, boxA p.wb [p.sv, uv p.x.s.wh] 135, rowV 38 1 p.sv p.x.L.length (p.x.L.map uv)]
/-- a lobby of the reference's -/
structure Rl where
  c : Cf
  P : List Pr
  S : List Rs
def rlobL (kb : Nat) (Y : Rl) (q : Value × Value × List Rp) : List As :=
  pureA (q.2.2.map Rp.x = Y.S) :: boxA kb ((cfv Y.c q.1).toList ++ [q.2.1]) 78 :: prow q.1 Y.P :: rowV 95 1 q.2.1 Y.S.length (q.2.2.map fun p => pt p.sb) :: q.2.2.flatMap (rsA Y.c.rate Y.c.burst)
/-- as a thing that lies apart -/
def rlobA (kb : Nat) (Y : Rl) : As := exA (rlobL kb Y)
set_option maxRecDepth 100000 in
theorem rl_mem {kb : Nat} {Y : Rl} {q : Value × Value × List Rp} {l : List As} {p : Rp} (hp : p ∈ q.2.2) {a : As} (ha : a ∈ rsA Y.c.rate Y.c.burst p) : a ∈ rlobL kb Y q ++ l := by
  refine List.mem_append_left _ ?_
  unfold rlobL
  refine List.mem_cons_of_mem _ (List.mem_cons_of_mem _ (List.mem_cons_of_mem _ (List.mem_cons_of_mem _ ?_)))
  exact List.mem_flatMap.2 ⟨p, hp, ha⟩
/-- what is read of it -/
structure RdL (W : World) (kb : Nat) (Y : Rl) (q : Value × Value × List Rp) : Prop where
  len : q.2.2.length = Y.S.length
  c12 : W.cell? ⟨kb, 12, none⟩ = some q.1
  c13 : W.cell? ⟨kb, 13, none⟩ = some q.2.1
  sl : ∃ a cap, q.2.1 = .slice a Y.S.length cap
  row : 0 < Y.S.length → ∃ g cap, q.2.1 = .slice (some ⟨g, 0, none⟩) Y.S.length cap ∧ ∀ (i : Nat) (p : Rp), q.2.2[i]? = some p → W.cell? ⟨g, i, none⟩ = some (pt p.sb)
  at_ : ∀ p ∈ q.2.2, Has W p.sb (rsv Y.c.rate Y.c.burst p.wb p.x) 94 ∧ Has W p.wb [p.sv, uv p.x.s.wh] 135 ∧ W.ownsRow 0 38 1 p.sv p.x.L.length (p.x.L.map uv)
set_option maxRecDepth 100000 in
theorem rd_of {w0 W : World} {l : List As} {kb : Nat} {Y : Rl} {q : Value × Value × List Rp} (h : Sep w0 W (rlobL kb Y q ++ l)) : RdL W kb Y q := by
  have h1 : q.2.2.map Rp.x = Y.S := h.fact (l := rlobL kb Y q ++ l) k0m
  have hk : Has W kb ((cfv Y.c q.1).toList ++ [q.2.1]) 78 := h.boxGet k1m
  have hr : W.ownsRow 0 95 1 q.2.1 Y.S.length (q.2.2.map fun p => pt p.sb) := h.rowGet k3m
  refine ⟨by rw [← h1, List.length_map], hk.cellv 12 _ rfl, hk.cellv 13 _ rfl, own_slice hr, fun hn => ?_, fun p hp => ⟨h.boxGet (rl_mem hp (by simp [rsA])), h.boxGet (rl_mem hp (by simp [rsA])), h.rowGet (rl_mem hp (by simp [rsA]))⟩⟩
  obtain ⟨g, cap, e, hc⟩ := own_any hr hn
  exact ⟨g, cap, e, fun i p hp => (hc i _ (by rw [List.getElem?_map, hp]; rfl)).1⟩
/-- is it this one? -/
def lvp (k : Nat) (p : Rp) : Bool := decide (p.x.s.num = k) && !p.x.g
def fptr (q : Value × Value × List Rp) (k : Nat) : Value := match q.2.2.find? (lvp k) with
  | none => np
  | some p => pt p.sb
theorem find_at {α : Type} (f : α → Bool) : ∀ (l : List α) (i : Nat) (p : α), (∀ j z, j < i → l[j]? = some z → f z = false) → l[i]? = some p → f p = true → l.find? f = some p
  | [], i, p, _, h, _ => by simp at h
  | x :: r, 0, p, _, h, hp => by
    obtain rfl : x = p := by simpa using h
    rw [List.find?_cons, hp]
  | x :: r, i + 1, p, hn, h, hp => by
    rw [List.find?_cons, hn 0 x (by omega) rfl]
    exact find_at f r i p (fun j z hj hz => hn (j + 1) z (by omega) (by simpa using hz)) (by simpa using h) hp
set_option maxRecDepth 100000 in
set_option maxHeartbeats 8000000 in
theorem find_o (W : World) (kb k : Nat) (Y : Rl) (q : Value × Value × List Rp) (h : RdL W kb Y q) (hn : Y.S.length ≤ 1000000) :
    Calls Tryz.prog 75 #[pt kb, uv k] W fun e W' => e = .returned (fptr q k) ∧ W' = W := by
  obtain ⟨n, hnn⟩ : ∃ n, Y.S.length = n := ⟨_, rfl⟩
  obtain ⟨a, cap, hs⟩ := h.sl
  rw [hnn] at hs hn
  have c13 := h.c13
  rw [hs] at c13
  have HR := Keep.mk (And.intro h (And.intro hnn hs))
  obtain ⟨F, hF⟩ : ∃ F, fptr q k = F := ⟨_, rfl⟩
  have HF := Keep.mk hF
  rw [hF]
  clear h hnn hs hF
  go_enter Tryz.func75, Tryz.ntmps75
  go_wp2_with fail
  go_loopw [5] (fun u wr => ∃ i : Nat, i ≤ n ∧ u = iv i ∧ wr = W ∧ Keep (∀ j z, j < i → q.2.2[j]? = some z → lvp k z = false)) (fun u _ => (n - intOf u).toNat)
  case atStart => exact ⟨0, by omega, rfl, rfl, ⟨fun j z hj => by omega⟩⟩
  case round =>
    obtain ⟨i, hi, rfl, hwr, hN⟩ := hrel
    subst hwr
    by_cases hlt : i < n
    · obtain ⟨p, hp⟩ : ∃ p, q.2.2[i]? = some p := ⟨_, List.getElem?_eq_getElem (by rw [HR.out.1.len, HR.out.2.1]; exact hlt)⟩
      obtain ⟨g, cap', e, hc⟩ := HR.out.1.row (by rw [HR.out.2.1]; omega)
      rw [HR.out.2.2, HR.out.2.1] at e
      injection e with e1 e2 e3
      subst e1 e3
      have g0 := hc i p hp
      have hp2 := (HR.out.1.at_ p (List.mem_of_getElem? hp)).1
      have s0 : wr.cell? ⟨p.sb, 0, none⟩ = some (uv p.x.s.num) := hp2.cellv 0 _ rfl
      have s13 : wr.cell? ⟨p.sb, 13, none⟩ = some (.bool p.x.g) := hp2.cellv 13 _ rfl
      have hi0 : (0 : Int) ≤ (i : Int) := by omega
      have hi1 : (i : Int) < (n : Nat) := by omega
      have hti : ((i : Nat) : Int).toNat = i := by omega
      have hwi : IntKind.i64.wrap ((i : Int) + 1) = ((i + 1 : Nat) : Int) := by rw [wi _ (by omega) (by omega)]; omega
      have HP := Keep.mk hp
      have HL : Keep (lvp k p = (decide (p.x.s.num = k) && !p.x.g)) := ⟨rfl⟩
      have HN2 : Keep (lvp k p = false → ∀ j z, j < i + 1 → q.2.2[j]? = some z → lvp k z = false) := ⟨fun hf j z hj hz => by
        by_cases ej : j = i
        · rw [ej, HP.out] at hz
          cases hz
          exact hf
        · exact hN.out j z (by omega) hz⟩
      obtain ⟨pg, hpg⟩ : ∃ pg, p.x.g = pg := ⟨_, rfl⟩
      rw [hpg] at s13 HL
      clear hc hp2 e2 hp
      by_cases ek : p.x.s.num = k
      · have e4 : decide (p.x.s.num = k) = true := decide_eq_true ek
        have e5 : ((p.x.s.num : Int) == (k : Int)) = true := beq_iff_eq.2 (by omega)
        cases pg with
        | false =>
          have HFF : Keep (F = pt p.sb) := ⟨by rw [← HF.out]; unfold fptr; rw [find_at (lvp k) q.2.2 i p hN.out HP.out (by rw [HL.out, e4]; rfl)]⟩
          clear ek
          go_wp2_with fail
          go_ret
          rw [HFF.out]
          exact ⟨rfl, rfl⟩
        | true =>
          have HQ : Keep (∀ j z, j < i + 1 → q.2.2[j]? = some z → lvp k z = false) := ⟨HN2.out (by rw [HL.out]; simp)⟩
          clear ek
          go_wp2_with fail
          go_roundw
          case rel => exact ⟨i + 1, by omega, rfl, trivial, HQ⟩
          case measure => simp [intOf]; omega
      · have e4 : decide (p.x.s.num = k) = false := decide_eq_false ek
        have e5 : ((p.x.s.num : Int) == (k : Int)) = false := by simpa using (show ¬ (p.x.s.num : Int) = k by omega)
        have HQ : Keep (∀ j z, j < i + 1 → q.2.2[j]? = some z → lvp k z = false) := ⟨HN2.out (by rw [HL.out, e4]; rfl)⟩
        clear ek
        go_wp2_with fail
        go_roundw
        case rel => exact ⟨i + 1, by omega, rfl, trivial, HQ⟩
        case measure => simp [intOf]; omega
    · have hi1 : ¬ (i : Int) < (n : Nat) := by omega
      have HFF : Keep (F = np) := ⟨by
        rw [← HF.out]
        unfold fptr
        have : q.2.2.find? (lvp k) = none := by
          rw [List.find?_eq_none]
          intro z hz
          obtain ⟨j, hj, e⟩ := List.getElem_of_mem hz
          have := hN.out j z (by have := HR.out.1.len; have := HR.out.2.1; omega) (by rw [List.getElem?_eq_getElem hj, e])
          simp [this]
        rw [this]⟩
      go_wp2_with fail
      go_ret
      rw [HFF.out]
      exact ⟨rfl, rfl⟩
end Go.Proofs.YtplcicbpkbamnabGreatDoor.Lo

