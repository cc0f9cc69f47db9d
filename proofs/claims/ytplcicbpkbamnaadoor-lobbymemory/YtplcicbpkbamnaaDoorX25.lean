import Derived.Test.YtplcicbpkbamnaaDoorX13
import Derived.BigQuiet
/- rows of accounts of the call's own -/
namespace Go.Proofs.YtplcicbpkbamnaaDoor.Lo
open Go Go.RowKit

def prv (p : Pr) : List Value := [.string p.1, .string p.2]
theorem prv_len (p : Pr) : (prv p).length = 2 := rfl
theorem prv_one (p : Pr) : ∀ v ∈ prv p, v.oneCell' = true := by
  intro v hv
  simp only [prv, List.mem_cons, List.not_mem_nil, or_false] at hv
  rcases hv with rfl | rfl <;> rfl
def prs (M : List Pr) : List Value := M.flatMap prv
theorem prs_len (M : List Pr) : (prs M).length = M.length * 2 := by
  induction M with
  | nil => rfl
  | cons c M ih =>
    have e : prs (c :: M) = prv c ++ prs M := rfl
    rw [e, List.length_append, ih, prv_len, List.length_cons]; omega
theorem prs_app (A B : List Pr) : prs (A ++ B) = prs A ++ prs B := by simp [prs]
theorem prs_one1 (c : Pr) : prs [c] = prv c := by simp [prs]
theorem prs_get : ∀ (M : List Pr) (j : Nat) (x : Pr) (r : Nat) (v : Value), M[j]? = some x → (prv x)[r]? = some v → (prs M)[j * 2 + r]? = some v
  | [], j, x, r, v, h, _ => by cases h
  | c :: M, 0, x, r, v, h, hv => by
    cases h
    have e : prs (c :: M) = prv c ++ prs M := rfl
    rw [e, Nat.zero_mul, Nat.zero_add, List.getElem?_append_left (List.getElem?_eq_some_iff.1 hv).1]
    exact hv
  | c :: M, j + 1, x, r, v, h, hv => by
    have e : prs (c :: M) = prv c ++ prs M := rfl
    rw [e, List.getElem?_append_right (by rw [prv_len]; omega), prv_len, show (j + 1) * 2 + r - 2 = j * 2 + r by omega]
    exact prs_get M j x r v (by simpa using h) hv
theorem prs_one (M : List Pr) : ∀ u ∈ prs M, u.oneCell' = true := by
  intro u hu
  unfold prs at hu
  rw [List.mem_flatMap] at hu
  obtain ⟨c, _, hc⟩ := hu
  exact prv_one c u hc
def z2 : List Value := [.string ⟨#[]⟩, .string ⟨#[]⟩]
set_option maxRecDepth 100000 in
theorem info27b : ∃ i, Tryd.prog.info? 27 = some i ∧ i.size = 2 ∧ i.bytes = 32 ∧ i.zero = some (.agg z2.toArray) := by
  have h : (Tryd.prog.info? 27).map (fun i => (i.size, i.bytes, i.zero)) = some (2, 32, some (.agg z2.toArray)) := by kernel_rfl
  cases hq : Tryd.prog.info? 27 with
  | none => simp [hq] at h
  | some i =>
    simp only [hq, Option.map_some, Option.some.injEq, Prod.mk.injEq] at h
    exact ⟨i, rfl, h.1, h.2.1, h.2.2⟩
theorem info27 : (Tryd.prog.info? 27).map (·.size) = some 2 := by kernel_rfl
theorem under22 : Tryd.prog.underlying 22 = some (.slice 27) := by kernel_rfl
theorem under27 : ∃ d, Tryd.prog.underlying 27 = some d ∧ d.isRow = true := ⟨_, Tryd.underlying27, rfl⟩
def prow (v : Value) (M : List Pr) : As := rowV 27 2 v M.length (prs M)
/-- one account more -/
theorem Sep.par {w0 W : World} {l : List As} {v : Value} {M : List Pr} (c : Pr) (h : Sep w0 W (prow v M :: l)) (hn : (M.length + 1) * 32 ≤ 140737488355328) :
    ∃ g q W', (Builtin.append_ #[22, 22] 22 #[v, .slice (some ⟨W.heap.size, 0, none⟩) 1 1]).run Tryd.prog (W.alloc (.cells (prv c).toArray 27)) = .ok (.slice (some ⟨g, 0, none⟩) (M.length + 1) q) W' ∧ Sep w0 W' (prow (.slice (some ⟨g, 0, none⟩) (M.length + 1) q) (M ++ [c]) :: l) := by
  obtain ⟨i, i1, i2, i3, i4⟩ := info27b
  obtain ⟨g, q, W', r1, r2⟩ := Sep.app under22 i1 i4 i2 i3 rfl (by decide) h (prv c) (prv_len c) (prv_one c) (by omega) (by decide)
  refine ⟨g, q, W', r1, ?_⟩
  unfold prow
  rw [List.length_append, prs_app, prs_one1]
  exact r2
/-- accounts that lie elsewhere are laid behind a row of the call's own -/
theorem Sep.appP {w0 W : World} {l : List As} {v : Value} {M : List Pr} (h : Sep w0 W (prow v M :: l)) (a : Addr) (m k : Nat) (B : List Pr) (hB : B.length = m) (hnews : ∀ (j : Nat) u, (prs B)[j]? = some u → W.cell? (a.add j) = some u) (hn : (M.length + m) * 32 ≤ 140737488355328) :
    ∃ v' W', (Builtin.append_ #[22, 22] 22 #[v, .slice (some a) m k]).run Tryd.prog W = .ok v' W' ∧ Sep w0 W' (prow v' (M ++ B) :: l) := by
  obtain ⟨i, i1, i2, i3, i4⟩ := info27b
  obtain ⟨F, ⟨ho, rfl⟩, _, hu⟩ := h.use
  obtain ⟨v', w', r1, r2, r3, _, r5⟩ := run_append_own_at (P := Tryd.prog) W 0 22 22 27 i (.agg z2.toArray) 2 32 under22 i1 i4 i2 i3 rfl (by decide) v M.length (prs M) ho a m k (prs B) (by rw [prs_len, hB]) hnews (prs_one B) (by unfold maxLen; omega) (by omega) (Nat.zero_le _)
  refine ⟨v', w', r1, hu w' [_] ((Fr.of r3).mono (fun i hi => .inl hi)) (Loc.one (a := prow _ _) _ ⟨?_, rfl⟩ (fun i hi => ?_))⟩
  · rw [prs_app, List.length_append, hB]; exact r2
  · rcases r5 with q | q
    · exact .inl (by rw [← q]; exact hi)
    · rw [q] at hi
      injection hi with e
      exact .inr (by omega)
set_option maxRecDepth 100000 in
theorem bs_none (w : World) : (Instr.buildSlice 22 0 #[]).run Tryd.prog w = .ok (.slice (some ⟨w.heap.size, 0, none⟩) 0 0) (w.alloc (.cells #[] 27)) := by kernel_rfl
set_option maxRecDepth 100000 in
theorem bs_prv (w : World) (c : Pr) : (Instr.buildSlice 22 1 #[(0, .agg (prv c).toArray)]).run Tryd.prog w = .ok (.slice (some ⟨w.heap.size, 0, none⟩) 1 1) (w.alloc (.cells (prv c).toArray 27)) := by
  obtain ⟨a, b⟩ := c
  kernel_rfl
theorem Sep.none {w0 W : World} {l : List As} (h : Sep w0 W l) : Sep w0 (W.alloc (.cells #[] 27)) (prow (.slice (some ⟨W.heap.size, 0, Option.none⟩) 0 0) [] :: l) :=
  h.new (World.grownBy_alloc _ _ _) (Loc.one (a := prow _ _) _ ⟨⟨rfl, .inr ⟨W.heap.size, 0, #[], rfl, Nat.zero_le _, Has.newA W #[] 27, Nat.le_refl _, Nat.zero_le _, rfl, rfl⟩⟩, rfl⟩ (fun i hi => .inr (by
    injection hi with e
    rw [← e]; exact Nat.le_refl _)))
/-- all accounts that are handed in, in a row of the call's own -/
theorem Sep.inp {w0 W : World} {l : List As} {v u : Value} {P : List Pr} (h : Sep w0 W (prow u [] :: l)) (hv : InR W v P) (hz : v = .slice Option.none 0 0 ∨ ∃ a n c, v = .slice (some a) n c) (hn : P.length * 32 ≤ 140737488351232) :
    ∃ v1 W1, (Builtin.append_ #[22, 22] 22 #[u, v]).run Tryd.prog W = .ok v1 W1 ∧ Sep w0 W1 (prow v1 P :: l) := by
  obtain ⟨a0, cap, e, hq⟩ := hv.o
  rcases hz with e2 | ⟨a, n, c, e2⟩
  · rw [e2] at e
    injection e with _ e3
    have hnil : P = [] := List.eq_nil_of_length_eq_zero e3.symm
    obtain ⟨i, i1, _⟩ := info27b
    have := run_append_owned_none (P := Tryd.prog) (w := W) 0 22 22 27 i 2 under22 i1 _ _ _ (h.rowGet k0m)
    rw [e2, hnil]
    exact ⟨_, _, this, h⟩
  · rw [e2] at e
    injection e with e3 e4 e5
    obtain ⟨v', W', q1, q2⟩ := h.appP a n c P e4.symm (fun j u hu => by
      have hj : j < P.length * 2 := by have := (List.getElem?_eq_some_iff.1 hu).1; rwa [prs_len] at this
      obtain ⟨g, o, eg, hcl⟩ := hq (by omega)
      rw [← e3] at eg
      injection eg with eg
      subst eg
      have hx : j / 2 < P.length := by omega
      obtain ⟨c1, c2⟩ := hcl (j / 2) _ (List.getElem?_eq_getElem hx)
      rw [Addr.add_mid]
      rcases Nat.mod_two_eq_zero_or_one j with hm | hm
      · have h2 := prs_get P (j / 2) _ 0 _ (List.getElem?_eq_getElem hx) rfl
        rw [show j / 2 * 2 + 0 = j by omega] at h2
        rw [h2] at hu
        cases hu
        rw [← c1]
        congr 2
        omega
      · have h2 := prs_get P (j / 2) _ 1 _ (List.getElem?_eq_getElem hx) rfl
        rw [show j / 2 * 2 + 1 = j by omega] at h2
        rw [h2] at hu
        cases hu
        rw [← c2]
        congr 2
        omega) (by simp; omega)
    rw [e2]
    exact ⟨v', W', q1, by simpa using q2⟩
/-- how a row of the call's own is read -/
theorem inr_of {w0 W : World} {l : List As} {g c : Nat} {n : Nat} {P R : List Pr} (h : Sep w0 W (prow (.slice (some ⟨g, 0, Option.none⟩) n c) (P ++ R) :: l)) (hs : ∀ x ∈ P, x.1.size ≤ 281474976710656 ∧ x.2.size ≤ 281474976710656) : InR W (.slice (some ⟨g, 0, Option.none⟩) P.length c) P := by
  refine ⟨⟨_, c, rfl, fun hl => ⟨g, 0, rfl, fun j x hx => ?_⟩⟩, hs⟩
  obtain ⟨g', c', e, hq⟩ := own_any (h.rowGet (show rowV 27 2 _ _ _ ∈ _ from k0m)) (by rw [List.length_append]; omega)
  injection e with e1
  injection e1 with e1
  injection e1 with e1
  subst e1
  have hx2 : (P ++ R)[j]? = some x := by rw [List.getElem?_append_left (List.getElem?_eq_some_iff.1 hx).1]; exact hx
  rw [Nat.zero_add]
  exact ⟨(hq _ _ (prs_get _ j x 0 _ hx2 rfl)).1, (hq _ _ (prs_get _ j x 1 _ hx2 rfl)).1⟩
/-- its shape -/
theorem Sep.shape {w0 W : World} {l : List As} {v : Value} {M : List Pr} (h : Sep w0 W (prow v M :: l)) (hl : 0 < M.length) : ∃ g c, v = .slice (some ⟨g, 0, Option.none⟩) M.length c ∧ M.length ≤ c ∧ ∀ (j : Nat) x, M[j]? = some x → W.rangeAt g (j * 2) (prv x) := by
  have ho := h.rowGet (show rowV 27 2 _ _ _ ∈ _ from k0m)
  obtain ⟨g, c, e, hq⟩ := own_any ho hl
  refine ⟨g, c, e, ?_, fun j x hx r u hu => (hq _ _ (prs_get _ j x r u hx hu)).1⟩
  obtain ⟨_, h2⟩ := ho
  rcases h2 with ⟨e', _⟩ | ⟨g', cap', cur, e', _, _, hc, _⟩
  · rw [e'] at e; cases e
  · rw [e'] at e
    injection e with _ _ e3
    rw [← e3]
    exact hc
theorem Sep.pgetM {w0 W : World} {l : List As} {g n c : Nat} {M : List Pr} (h : Sep w0 W l) (hm : prow (.slice (some ⟨g, 0, Option.none⟩) n c) M ∈ l) {i : Nat} {p : Pr} (hp : M[i]? = some p) : (W.cell? ⟨g, i * 2, Option.none⟩ = some (.string p.1) ∧ W.cell? ⟨g, i * 2 + 1, Option.none⟩ = some (.string p.2)) ∧ W.frozen? ⟨g, i * 2, Option.none⟩ = false ∧ W.frozen? ⟨g, i * 2 + 1, Option.none⟩ = false := by
  obtain ⟨g', c', e, hq⟩ := own_any (h.rowGet (show rowV 27 2 _ _ _ ∈ _ from hm)) (by have := (List.getElem?_eq_some_iff.1 hp).1; omega)
  injection e with e1
  injection e1 with e1
  injection e1 with e1
  subst e1
  have q0 := hq _ _ (prs_get _ i p 0 _ hp rfl)
  have q1 := hq _ _ (prs_get _ i p 1 _ hp rfl)
  exact ⟨⟨q0.1, q1.1⟩, q0.2, q1.2⟩
/-- one of them written over -/
theorem Sep.prSet {w0 W : World} {l : List As} {g n c : Nat} {A B : List Pr} {x : Pr} (y : Pr) (h : Sep w0 W (prow (.slice (some ⟨g, 0, Option.none⟩) n c) (A ++ x :: B) :: l)) (hn : n = (A ++ x :: B).length) : Sep w0 ((W.setCell ⟨g, A.length * 2, Option.none⟩ (.string y.1)).setCell ⟨g, A.length * 2 + 1, Option.none⟩ (.string y.2)) (prow (.slice (some ⟨g, 0, Option.none⟩) n c) (A ++ y :: B) :: l) := by
  have e0 : prs (A ++ x :: B) = prs A ++ (.string x.1 :: .string x.2 :: prs B) := by simp [prs, prv]
  have e1 : prs (A ++ y :: B) = prs A ++ (.string y.1 :: .string y.2 :: prs B) := by simp [prs, prv]
  have el : (A ++ y :: B).length = n := by rw [hn]; simp
  unfold prow at h ⊢
  rw [← hn, e0] at h
  rw [el, e1]
  have h1 := h.rowSet (prs A).length (.string y.1)
  rw [List.set_append_right _ _ (Nat.le_refl _), Nat.sub_self, List.set_cons_zero] at h1
  have h2 := h1.rowSet ((prs A).length + 1) (.string y.2)
  rw [List.set_append_right _ _ (by omega), show (prs A).length + 1 - (prs A).length = 1 by omega, List.set_cons_succ, List.set_cons_zero] at h2
  rw [prs_len] at h2
  exact h2
theorem build_p {P : Program} {w : World} {ops : Array Oper} {rest : List Oper} {o : Oper} {a : Act} {Q : Exit → Act → World → Prop} (hgd : o.guard = Option.none) (t : TypeId) (parts : Array (Nat × Operand))
    (ho : o.op = .build t parts) (cells : Array Value) (hb : P.built t (parts.map fun (i, x) => (i, a.eval x)).toList = some cells) (h : wpList P ops Q rest (a.put o.dst (.agg cells)) w) : wpList P ops Q (o :: rest) a w :=
  wpList_plain hgd fun _ hK => by
    unfold Oper.wp execOp
    simp only [ho, Sem.run_bind, run_build w t _ cells hb, Result.andThen_ok]
    exact hK _ _ h
abbrev sRoom : ByteArray := ⟨#[114, 111, 111, 109]⟩
abbrev sOver : ByteArray := ⟨#[111, 118, 101, 114]⟩
def room : Pr := (sRoom, ⟨#[]⟩)
set_option maxRecDepth 100000 in
theorem built27 : Tryd.prog.built 27 [(0, .string sRoom)] = some (prv room).toArray := by kernel_rfl
set_option maxRecDepth 100000 in
theorem eq27 (p : Pr) (w : World) : (Op.equalIn 10000 27 (.agg (prv p).toArray) (.agg (prv p).toArray)).run Tryd.prog w = .ok true w := by
  rw [show (10000 : Nat) = 9999 + 1 from rfl, run_equalIn_agg w 9999 27 _ _ (by kernel_rfl) (by kernel_rfl)]
  have u9 := Tryd.underlying9
  have a9 := Tryd.isAgg9
  have z9 := Tryd.sizeOf9
  simp only [Program.fieldsOf, Tryd.underlying27, prv]
  go_simp
/-- the first account is found -/
theorem cpy_pre : ∀ (P : List Pr) (A B : List Ac), cpy A P = some B → ∃ C, B = A ++ C
  | [], A, B, h => ⟨[], by simpa [cpy] using h.symm⟩
  | p :: r, A, B, h => by
    unfold cpy at h
    unfold cpyS at h
    split at h
    · cases h
    · rename_i C hC
      split at hC
      · cases hC
      · obtain rfl : A ++ [⟨p.1, Na.sl p.2⟩] = C := by simpa using hC
        obtain ⟨D, rfl⟩ := cpy_pre r _ B h
        exact ⟨_, List.append_assoc _ _ _⟩
theorem first_in {c : Cf} {p : Pr} {r : List Pr} {X : Lb} (h : newL c (p :: r) = some X) : fdI X.A p.1 = some 0 ∧ secS X p.1 = p.2 := by
  unfold newL at h
  split at h
  · obtain ⟨A, hA, rfl⟩ := Option.map_eq_some_iff.1 h
    unfold cpyL at hA
    split at hA
    · cases hA
    · unfold cpy at hA
      split at hA
      · cases hA
      · rename_i C hC
        unfold cpyS at hC
        split at hC
        · cases hC
        · rename_i hq
          obtain rfl : [⟨p.1, Na.sl p.2⟩] = C := by simpa using hC
          obtain ⟨D, rfl⟩ := cpy_pre r _ A hA
          have hc : Na.chkOK p.1 = true := Decidable.byContradiction fun e => hq (.inr (.inl e))
          have e1 : fdI ([⟨p.1, Na.sl p.2⟩] ++ D) p.1 = some 0 := by
            unfold fdI
            rw [if_pos hc]
            have : same ⟨p.1, Na.sl p.2⟩ p.1 = true := by simp [same]
            simp [List.findIdx?_cons, this]
          refine ⟨e1, ?_⟩
          unfold secS
          simp only [e1]
          simp [txt, Na.sl]
  · cases h
end Go.Proofs.YtplcicbpkbamnaaDoor.Lo

/- LobbyMemory's walk -/
namespace Go.Proofs.YtplcicbpkbamnaaDoor.Lo
open Go Go.RowKit Go.Maps

set_option maxRecDepth 100000 in
set_option maxHeartbeats 8000000 in
theorem first_c (w0 W : World) (l : List As) (lb : Nat) (X : Lb) (p1 p2 : ByteArray) (h : Sep w0 W (lobA lb X :: l)) (ok : LbOk X) (hk : ∀ W' l', Sep w0 W' l' → Na.Kc W') (hs : p1.size ≤ 281474976710656) (hf : fdI X.A p1 = some 0) (hq : secS X p1 = p2) :
    Calls Tryd.prog 12 #[pt lb, .agg #[.string p1, .string p2]] W fun e W' => e = .returned (.bool true) ∧ Sep w0 W' (lobA lb X :: l) := by
  have S1 := h.newBox #[.string p1, .string p2] 27
  obtain ⟨W1, hW1⟩ : ∃ W1, W.alloc (.cells #[.string p1, .string p2] 27) = W1 := ⟨_, rfl⟩
  obtain ⟨pb, hpb⟩ : ∃ pb, W.heap.size = pb := ⟨_, rfl⟩
  rw [hW1, hpb] at S1
  have c0 : W1.cell? ⟨pb, 0, none⟩ = some (.string p1) := (S1.boxGet k0m).cellv 0 _ rfl
  have hS := secret_c w0 W1 _ lb X p1 S1.swap ok (hk _ _ S1) hs
  rw [hf, hq, show (some 0 : Option Nat).isSome = true from rfl] at hS
  clear S1 h hk ok hf hq
  go_enter Tryd.func12, Tryd.ntmps12
  go_wp2_with fail
  refine hS.mono ?_
  rintro e w2 ⟨rfl, S2⟩
  have c1 : w2.cell? ⟨pb, 1, none⟩ = some (.string p2) := (S2.boxGet k1m).cellv 1 _ rfl
  have HF := Keep.mk (S2.swap.tail)
  clear hS S2 c0 hW1 hpb
  go_wp2_with fail
  go_ret
  exact ⟨rfl, HF.out⟩
theorem under24' : ∃ d, Tryd.prog.underlying 24 = some d ∧ d.isRow = true := ⟨_, Tryd.underlying24, rfl⟩
theorem info24' : (Tryd.prog.info? 24).map (·.size) = some 13 := by kernel_rfl
theorem room_of {j : Nat} {x : Pr} (h : x ∈ List.replicate j room) : x = room := List.eq_of_mem_replicate h
theorem cfv_one (c : Cf) (a : Option Addr) (n cap : Nat) : ∀ v ∈ (cfv c (.slice a n cap)).toList, v.oneCell' = true := by
  intro v hv
  simp only [cfv, List.mem_cons, List.not_mem_nil, or_false] at hv
  rcases hv with rfl | rfl | rfl | rfl | rfl | rfl | rfl | rfl | rfl | rfl | rfl | rfl | rfl <;> rfl
set_option maxRecDepth 100000 in
set_option maxHeartbeats 16000000 in
theorem memory_c (w : World) (c : Cf) (v : Value) (P : List Pr) (nm : ByteArray) (hv : InR w v P) (hz : v = .slice none 0 0 ∨ ∃ a n c, v = .slice (some a) n c) (hn : P.length * 32 ≤ 140737488351232) (hnk : Na.Kc w) (hk : Kc w) (hs : nm.size ≤ 281474976710656)
    (hAl : ∀ W, Na.Kc W → Kc W → Calls Tryd.prog 8 #[] W fun e w' => e = .returned (.bool true) ∧ W.grownBy w' none) (so : ByteArray) (hSo : ∀ W, Calls Tryd.prog 10 #[.int .u8 111] W fun e w' => e = .returned (.string so) ∧ W.grownBy w' none) (hOk : ∀ X, newL c P = some X → LbOk X) :
    Calls Tryd.prog 3 #[.agg (cfv c v), .string nm] w fun e w' => e = .returned (.bool true) ∧ w.grownBy w' none := by
  obtain ⟨du, hdu, hdr⟩ := under24'
  obtain ⟨a, cap, hve, _⟩ := hv.o
  obtain ⟨n, hnn⟩ : ∃ n, P.length = n := ⟨_, rfl⟩
  rw [hnn] at hve
  subst hve
  have S1 := (Sep.nil w).newBox (cfv c (.slice a n cap)) 24
  obtain ⟨W1, hW1⟩ : ∃ W1, w.alloc (.cells (cfv c (.slice a n cap)) 24) = W1 := ⟨_, rfl⟩
  obtain ⟨cb, hcb⟩ : ∃ cb, w.heap.size = cb := ⟨_, rfl⟩
  rw [hW1, hcb] at S1
  have HKK : Keep (∀ W l, Sep w W l → Na.Kc W ∧ Kc W) := ⟨fun W l h => ⟨hnk.kept h.g, hk.kept h.g (by simp)⟩⟩
  have HIN : Keep (∀ W l, Sep w W l → InR W (.slice a n cap) P) := ⟨fun W l h => hv.kept h.g⟩
  have HP : Keep ((∀ x ∈ P, x.1.size ≤ 281474976710656 ∧ x.2.size ≤ 281474976710656) ∧ P.length = n ∧ n * 32 ≤ 140737488351232 ∧ nm.size ≤ 281474976710656) := ⟨hv.s, hnn, by omega, hs⟩
  have HZ := Keep.mk hz
  have HSO := Keep.mk hSo
  have HOK := Keep.mk hOk
  have hA := hAl W1 (HKK.out _ _ S1).1 (HKK.out _ _ S1).2
  obtain ⟨cl, hcl⟩ : ∃ cl, (cfv c (.slice a n cap)).toList = cl := ⟨_, rfl⟩
  have HCV : Keep (cl.length = 13 ∧ cl[12]? = some (.slice a n cap) ∧ (∀ u, cl.set 12 u = (cfv c u).toList) ∧ cfv c (.slice a n cap) = cl.toArray) := ⟨by rw [← hcl]; rfl, by rw [← hcl]; rfl, fun _ => by rw [← hcl]; rfl, by rw [← hcl]⟩
  have HONE : Keep (∀ v ∈ cl, v.oneCell' = true) := ⟨by rw [← hcl]; exact cfv_one _ _ _ _⟩
  rw [hcl] at S1
  have HS1 := Keep.mk S1
  generalize hcv : cfv c (.slice a n cap) = cv at hW1 ⊢
  clear hAl hSo hOk hcv S1 hnk hk hv hz hs hnn hn hcl
  go_enter Tryd.func3, Tryd.ntmps3
  go_wp2_with fail
  refine hA.mono ?_
  rintro e w2 ⟨rfl, g2⟩
  have S3 := (HS1.out.grown g2).none
  obtain ⟨W3, hW3⟩ : ∃ W3, w2.alloc (.cells #[] 27) = W3 := ⟨_, rfl⟩
  obtain ⟨eb, heb⟩ : ∃ eb, w2.heap.size = eb := ⟨_, rfl⟩
  rw [hW3, heb] at S3
  obtain ⟨v4, W4, r4, S4⟩ := S3.inp (HIN.out _ _ S3) HZ.out (by rw [HP.out.2.1]; exact HP.out.2.2.1)
  have c12 : W3.cell? ⟨cb, 12, none⟩ = some (.slice a n cap) := (S3.boxGet k1m).cellv 12 _ HCV.out.2.1
  have HAP := Keep.mk r4
  have HS4 : Keep (Sep w W4 [prow v4 (P ++ List.replicate 0 room), boxA cb cl 24]) := ⟨by simpa using S4⟩
  clear S3 S4 r4 hA g2 HS1 hW1 hcb
  go_wp2_with (at_builtin; refine wpList_append_run _ rfl _ _ 22 rfl _ _ rfl rfl HAP.out ?_)
  go_loopw [5, 6] (fun u t wr => ∃ j : Nat, j ≤ 40 ∧ t = iv j ∧ Keep (Sep w wr [prow u (P ++ List.replicate j room), boxA cb cl 24])) (fun _ t _ => (40 - intOf t).toNat)
  case atStart => exact ⟨0, by omega, rfl, HS4⟩
  case round =>
    clear HS4 HAP c12 hW3 heb
    obtain ⟨j, hj, rfl, hrel⟩ := hrel
    by_cases hlj : j < 40
    · obtain ⟨g, q, w5, r1, r2⟩ := hrel.out.par room (by rw [List.length_append, List.length_replicate, HP.out.2.1]; have := HP.out.2.2.1; omega)
      obtain ⟨m, hm⟩ : ∃ m, (P ++ List.replicate j room).length + 1 = m := ⟨_, rfl⟩
      rw [hm] at r1 r2
      have HR : Keep (Sep w w5 [prow (.slice (some ⟨g, 0, none⟩) m q) (P ++ List.replicate (j + 1) room), boxA cb cl 24]) := ⟨by rw [List.replicate_succ', ← List.append_assoc]; exact r2⟩
      have HA := Keep.mk r1
      have HB := Keep.mk built27
      have hwi : IntKind.i64.wrap ((j : Int) + 1) = ((j + 1 : Nat) : Int) := by rw [wi _ (by omega) (by omega)]; omega
      have hj1 : (j : Int) < 40 := by omega
      clear hrel r1 r2 hm
      go_wp2_with (first
        | (show wpList _ _ _ ({ dst := _, op := Op.build 27 _, type := _, pos := _, after := _, guard := _ } :: _) _ _
           refine build_p (by rfl) 27 _ rfl _ ((congrArg (Tryd.prog.built 27) (by simp only [List.map_toArray, List.map_cons, List.map_nil]; rfl)).trans HB.out) ?_)
        | (show wpList _ _ _ ({ dst := _, op := Op.buildSlice 22 _ _, type := _, pos := _, after := _, guard := _ } :: _) _ _
           refine wpList_bs_run rfl _ 22 rfl _ rfl (bs_prv _ room) ?_)
        | (at_builtin; refine wpList_append_run _ rfl _ _ 22 rfl _ _ rfl rfl HA.out ?_))
      exact ⟨⟨j + 1, by omega, by simp, HR⟩, by simp only [intOf]; omega⟩
    · obtain rfl : j = 40 := by omega
      have S5 := hrel.out
      obtain ⟨g, q, e5, hq, _⟩ := S5.shape (by simp)
      have hM : (P ++ List.replicate 40 room).length = n + 40 := by rw [List.length_append, List.length_replicate, HP.out.2.1]
      rw [hM] at e5 hq
      obtain ⟨m, hm⟩ : ∃ m, n + 40 = m := ⟨_, rfl⟩
      rw [hm] at e5 hq
      subst e5
      obtain ⟨R, hR⟩ : ∃ R, List.replicate 40 room = R := ⟨_, rfl⟩
      have HR : Keep (R.length = 40 ∧ (∀ x ∈ R, x = room) ∧ n + 40 = m) := ⟨by rw [← hR]; simp, fun x hx => by rw [← hR] at hx; exact room_of hx, hm⟩
      rw [hR] at S5
      have c12 : wr.cell? ⟨cb, 12, none⟩ = some (.slice a n cap) := (S5.boxGet k1m).cellv 12 _ HCV.out.2.1
      have RNG := Keep.mk (S5.boxGet k1m).range
      have HS5 := Keep.mk S5
      have hnq : (n : Int) ≤ (q : Int) := by omega
      have hnm : (n : Int) ≤ (m : Int) := by omega
      clear hrel S5 hM hR hq hm hj hlj
      go_wp2_with (first
        | (show wpList _ _ _ ({ dst := _, op := Op.load 24 _, type := _, pos := _, after := _, guard := _ } :: _) _ _
           refine wpList_load_mid rfl 24 _ rfl _ _ rfl _ _ RNG.out hdu hdr (by rw [HCV.out.1]; exact info24') ?_)
        | (show wpList _ _ _ ({ dst := _, op := Op.store 24 _ _, type := _, pos := _, after := _, guard := _ } :: _) _ _
           refine store_new _ cl 24 rfl rfl rfl rfl (by rw [HCV.out.1]; rfl) (by rw [HCV.out.1]; exact info24') HONE.out ?_))
      intro w6 hS6 g6
      have S6 := hS6 _ _ HS5.out
      obtain ⟨lb0, hlb0⟩ : ∃ b, wr.heap.size = b := ⟨_, rfl⟩
      rw [hlb0] at S6 ⊢
      have z12 : w6.cell? ⟨lb0, 12, none⟩ = some (.slice a n cap) := (S6.boxGet k0m).cellv 12 _ HCV.out.2.1
      have f12 : w6.frozen? ⟨lb0, 12, none⟩ = false := (S6.boxGet k0m).frozen 12
      have S7 := S6.boxPut 12 (.slice (some ⟨g, 0, none⟩) n q)
      rw [HCV.out.2.2.1] at S7
      obtain ⟨w7, hw7⟩ : ∃ w7, w6.setCell ⟨lb0, 12, none⟩ (.slice (some ⟨g, 0, none⟩) n q) = w7 := ⟨_, rfl⟩
      rw [hw7] at S7
      have hin := inr_of (P := P) S7.swap HP.out.1
      rw [HP.out.2.1] at hin
      have hN := new_c w7 c (.slice (some ⟨g, 0, none⟩) n q) P hin (HKK.out _ _ S7).1
      have RNG2 := Keep.mk (S7.boxGet k0m).range
      have HCL : Keep ((cfv c (.slice (some ⟨g, 0, none⟩) n q)).toList.length = 13) := ⟨rfl⟩
      have hdl : (cfv c (.slice (some ⟨g, 0, none⟩) n q)) = (cfv c (.slice (some ⟨g, 0, none⟩) n q)).toList.toArray := rfl
      rw [hdl] at hN
      generalize (cfv c (.slice (some ⟨g, 0, none⟩) n q)).toList = dl at hN RNG2 HCL S7
      have HS7 := Keep.mk S7
      clear hdl hin S7 S6 hS6 g6 RNG HS5 c12
      go_wp2_with (first
        | (show wpList _ _ _ ({ dst := _, op := Op.load 24 _, type := _, pos := _, after := _, guard := _ } :: _) _ _
           refine wpList_load_mid rfl 24 _ rfl _ _ rfl _ _ RNG2.out hdu hdr (by rw [HCL.out]; exact info24') ?_))
      refine hN.mono ?_
      intro e w8 h8
      obtain ⟨u9, u10, L, rfl, S8, hcase⟩ : ∃ u9 u10 L, e = .returned (.tuple #[u9, u10]) ∧ Sep w w8 (prow (.slice (some ⟨g, 0, none⟩) m q) (P ++ R) :: boxA cb cl 24 :: L) ∧ ((newL c P = none ∧ u9 = np ∧ u10 = iv 230) ∨ ∃ lb X, newL c P = some X ∧ u9 = pt lb ∧ u10 = iv 0 ∧ L = [lobA lb X]) := by
        cases hX : newL c P with
        | none =>
          rw [hX] at h8
          obtain ⟨rfl, g8⟩ := h8
          exact ⟨_, _, [], rfl, (HS7.out.grown g8).tail, .inl ⟨rfl, rfl, rfl⟩⟩
        | some X =>
          rw [hX] at h8
          obtain ⟨lb, rfl, S8⟩ := h8
          have q := HS7.out.ovr S8
          exact ⟨_, _, [lobA lb X], rfl, q.swap.tail.perm (by
            refine (List.Perm.swap _ _ _).trans (List.Perm.cons _ ?_)
            exact List.Perm.swap _ _ _), .inr ⟨lb, X, rfl, rfl, rfl, rfl⟩⟩
      have hcut : Keep (Sep w w8 (prow (.slice (some ⟨g, 0, none⟩) m q) (List.replicate 0 (sOver, so) ++ (P ++ R).drop 0) :: boxA cb cl 24 :: L)) := ⟨by simpa using S8⟩
      have HCS := Keep.mk hcase
      clear h8 hcase hN HS7 RNG2 HCL S8 z12 f12 hw7 hlb0
      go_wp2_with fail
      go_loopw [11] (fun t ws => ∃ i : Nat, i ≤ m ∧ t = iv i ∧ Keep (Sep w ws (prow (.slice (some ⟨g, 0, none⟩) m q) (List.replicate i (sOver, so) ++ (P ++ R).drop i) :: boxA cb cl 24 :: L))) (fun t _ => (m - intOf t).toNat)
      case atStart => exact ⟨0, by omega, rfl, hcut⟩
      case round =>
        clear hcut
        obtain ⟨i, hi, rfl, hR⟩ := hrel
        have hML : (P ++ R).length = m := by rw [List.length_append, HP.out.2.1, HR.out.1]; exact HR.out.2.2
        by_cases him : i < m
        · obtain ⟨⟨x1, x2⟩, hx⟩ : ∃ x, (P ++ R)[i]? = some x := ⟨_, List.getElem?_eq_getElem (by rw [hML]; exact him)⟩
          have hdrop : (P ++ R).drop i = (x1, x2) :: (P ++ R).drop (i + 1) := by
            obtain ⟨h1, h2⟩ := List.getElem?_eq_some_iff.1 hx
            rw [List.drop_eq_getElem_cons h1, h2]
          rw [hdrop] at hR
          have hgt : (List.replicate i (sOver, so) ++ (x1, x2) :: (P ++ R).drop (i + 1))[i]? = some (x1, x2) := by
            rw [List.getElem?_append_right (by simp)]; simp
          have HGT : Keep (∀ W, wr.grownBy W none → (W.cell? ⟨g, i * 2, none⟩ = some (.string x1) ∧ W.cell? ⟨g, i * 2 + 1, none⟩ = some (.string x2)) ∧ W.frozen? ⟨g, i * 2, none⟩ = false ∧ W.frozen? ⟨g, i * 2 + 1, none⟩ = false) := ⟨fun W gW => (hR.out.grown gW).pgetM k0m hgt⟩
          have HV : Keep (∀ W, wr.grownBy W none → Sep w ((W.setCell ⟨g, i * 2, none⟩ (.string sOver)).setCell ⟨g, i * 2 + 1, none⟩ (.string so)) (prow (.slice (some ⟨g, 0, none⟩) m q) (List.replicate (i + 1) (sOver, so) ++ (P ++ R).drop (i + 1)) :: boxA cb cl 24 :: L)) := ⟨fun W gW => by
            have h := (hR.out.grown gW).prSet (sOver, so) (by rw [List.length_append, List.length_replicate, List.length_cons, List.length_drop, hML]; omega)
            rw [List.length_replicate] at h
            rw [List.replicate_succ', List.append_assoc]
            exact h⟩
          obtain ⟨⟨y0, y1⟩, f0, f1⟩ := HGT.out wr (World.grownBy.refl _ _)
          have c12 : wr.cell? ⟨cb, 12, none⟩ = some (.slice a n cap) := (hR.out.boxGet k1m).cellv 12 _ HCV.out.2.1
          have hi1 : (i : Int) < (m : Nat) := by omega
          have hti : ((i : Nat) : Int).toNat = i := by omega
          have hwi : IntKind.i64.wrap ((i : Int) + 1) = ((i + 1 : Nat) : Int) := by have := HR.out.2.2; have := HP.out.2.2.1; rw [wi _ (by omega) (by omega)]; omega
          by_cases hin : i < n
          · have hxP : P[i]? = some (x1, x2) := by rw [List.getElem?_append_left (by rw [HP.out.2.1]; exact hin)] at hx; exact hx
            obtain ⟨a', cap', e', hq'⟩ := (HIN.out _ _ hR.out).o
            obtain ⟨gc, oc, ea, hcells⟩ := hq' (by rw [HP.out.2.1]; omega)
            injection e' with e1 e2 e3
            rw [← e1] at ea
            rw [ea] at c12
            obtain ⟨b0, b1⟩ := hcells i _ hxP
            simp only at b0 b1
            have hd : decide ((i : Int) < (n : Int)) = true := decide_eq_true (by omega)
            have hd' : decide (i < n) = true := decide_eq_true (by omega)
            have hd2 : decide ((n : Int) ≤ (i : Int)) = false := decide_eq_false (by omega)
            have hd3 : decide ((i : Int) ≥ (n : Int)) = false := decide_eq_false (by omega)
            have hd4 : decide (n ≤ i) = false := decide_eq_false (by omega)
            have hi2 : (i : Int) < (n : Nat) := by omega
            clear hx hdrop hgt hML hR hxP hcells hq' e1 e2 e3 ea
            go_wp2_with fail
            go_quiet (fail)
            go_wp2_with fail
            refine (HSO.out _).mono ?_
            rintro e w9 ⟨rfl, g9⟩
            have gg := (gr_drewN wr nq none).trans g9
            have HV2 := Keep.mk (HV.out w9 gg)
            obtain ⟨⟨y0, y1⟩, f0, f1⟩ := HGT.out w9 gg
            clear g9 gg HV HGT
            go_wp2_with fail
            go_roundw
            case rel => exact ⟨i + 1, by omega, rfl, HV2⟩
            case measure => simp [intOf]; omega
          · have hxR : (x1, x2) = room := HR.out.2.1 _ (by
              rw [List.getElem?_append_right (by rw [HP.out.2.1]; omega)] at hx
              exact List.mem_of_getElem? hx)
            injection hxR with ex1 ex2
            subst ex1 ex2
            have hd : decide ((i : Int) < (n : Int)) = false := decide_eq_false (by omega)
            have hd' : decide (i < n) = false := decide_eq_false (by omega)
            have hd2 : decide ((n : Int) ≤ (i : Int)) = true := decide_eq_true (by omega)
            have hd3 : decide ((i : Int) ≥ (n : Int)) = true := decide_eq_true (by omega)
            have hd4 : decide (n ≤ i) = true := decide_eq_true (by omega)
            have hi2 : (n : Int) ≤ (i : Int) := by omega
            have hB := built27
            clear hx hdrop hgt hML hR c12
            go_wp2_with fail
            go_quiet (fail)
            go_wp2_with fail
            refine (HSO.out _).mono ?_
            rintro e w9 ⟨rfl, g9⟩
            have gg := (gr_drewN wr nq none).trans g9
            have HV2 := Keep.mk (HV.out w9 gg)
            obtain ⟨⟨y0, y1⟩, f0, f1⟩ := HGT.out w9 gg
            clear g9 gg HV HGT
            go_wp2_with fail
            go_roundw
            case rel => exact ⟨i + 1, by omega, rfl, HV2⟩
            case measure => simp [intOf]; omega
        · obtain rfl : i = m := by omega
          rcases HCS.out with ⟨_, rfl, rfl⟩ | ⟨lb, X, hX, rfl, rfl, rfl⟩
          · have HG := Keep.mk hR.out.g
            clear hR
            go_wp2_with fail
            go_ret
            exact ⟨rfl, HG.out⟩
          · have RNG := Keep.mk (hR.out.boxGet k1m).range
            have hN := new_c wr c (.slice a n cap) P (HIN.out _ _ hR.out) (HKK.out _ _ hR.out).1
            rw [hX, HCV.out.2.2.2] at hN
            have HX := Keep.mk hX
            clear hX hML
            go_wp2_with (first
              | (show wpList _ _ _ ({ dst := _, op := Op.load 24 _, type := _, pos := _, after := _, guard := _ } :: _) _ _
                 refine wpList_load_mid rfl 24 _ rfl _ _ rfl _ _ RNG.out hdu hdr (by rw [HCV.out.1]; exact info24') ?_))
            refine hN.mono ?_
            rintro e w10 ⟨kb, rfl, S10'⟩
            have S10 : Sep w w10 (lobA kb X :: lobA lb X :: boxA cb cl 24 :: []) := by
              have h := hR.out.ovr S10'
              exact (h.swap.tail).perm (List.Perm.cons _ (List.Perm.swap _ _ _))
            have hs1 := secret_c w w10 _ lb X nm S10.swap (HOK.out X HX.out) (HKK.out _ _ S10).1 HP.out.2.2.2
            obtain ⟨s1, hs1e⟩ : ∃ s, secS X nm = s := ⟨_, rfl⟩
            obtain ⟨b1, hb1e⟩ : ∃ b, (fdI X.A nm).isSome = b := ⟨_, rfl⟩
            rw [hs1e, hb1e] at hs1
            clear hR hN S10' S10 RNG
            go_wp2_with fail
            refine hs1.mono ?_
            rintro e w11 ⟨rfl, S11⟩
            have hs2 := secret_c w w11 _ kb X nm S11.swap (HOK.out X HX.out) (HKK.out _ _ S11).1 HP.out.2.2.2
            rw [hs1e, hb1e] at hs2
            clear hs1 S11 hs1e hb1e
            go_wp2_with fail
            refine hs2.mono ?_
            rintro e w12 ⟨rfl, S12⟩
            have HG := Keep.mk S12.g
            clear hs2
            by_cases hn0 : n = 0
            · subst hn0
              clear S12
              go_wp2_with fail
              go_ret
              exact ⟨rfl, HG.out⟩
            · obtain ⟨⟨p1, p2⟩, r, hPr⟩ : ∃ p r, P = p :: r := by
                cases hP : P with
                | nil => exact absurd (by rw [← HP.out.2.1, hP]; rfl) hn0
                | cons p r => exact ⟨p, r, rfl⟩
              obtain ⟨hf1, hf2⟩ := first_in (c := c) (p := (p1, p2)) (r := r) (by rw [← hPr]; exact HX.out)
              have hsz := (HP.out.1 (p1, p2) (by rw [hPr]; exact List.mem_cons_self ..)).1
              have HFC : Keep (∀ W, w12.grownBy W none → Calls Tryd.prog 12 #[pt lb, .agg #[.string p1, .string p2]] W fun e W' => e = .returned (.bool true) ∧ Sep w W' _) := ⟨fun W gW => first_c w W _ lb X p1 p2 (S12.swap.grown gW) (HOK.out X HX.out) (fun W' l' h' => (HKK.out _ _ h').1) hsz hf1 hf2⟩
              have c12 : w12.cell? ⟨cb, 12, none⟩ = some (.slice a n cap) := (S12.boxGet k2m).cellv 12 _ HCV.out.2.1
              obtain ⟨a', cap', e', hq'⟩ := (HIN.out _ _ S12).o
              obtain ⟨gc, oc, ea, hcells⟩ := hq' (by rw [HP.out.2.1]; omega)
              injection e' with e1 e2 e3
              rw [← e1] at ea
              rw [ea] at c12
              obtain ⟨b0, b1'⟩ := hcells 0 (p1, p2) (by rw [hPr]; rfl)
              simp only [Nat.zero_mul, Nat.add_zero] at b0 b1'
              have hnp : (0 : Int) < (n : Nat) := by omega
              have hd : decide ((n : Int) = 0) = false := decide_eq_false (by omega)
              have hd' : decide (n = 0) = false := decide_eq_false hn0
              have hd2 : ((n : Int) == 0) = false := by simp; omega
              clear hq' hcells e1 e2 e3 ea S12 hf1 hf2 hsz hPr
              go_wp2_with fail
              refine (HFC.out w12 (World.grownBy.refl _ _)).mono ?_
              rintro e w13 ⟨rfl, S13⟩
              have HG2 := Keep.mk S13.g
              clear S13 HFC HG b0 b1' c12
              go_wp2_with fail
              go_ret
              exact ⟨rfl, HG2.out⟩
end Go.Proofs.YtplcicbpkbamnaaDoor.Lo

