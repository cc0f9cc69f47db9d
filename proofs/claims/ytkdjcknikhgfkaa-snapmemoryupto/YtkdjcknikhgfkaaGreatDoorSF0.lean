import Derived.Test.YtkdjcknikhgfkaaGreatDoorSS1
/- SnapFits: what is fitted -/
namespace Go.Proofs.YtkdjcknikhgfkaaGreatDoor.Pk.Sn
open Go Go.RowKit

set_option maxRecDepth 100000 in
theorem underSn : ∃ d, Tryz.prog.underlying 40 = some d ∧ d.isRow = true := ⟨_, Tryz.underlying40, rfl⟩
set_option maxRecDepth 100000 in
theorem infoSz : (Tryz.prog.info? 40).map (·.size) = some 5 := by kernel_rfl
set_option maxRecDepth 100000 in
theorem builtSn (a b : Int) : Tryz.prog.built 40 [(0, iv a), (1, iv b)] = some (Sn.cs ⟨a, b, 0, 0, 0⟩).toArray := by kernel_rfl
set_option maxRecDepth 100000 in
theorem bsSn (s : Sn) (W : World) : (Instr.buildSlice 27 1 #[(0, .agg s.cs.toArray)]).run Tryz.prog W = .ok (.slice (some ⟨W.heap.size, 0, none⟩) 1 1) (W.alloc (.cells s.cs.toArray 40)) := by kernel_rfl
theorem sn_one (s : Sn) : ∀ u ∈ s.cs, u.oneCell' = true := by
  intro u hu
  simp only [Sn.cs, List.mem_cons, List.not_mem_nil, or_false] at hu
  rcases hu with rfl | rfl | rfl | rfl | rfl <;> rfl
theorem wpList_bs_run {P : Program} {w : World} {ops : Array Oper} {rest : List Oper} {o : Oper} {a : Act} {Q : Exit → Act → World → Prop} (hgd : o.guard = none) (x : Operand) (t : TypeId)
    (ho : o.op = .buildSlice t 1 #[(0, x)]) (v : Value) (hx : a.eval x = v) {v' : Value} {w' : World}
    (hr : (Instr.buildSlice t 1 #[(0, v)]).run P w = .ok v' w') (h : wpList P ops Q rest (a.put o.dst v') w') : wpList P ops Q (o :: rest) a w :=
  wpList_plain hgd fun _ hK => by
    unfold Oper.wp execOp
    simp only [ho, Sem.run_bind, Sem.run_pure, Result.andThen_ok, List.map_toArray, List.map_cons, List.map_nil, hx, hr]
    exact hK _ _ h
theorem Sep.appSn {w0 W : World} {l : List As} {v : Value} {S : List Sn} (s : Sn) (h : Sep w0 W (rowV 40 5 v S.length (fls S) :: l)) (hn : (S.length + 1) * 40 ≤ 140737488355328) :
    ∃ g k W', (Builtin.append_ #[27, 27] 27 #[v, .slice (some ⟨W.heap.size, 0, none⟩) 1 1]).run Tryz.prog (W.alloc (.cells s.cs.toArray 40)) = .ok (.slice (some ⟨g, 0, none⟩) (S.length + 1) k) W' ∧ Sep w0 W' (rowV 40 5 (.slice (some ⟨g, 0, none⟩) (S.length + 1) k) (S ++ [s]).length (fls (S ++ [s])) :: l) := by
  obtain ⟨i, z, i1, i2, i3, i4⟩ := infoSn
  have hzs : z.cells.size = 5 := by
    have h1 : Tryz.prog.info? 40 = some i := i1
    have h2 : (Tryz.prog.info? 40).bind (·.zero) = some z := by rw [h1]; exact i4
    have h3 : ((Tryz.prog.info? 40).bind (·.zero)).map (fun z => z.cells.size) = some 5 := by kernel_rfl
    rw [h2] at h3
    exact Option.some.inj h3
  obtain ⟨g, k, W', r, S⟩ := Sep.app (t := 27) underSl i1 i4 i2 i3 hzs (by decide) h s.cs rfl (sn_one s) hn (by decide)
  refine ⟨g, k, W', r, ?_⟩
  rw [fls_app, List.length_append, List.length_singleton]
  exact S
/-- one of those seen, as the law makes it fit -/
def ftS (S : List Sn) (j : Nat) : Sn :=
  match S[j]? with
  | none => ⟨1 + (j : Int).tmod 2, j, 0, 0, 0⟩
  | some s => ⟨1 + (j : Int).tmod 2, s.i, s.x, s.y, (IntKind.u64.wrap s.h).tmod 256⟩
def ftL (S : List Sn) (j : Nat) : List Sn := (List.range j).map (ftS S)
theorem ftL_next (S : List Sn) (j : Nat) : ftL S (j + 1) = ftL S j ++ [ftS S j] := by simp [ftL, List.range_succ]
theorem ftL_len (S : List Sn) (j : Nat) : (ftL S j).length = j := by simp [ftL]
def ftV (V : Vw) (p : Int) (n : ByteArray) : Vw := { V with p := p, n := n, S := ftL V.S 32 }
theorem u64_pos (x : Int) : 0 ≤ IntKind.u64.wrap x := by
  have := Int.emod_nonneg x (show (18446744073709551616 : Int) ≠ 0 by decide)
  unfold IntKind.wrap
  simp [IntKind.signed, IntKind.bits]
  try omega
theorem md_in (x : Int) (m : Nat) (hm : 0 < m) : 0 ≤ (IntKind.u64.wrap x).tmod (m : Int) ∧ (IntKind.u64.wrap x).tmod (m : Int) < m := by
  rw [Int.tmod_eq_emod_of_nonneg (u64_pos x)]
  exact ⟨Int.emod_nonneg _ (by omega), Int.emod_lt_of_pos _ (by omega)⟩
theorem r2_in (j : Nat) : 0 ≤ (j : Int).tmod 2 ∧ (j : Int).tmod 2 ≤ 1 := by
  rw [Int.tmod_eq_emod_of_nonneg (by omega)]; omega
theorem ftS_ok {S : List Sn} (h : ∀ s ∈ S, s.ok) {j : Nat} (hj : j < 32) : (ftS S j).ok ∧ fitL tK (ftS S j).lv := by
  have h2 := r2_in j
  unfold ftS
  cases e : S[j]? with
  | none =>
    simp [Sn.ok, tK, tMs, Mk.kd, Sn.lv, okL, okK, fitL, fitK]
    omega
  | some s =>
    have hs := h s (List.mem_of_getElem? e)
    have hm : 0 ≤ (IntKind.u64.wrap s.h).tmod 256 ∧ (IntKind.u64.wrap s.h).tmod 256 < 256 := md_in s.h 256 (by omega)
    simp [Sn.ok, tK, tMs, Mk.kd, Sn.lv, okL, okK] at hs
    simp [Sn.ok, tK, tMs, Mk.kd, Sn.lv, okL, okK, fitL, fitK]
    omega
theorem ftV_ok {V : Vw} {p : Int} {n : ByteArray} (h : V.ok) (hp : 0 ≤ p ∧ p < 32) (hn : n.size ≤ 24) : (ftV V p n).ok ∧ fitV (ftV V p n) := by
  have hl : sl n = sl n := rfl
  have hsl : (sl n).length ≤ 24 := by rw [sl_len]; exact hn
  have hh := h.h
  have hz : (ftL V.S 32).length = 32 := ftL_len _ _
  have hm : ∀ s ∈ ftL V.S 32, s.ok ∧ fitL tK s.lv := fun s hs => by
    obtain ⟨j, hj, rfl⟩ := List.mem_map.1 hs
    exact ftS_ok h.s (List.mem_range.1 hj)
  refine ⟨⟨?_, fun s hs => (hm s hs).1⟩, ⟨?_, fun s hs => (hm s hs).2⟩⟩
  · simp [hK, hMs, Mk.kd, Vw.lv, okL, okK] at hh
    simp [ftV, hK, hMs, Mk.kd, Vw.lv, okL, okK, hz]
    omega
  · simp [ftV, hK, hMs, Mk.kd, Vw.lv, fitL, fitK, hz]
    omega
theorem mk_yes {ses seq : Nat} {V : Vw} {key : ByteArray} (h1 : ses < 18446744073709551616) (h2 : seq < 18446744073709551616) (ho : V.ok) (hf : fitV V) (hs : (encV V).length ≤ 1148) : mkS ses seq V key = (ba (snB ses seq (encV V) ++ Mac.hmac (sl key) (snB ses seq (encV V))), 0) := by
  have h := mk_facts (key := key) h1 h2 ho
  have hc : (mkS ses seq V key).2 = 0 := by
    refine Decidable.byContradiction fun q => ?_
    rcases (h.1 q).2 with ⟨x, _⟩ | ⟨_, _, x⟩
    · rw [wrV_yes ho hf] at x; exact x rfl
    · omega
  exact Prod.ext (h.2 hc).2.2 hc
end Go.Proofs.YtkdjcknikhgfkaaGreatDoor.Pk.Sn
