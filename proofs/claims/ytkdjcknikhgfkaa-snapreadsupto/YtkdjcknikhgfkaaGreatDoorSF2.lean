import Derived.Test.YtkdjcknikhgfkaaGreatDoorST0
/- lists of those seen; boxes -/
namespace Go.Proofs.YtkdjcknikhgfkaaGreatDoor.Pk.Sn
open Go Go.RowKit

set_option maxRecDepth 100000 in
theorem underSn : ∃ d, Tryz.prog.underlying 40 = some d ∧ d.isRow = true := ⟨_, Tryz.underlying40, rfl⟩
set_option maxRecDepth 100000 in
theorem infoSz : (Tryz.prog.info? 40).map (·.size) = some 5 := by kernel_rfl
set_option maxRecDepth 100000 in
theorem builtSn (a b : Int) : Tryz.prog.built 40 [(0, iv a), (1, iv b)] = some (Sn.cs ⟨a, b, 0, 0, 0⟩).toArray := by kernel_rfl
set_option maxRecDepth 100000 in
theorem bsSn (s : Sn) (W : World) : (Instr.buildSlice 27 1 #[(0, .agg s.cs.toArray)]).run Tryz.prog W = .ok (.slice (some ⟨W.heap.size, 0, none⟩) 1 1) (W.alloc (.cells s.cs.toArray 40)) := by kernel_rfl
theorem sn_one (s : Sn) : ∀ u ∈ s.cs, u.oneCell' = true := by
  intro u hu
  simp only [Sn.cs, List.mem_cons, List.not_mem_nil, or_false] at hu
  rcases hu with rfl | rfl | rfl | rfl | rfl <;> rfl
theorem wpList_bs_run {P : Program} {w : World} {ops : Array Oper} {rest : List Oper} {o : Oper} {a : Act} {Q : Exit → Act → World → Prop} (hgd : o.guard = none) (x : Operand) (t : TypeId)
    (ho : o.op = .buildSlice t 1 #[(0, x)]) (v : Value) (hx : a.eval x = v) {v' : Value} {w' : World}
    (hr : (Instr.buildSlice t 1 #[(0, v)]).run P w = .ok v' w') (h : wpList P ops Q rest (a.put o.dst v') w') : wpList P ops Q (o :: rest) a w :=
  wpList_plain hgd fun _ hK => by
    unfold Oper.wp execOp
    simp only [ho, Sem.run_bind, Sem.run_pure, Result.andThen_ok, List.map_toArray, List.map_cons, List.map_nil, hx, hr]
    exact hK _ _ h
theorem Sep.appSn {w0 W : World} {l : List As} {v : Value} {S : List Sn} (s : Sn) (h : Sep w0 W (rowV 40 5 v S.length (fls S) :: l)) (hn : (S.length + 1) * 40 ≤ 140737488355328) :
    ∃ g k W', (Builtin.append_ #[27, 27] 27 #[v, .slice (some ⟨W.heap.size, 0, none⟩) 1 1]).run Tryz.prog (W.alloc (.cells s.cs.toArray 40)) = .ok (.slice (some ⟨g, 0, none⟩) (S.length + 1) k) W' ∧ Sep w0 W' (rowV 40 5 (.slice (some ⟨g, 0, none⟩) (S.length + 1) k) (S ++ [s]).length (fls (S ++ [s])) :: l) := by
  obtain ⟨i, z, i1, i2, i3, i4⟩ := infoSn
  have hzs : z.cells.size = 5 := by
    have h1 : Tryz.prog.info? 40 = some i := i1
    have h2 : (Tryz.prog.info? 40).bind (·.zero) = some z := by rw [h1]; exact i4
    have h3 : ((Tryz.prog.info? 40).bind (·.zero)).map (fun z => z.cells.size) = some 5 := by kernel_rfl
    rw [h2] at h3
    exact Option.some.inj h3
  obtain ⟨g, k, W', r, S⟩ := Sep.app (t := 27) underSl i1 i4 i2 i3 hzs (by decide) h s.cs rfl (sn_one s) hn (by decide)
  refine ⟨g, k, W', r, ?_⟩
  rw [fls_app, List.length_append, List.length_singleton]
  exact S
theorem Sep.addBox {w0 W W' : World} {l : List As} {cs : List Value} {t : TypeId} (h : Sep w0 W l) (h6 : Has W' W.heap.size cs t) (g : W.grownBy W' none) : Sep w0 W' (boxA W.heap.size cs t :: l) :=
  h.new g (Loc.one (a := boxA _ _ _) _ ⟨h6, rfl⟩ (fun i hi => .inr (by rw [hi]; exact Nat.le_refl _)))
theorem Sep.boxAll {w0 W W' : World} {l : List As} {b : Nat} {cs ds : List Value} {t : TypeId} (h : Sep w0 W (boxA b cs t :: l)) (h6 : Has W' b ds t) (g : W.grownBy W' (some b)) : Sep w0 W' (boxA b ds t :: l) := by
  obtain ⟨F, ⟨h1, rfl⟩, _, hu⟩ := h.use
  exact hu _ [_] (Fr.ofSome g rfl) (Loc.one (a := boxA _ _ _) _ ⟨h6, rfl⟩ (fun i hi => .inl hi))
theorem World.rangeAt_of {w : World} {b o : Nat} {cs : List Value} (h : ∀ (i : Nat) (z : Value), cs[i]? = some z → w.cell? ⟨b, o + i, none⟩ = some z) : w.rangeAt b o cs := h
theorem row_seen {w0 W : World} {l : List As} {v : Value} {n : Nat} {S : List Sn} (h : Sep w0 W (rowV 40 5 v n (fls S) :: l)) (hn : 0 < n) : ∃ g c, v = .slice (some ⟨g, 0, none⟩) n c ∧ SnR W g 0 S := by
  obtain ⟨g, c, e, hc⟩ := own_any (h.rowGet mm0) hn
  exact ⟨g, c, e, fun j s hj i z hz => by rw [Nat.zero_add]; exact (hc _ _ (fls_at S j s hj i z hz)).1⟩
end Go.Proofs.YtkdjcknikhgfkaaGreatDoor.Pk.Sn
