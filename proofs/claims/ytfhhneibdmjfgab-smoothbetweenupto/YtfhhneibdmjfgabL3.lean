/- rows of floats of the call's own -/
import Derived.Test.YtfhhneibdmjfgabQ9
namespace Go.Proofs.Ytfhhneibdmjfgab
open Go Go.RowKit Ieee Fx
namespace Sm
set_option maxRecDepth 100000
attribute [local go_sem] run_store_fl
theorem infoFl : ∃ i, Try.prog.info? 30 = some i ∧ i.size = 1 ∧ i.bytes = 4 ∧ i.zero = some (fv 0) := by
  have h : (Try.prog.info? 30).map (fun i => (i.size, i.bytes, i.zero)) = some (1, 4, some (fv 0)) := by kernel_rfl
  cases e : Try.prog.info? 30 with
  | none => rw [e] at h; cases h
  | some i =>
    rw [e] at h
    simp only [Option.map_some, Option.some.injEq, Prod.mk.injEq] at h
    exact ⟨i, rfl, h.1, h.2.1, h.2.2⟩
theorem fls_one (L : List Nat) : ∀ u ∈ L.map fv, u.oneCell' = true := by
  intro u hu
  obtain ⟨x, _, rfl⟩ := List.mem_map.1 hu
  rfl
theorem fls_get {L : List Nat} {j x : Nat} (h : L[j]? = some x) : (L.map fv)[j]? = some (fv x) := by rw [List.getElem?_map, h]; rfl
/-- many things more, out of any list -/
theorem Sep.appF {w0 W : World} {l : List As} {t e : TypeId} {i : TypeInfo} {z : Value} {s bytes : Nat} (ht : Try.prog.underlying t = some (.slice e)) (hi : Try.prog.info? e = some i) (hz : i.zero = some z) (hs : i.size = s) (hby : i.bytes = bytes) (hzs : z.cells.size = s) (hs0 : 0 < s)
    {v : Value} {n : Nat} {xs : List Value} (h : Sep w0 W (rowV e s v n xs :: l)) (a : Addr) (m c : Nat) (cs : List Value) (hcs : cs.length = m * s) (hc : ∀ (j : Nat) u, cs[j]? = some u → W.cell? (a.add j) = some u) (h1 : ∀ u ∈ cs, u.oneCell' = true) (hsz : (n + m) * bytes ≤ 140737488355328) (hb0 : 0 < bytes := by decide) :
    ∃ v' W', (Builtin.append_ #[t, t] t #[v, .slice (some a) m c]).run Try.prog W = .ok v' W' ∧ Sep w0 W' (rowV e s v' (n + m) (xs ++ cs) :: l) := by
  obtain ⟨F, ⟨ho, rfl⟩, _, hu⟩ := h.use
  have hle : n + m ≤ 140737488355328 := Nat.le_trans (Nat.le_mul_of_pos_right _ hb0) hsz
  obtain ⟨v', w', r1, r2, r3, _, r5⟩ := run_append_own_at (P := Try.prog) W 0 t t e i z s bytes ht hi hz hs hby hzs hs0 v n xs ho a m c cs hcs hc h1 (by unfold maxLen; omega) hsz (Nat.zero_le _)
  refine ⟨v', w', r1, hu w' [_] ((Fr.of r3).mono (fun i hi => .inl hi)) (Loc.one (a := rowV _ _ _ _ _) _ ⟨r2, rfl⟩ (fun i hi => ?_))⟩
  rcases r5 with q | q
  · exact .inl (by rw [← q]; exact hi)
  · rw [q] at hi
    injection hi with e
    exact .inr (by omega)
theorem app_nilF (c : Nat) (W : World) : (Builtin.append_ #[58, 58] 58 #[.slice none 0 0, .slice none 0 c]).run Try.prog W = .ok (.slice none 0 0) W := by
  obtain ⟨i, i1, _⟩ := infoFl
  have ht : Try.prog.underlying 58 = some (.slice 30) := Try.underlying58
  simp [Builtin.append_, run_underlying ht, sizeOf, typeInfo, i1, Builtin.lenOf, Builtin.firstCells]
/-- a list's copy -/
theorem Sep.copyF {w0 W : World} {l : List As} {va : Value} {L : List Nat} (h : Sep w0 W l) (hA : RdF W va L) (hn : L.length * 4 ≤ 140737488355328) :
    ∃ v' W', (Builtin.append_ #[58, 58] 58 #[.slice none 0 0, va]).run Try.prog W = .ok v' W' ∧ Sep w0 W' (rowV 30 1 v' L.length (L.map fv) :: l) := by
  obtain ⟨a, cap, rfl, hv⟩ := hA.o
  cases a with
  | none =>
    have h0 : L = [] := by
      cases L with
      | nil => rfl
      | cons x r => obtain ⟨g, o, e, _⟩ := hv (by simp); cases e
    subst h0
    exact ⟨_, W, app_nilF cap W, h.nilV 30 1⟩
  | some p =>
    obtain ⟨i, i1, i2, i3, i4⟩ := infoFl
    obtain ⟨v', W', r1, S2⟩ := Sep.appF (t := 58) Try.underlying58 i1 i4 i2 i3 rfl (by decide) (h.nilV 30 1) p L.length cap (L.map fv) (by simp) (fun j u hu => by
      obtain ⟨x, hx, rfl⟩ : ∃ x, L[j]? = some x ∧ u = fv x := by
        rw [List.getElem?_map] at hu
        cases hx : L[j]? with
        | none => rw [hx] at hu; cases hu
        | some x => rw [hx] at hu; exact ⟨x, rfl, (Option.some.inj hu).symm⟩
      obtain ⟨g, o, e, q⟩ := hv (by have := (List.getElem?_eq_some_iff.1 hx).1; omega)
      injection e with e
      subst e
      rw [Addr.add_mid]
      exact q j x hx) (fls_one L) (by omega)
    refine ⟨v', W', r1, ?_⟩
    rw [Nat.zero_add, List.nil_append] at S2
    exact S2
theorem row_cap {W : World} {e : TypeId} {s g n c : Nat} {xs : List Value} (h : W.ownsRow 0 e s (.slice (some ⟨g, 0, none⟩) n c) n xs) : n ≤ c := by
  rcases h.2 with ⟨q, _⟩ | ⟨g', cap, cur, q, _, _, h3, _⟩
  · cases q
  · injection q with _ _ e3
    omega
/-- the first n of a row -/
theorem rdF_row {W : World} {g n k c c' : Nat} {M : List Nat} (h : W.ownsRow 0 30 1 (.slice (some ⟨g, 0, none⟩) k c) k (M.map fv)) (hk : 0 < k) (hn : n ≤ M.length) : RdF W (.slice (some ⟨g, 0, none⟩) n c') (M.take n) := by
  obtain ⟨g', c2, e, q⟩ := own_any h hk
  injection e with e1 _ _
  injection e1 with e1
  injection e1 with e1 _ _
  subst e1
  refine ⟨⟨_, c', by rw [List.length_take, Nat.min_eq_left hn], fun _ => ⟨_, 0, rfl, fun j x hx => ?_⟩⟩⟩
  rw [Nat.zero_add]
  rw [List.getElem?_take] at hx
  split at hx
  · exact (q j _ (fls_get hx)).1
  · cases hx
theorem bs2 (W : World) : (Instr.buildSlice 58 2 #[(0, fv 1117388800), (1, fv 1117519872)]).run Try.prog W = .ok (.slice (some ⟨W.heap.size, 0, none⟩) 2 2) (W.alloc (.cells #[fv 1117388800, fv 1117519872] 30)) := by kernel_rfl
theorem rdF_nil (W : World) : RdF W (.slice none 0 0) [] := ⟨⟨none, 0, rfl, fun h => by simp at h⟩⟩
theorem wpList_bs2 {P : Program} {w : World} {ops : Array Oper} {rest : List Oper} {o : Oper} {a : Act} {Q : Exit → Act → World → Prop} (hgd : o.guard = none)
    (ho : o.op = .buildSlice 58 2 #[(0, .const (fv 1117388800)), (1, .const (fv 1117519872))]) {v' : Value} {w' : World}
    (hr : (Instr.buildSlice 58 2 #[(0, fv 1117388800), (1, fv 1117519872)]).run P w = .ok v' w') (h : wpList P ops Q rest (a.put o.dst v') w') : wpList P ops Q (o :: rest) a w :=
  wpList_plain hgd fun _ hK => by
    unfold Oper.wp
    simp only [execOp, ho, Sem.run_bind, Sem.run_pure, Result.andThen_ok, List.map_toArray, List.map_cons, List.map_nil, Act.eval, hr]
    exact hK _ _ h
theorem isV_sum (L : List Nat) (w : World) : IsV (sumV L) := by
  unfold sumV
  suffices h : ∀ s, IsV s → IsV (L.foldl (fun s x => oadd s (V x)) s) from h _ .c0
  induction L with
  | nil => exact fun s h => h
  | cons x r ih => exact fun s h => ih _ (h.add (.of x) w)
theorem IsV.quo {x y : OF} (hx : IsV x) (hy : IsV y) (w : World) : IsV (oquo x y) := by
  obtain ⟨a, rfl⟩ := hx; obtain ⟨b, rfl⟩ := hy
  obtain ⟨r, q, _, H⟩ := quo_run (P := Try.prog) 30 a b w
  exact ⟨r, H⟩
theorem isV_mean (L : List Nat) (w : World) : IsV (meanV L) := by
  unfold meanV
  split
  · exact .c0
  · exact (isV_sum L w).quo (.of _) w
end Sm
end Go.Proofs.Ytfhhneibdmjfgab
