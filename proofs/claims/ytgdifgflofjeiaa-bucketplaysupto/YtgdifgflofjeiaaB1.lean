/- rows of the call's own that grow by one. -/
import Derived.Test.YtgdifgflofjeiaaL2
import Derived.Maps.AppendAt
namespace Go.Proofs.Ytgdifgflofjeiaa
open Go Go.RowKit

theorem own_fr {S : Nat → Prop} {b : Nat} {w w' : World} {e : TypeId} {s : Nat} {v : Value} {n : Nat} {xs : List Value} (h : w.ownsRow b e s v n xs) (f : Fr S w w') (hs : ∀ k, v.ownBlock = some k → ¬ S k) : w'.ownsRow b e s v n xs := by
  have hl := h.lt
  obtain ⟨h1, h2⟩ := h
  refine ⟨h1, ?_⟩
  rcases h2 with h2 | ⟨g, cap, cur, rfl, a, b, c⟩
  · exact .inl h2
  · exact .inr ⟨g, cap, cur, rfl, a, by rw [f.block g (hl g rfl).2 (hs g rfl), b], c⟩
/-- cells of a row of the call's own -/
theorem own_cell {lo : Nat} {W : World} {e : TypeId} {s : Nat} {v : Value} {n : Nat} {xs : List Value} (h : W.ownsRow lo e s v n xs) (hn : 0 < n) : ∃ g c, v = .slice (some ⟨g, 0, none⟩) n c ∧ ∀ (k : Nat) t, xs[k]? = some t → W.cell? ⟨g, k, none⟩ = some t ∧ W.frozen? ⟨g, k, none⟩ = false := by
  obtain ⟨h1, h2⟩ := h
  rcases h2 with ⟨_, h0⟩ | ⟨g, cap, cur, rfl, hb, hheap, h3, h4, h5, h6⟩
  · omega
  · refine ⟨g, cap, rfl, fun k t ht => ?_⟩
    have hk : k < xs.length := (List.getElem?_eq_some_iff.1 ht).1
    rw [← h6, List.getElem?_take, if_pos (by omega)] at ht
    constructor
    · simp only [World.cell?, hheap]
      simpa using ht
    · simp [World.frozen?, hheap]
/-- one thing more -/
theorem own_app {w0 w : World} {t e : TypeId} {i : TypeInfo} {z : Value} {s bytes : Nat} (ht : Try.prog.underlying t = some (.slice e)) (hi : Try.prog.info? e = some i) (hz : i.zero = some z) (hs : i.size = s) (hby : i.bytes = bytes) (hzs : z.cells.size = s) (hs0 : 0 < s)
    {v : Value} {n : Nat} {xs : List Value} (h : w.ownsRow w0.heap.size e s v n xs) (cs : List Value) (hcs : cs.length = s) (h1 : ∀ u ∈ cs, u.oneCell' = true) (hsz : (n + 1) * bytes ≤ 140737488355328) (hb0 : 0 < bytes) (hw : w0.heap.size ≤ w.heap.size) :
    ∃ g c w3, (Builtin.append_ #[t, t] t #[v, .slice (some ⟨w.heap.size, 0, none⟩) 1 1]).run Try.prog (w.alloc (.cells cs.toArray e)) = .ok (.slice (some ⟨g, 0, none⟩) (n + 1) c) w3 ∧ w3.ownsRow w0.heap.size e s (.slice (some ⟨g, 0, none⟩) (n + 1) c) (n + 1) (xs ++ cs) ∧ w.grownBy w3 v.ownBlock ∧ (v.ownBlock = some g ∨ w.heap.size ≤ g) := by
  have ga := World.grownBy_alloc w (.cells cs.toArray e) none
  have ga2 := World.grownBy_alloc w (.cells cs.toArray e) v.ownBlock
  have hn := Has.new w cs e
  have hle : n + 1 ≤ 140737488355328 := Nat.le_trans (Nat.le_mul_of_pos_right _ hb0) hsz
  obtain ⟨v', w', r1, r2, r3, _, r5⟩ := run_append_own_at (P := Try.prog) (w.alloc (.cells cs.toArray e)) w0.heap.size t t e i z s bytes ht hi hz hs hby hzs hs0 v n xs (own_fr h (Fr.ofNone (S := fun _ => False) ga) (fun _ _ e => e)) ⟨w.heap.size, 0, none⟩ 1 1 cs (by omega) (fun j u hu => by
      rw [Addr.add_mid, Nat.zero_add]; exact hn.cellv j u hu) h1 (by unfold maxLen; omega) hsz (by rw [World.size_alloc]; omega)
  obtain ⟨g, c, e1, _⟩ := own_cell r2 (by omega)
  subst e1
  refine ⟨g, c, w', r1, r2, ga2.trans r3, ?_⟩
  rw [World.size_alloc] at r5
  rcases r5 with q | q
  · exact .inl q.symm
  · have : g = w.heap.size + 1 := by simpa [Value.ownBlock] using q
    exact .inr (by omega)
theorem info3 : ∃ i, Try.prog.info? 3 = some i ∧ i.size = 1 ∧ i.bytes = 8 ∧ i.zero = some (.int .i64 0) := by
  have h : (Try.prog.info? 3).map (fun i => (i.size, i.bytes, i.zero)) = some (1, 8, some (.int .i64 0)) := by kernel_rfl
  cases hq : Try.prog.info? 3 with
  | none => simp [hq] at h
  | some i =>
    simp [hq] at h
    exact ⟨i, rfl, h.1, h.2.1, h.2.2⟩
theorem under27 : Try.prog.underlying 27 = some (.slice 3) := by kernel_rfl
theorem wpList_append_run {P : Program} (w : World) {ops : Array Oper} {rest : List Oper} {o : Oper} {a : Act} {Q : Exit → Act → World → Prop} (hgd : o.guard = none) (s x : Operand) (t : TypeId)
    (ho : o.op = .call { callee := .builtin .append, args := #[s, x], argTypes := #[t, t] }) (v u : Value) (hs : a.eval s = v) (hx : a.eval x = u) {v' : Value} {w' : World}
    (hr : (Builtin.append_ #[t, t] o.type #[v, u]).run P w = .ok v' w') (h : wpList P ops Q rest (a.put o.dst v') w') : wpList P ops Q (o :: rest) a w :=
  wpList_plain hgd fun _ hK => by
    unfold Oper.wp execOp
    simp only [ho, resolve, invoke, builtin, Sem.run_bind, Sem.run_pure, Result.andThen_ok, List.map_toArray, List.map_cons, List.map_nil, hs, hx, hr]
    exact hK _ _ h
end Go.Proofs.Ytgdifgflofjeiaa
