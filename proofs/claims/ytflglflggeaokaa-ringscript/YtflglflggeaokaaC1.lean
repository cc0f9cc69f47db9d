/- rows of ints that grow; RingOrder's state. -/
import Derived.Test.YtflglflggeaokaaB2
import Derived.Maps.AppendAt
namespace Go.Proofs.Ytflglflggeaokaa
open Go Go.RowKit

/-- a row of ints of the call's own -/
abbrev Row (w0 w : World) (v : Value) (xs : List Int) : Prop := w.ownsRow w0.heap.size 3 1 v xs.length (xs.map iv)
theorem row_fr {S : Nat → Prop} {w0 w w' : World} {v : Value} {xs : List Int} (h : Row w0 w v xs) (f : Fr S w w') (hs : ∀ k, v.ownBlock = some k → ¬ S k) : Row w0 w' v xs := by
  have hl := h.lt
  obtain ⟨h1, h2⟩ := h
  refine ⟨h1, ?_⟩
  rcases h2 with h2 | ⟨g, cap, cur, rfl, a, b, c⟩
  · exact .inl h2
  · exact .inr ⟨g, cap, cur, rfl, a, by rw [f.block g (hl g rfl).2 (hs g rfl), b], c⟩
theorem row_shape {w0 w : World} {v : Value} {xs : List Int} (h : Row w0 w v xs) : ∃ a c, v = .slice a xs.length c ∧ Ints w a xs.length xs := by
  obtain ⟨h1, h2⟩ := h
  rcases h2 with ⟨rfl, h0⟩ | ⟨g, cap, cur, rfl, hb, hheap, h1, h2, h3, h4⟩
  · exact ⟨none, 0, by rw [h0], rfl, fun h => by omega⟩
  · refine ⟨_, cap, rfl, rfl, fun _ => ⟨g, 0, rfl, fun j x hx => ?_⟩⟩
    have hj : j < xs.length := (List.getElem?_eq_some_iff.1 hx).1
    have e : (xs.map iv)[j]? = some (iv x) := by rw [List.getElem?_map, hx]; rfl
    rw [← h4, List.getElem?_take, if_pos (by omega)] at e
    simp only [World.cell?, hheap, Nat.zero_add]
    simpa using e
/-- append of a row's ints to a row of the call's own -/
theorem app22 {w0 w : World} {v : Value} {xs : List Int} (h : Row w0 w v xs) (b k c : Nat) (ys : List Int) (hy : ys.length = k) (hb : ∀ j x, ys[j]? = some x → w.cell? ⟨b, j, none⟩ = some (iv x)) (hsz : xs.length + k ≤ 17592186044416) (hw : w0.heap.size ≤ w.heap.size) :
    ∃ a' c' w', (Builtin.append_ #[22, 22] 22 #[v, .slice (some ⟨b, 0, none⟩) k c]).run Try.prog w = .ok (.slice a' (xs.length + k) c') w' ∧ Row w0 w' (.slice a' (xs.length + k) c') (xs ++ ys) ∧ w.grownBy w' v.ownBlock ∧ ((Value.slice a' (xs.length + k) c').ownBlock = v.ownBlock ∨ (Value.slice a' (xs.length + k) c').ownBlock = some w.heap.size) := by
  obtain ⟨i, h1, h2, h3, h4⟩ := info3
  obtain ⟨v', w', r1, r2, r3, _, r5⟩ := run_append_own_at (P := Try.prog) w w0.heap.size 22 22 3 i (.int .i64 0) 1 8 under22 h1 h4 h2 h3 rfl (by decide) v xs.length _ h ⟨b, 0, none⟩ k c (ys.map iv) (by rw [List.length_map, hy, Nat.mul_one]) (fun j u hu => by
      rw [Addr.add_mid, Nat.zero_add]
      rw [List.getElem?_map] at hu
      cases hx : ys[j]? with
      | none => rw [hx] at hu; cases hu
      | some x => rw [hx] at hu; obtain rfl := Option.some.inj hu; exact hb j x hx) (fun u hu => by obtain ⟨x, _, rfl⟩ := List.mem_map.1 hu; rfl) (by unfold maxLen; omega) (by omega) hw
  have e : xs.map iv ++ ys.map iv = (xs ++ ys).map iv := by simp
  have el : (xs ++ ys).length = xs.length + k := by rw [List.length_append, hy]
  rw [e] at r2
  have r2' : Row w0 w' v' (xs ++ ys) := by unfold Row; rw [el]; exact r2
  obtain ⟨a', c', rfl, _⟩ := row_shape r2'
  rw [el] at r2' r1 r5
  exact ⟨a', c', w', r1, r2', r3, r5⟩

/-- where RingOrder stands -/
structure Ord (w0 w : World) (rb : Nat) (v : Value) (sz : Nat) (vi vo : Value) (I O Q : List Int) (next : Int) : Prop where
  r : RingAt w rb v sz Q
  i : Row w0 w vi I
  o : Row w0 w vo O
  io : ∀ k, vi.ownBlock = some k → vo.ownBlock ≠ some k
  ri : ∀ k, RF rb v k → vi.ownBlock ≠ some k
  ro : ∀ k, RF rb v k → vo.ownBlock ≠ some k
  lo : ∀ k, RF rb v k → w0.heap.size ≤ k
  g : w0.grownBy w none
  eq : I = O ++ Q
  nx : ∀ x ∈ I, x ≤ next

theorem Ord.grown {w0 w w' : World} {rb : Nat} {v : Value} {sz : Nat} {vi vo : Value} {I O Q : List Int} {next : Int} (h : Ord w0 w rb v sz vi vo I O Q next) (hg : w.grownBy w' none) : Ord w0 w' rb v sz vi vo I O Q next :=
  ⟨h.r.kept hg, row_fr h.i (Fr.ofNone (S := fun _ => False) hg) (fun _ _ e => e), row_fr h.o (Fr.ofNone (S := fun _ => False) hg) (fun _ _ e => e), h.io, h.ri, h.ro, h.lo, h.g.trans hg, h.eq, h.nx⟩
theorem Ord.up {w0 w : World} {rb : Nat} {v : Value} {sz : Nat} {vi vo : Value} {I O Q : List Int} {next n2 : Int} (h : Ord w0 w rb v sz vi vo I O Q next) (hn : next ≤ n2) : Ord w0 w rb v sz vi vo I O Q n2 :=
  ⟨h.r, h.i, h.o, h.io, h.ri, h.ro, h.lo, h.g, h.eq, fun x hx => Int.le_trans (h.nx x hx) hn⟩
/-- the ring turned, and new blocks came: the rows stand -/
theorem Ord.ring {w0 w w' : World} {rb : Nat} {v v' : Value} {sz : Nat} {vi vo : Value} {I O Q : List Int} {next : Int} (h : Ord w0 w rb v sz vi vo I O Q next) (f : Fr (RF rb v) w w') (hv : ∀ k, v'.ownBlock = some k → v.ownBlock = some k ∨ w.heap.size ≤ k) :
    Row w0 w' vi I ∧ Row w0 w' vo O ∧ (∀ k, RF rb v' k → vi.ownBlock ≠ some k) ∧ (∀ k, RF rb v' k → vo.ownBlock ≠ some k) ∧ (∀ k, RF rb v' k → w0.heap.size ≤ k) ∧ w0.grownBy w' none := by
  have hs := h.g.size
  have key : ∀ k, RF rb v' k → RF rb v k ∨ w.heap.size ≤ k := fun k hk => by
    rcases hk with e | e
    · exact .inl (.inl e)
    · rcases hv k e with q | q
      · exact .inl (.inr q)
      · exact .inr q
  refine ⟨row_fr h.i f (fun k e s => h.ri k s e), row_fr h.o f (fun k e s => h.ro k s e), fun k hk e => ?_, fun k hk e => ?_, fun k hk => ?_, fr_mine h.g f h.lo⟩
  · rcases key k hk with q | q
    · exact h.ri k q e
    · have := (h.i.lt k e).2; omega
  · rcases key k hk with q | q
    · exact h.ro k q e
    · have := (h.o.lt k e).2; omega
  · rcases key k hk with q | q
    · exact h.lo k q
    · omega
theorem row_one (w : World) (x : Int) : ∀ j y, [x][j]? = some y → (w.alloc (.cells #[.int .i64 x] 3)).cell? ⟨w.heap.size, j, none⟩ = some (iv y) := fun j y hy => by
  refine (Has.newA w #[.int .i64 x] 3).cellv j _ ?_
  match j, hy with
  | 0, hy => cases hy; rfl
  | j + 1, hy => simp at hy
/-- a number was pushed: it is laid into in -/
theorem Ord.pushed {w0 w w2 : World} {rb : Nat} {v v2 : Value} {sz : Nat} {vi vo : Value} {I O Q : List Int} {next x : Int} (h : Ord w0 w rb v sz vi vo I O Q next) (p : Pushed w w2 rb v v2 sz (Q ++ [x])) (hx : next ≤ x) (hI : I.length ≤ 1000000000) :
    ∃ a' c' w3, (Builtin.append_ #[22, 22] 22 #[vi, .slice (some ⟨w2.heap.size, 0, none⟩) 1 1]).run Try.prog (w2.alloc (.cells #[.int .i64 x] 3)) = .ok (.slice a' (I.length + 1) c') w3 ∧ Ord w0 w3 rb v2 sz (.slice a' (I.length + 1) c') vo (I ++ [x]) O (Q ++ [x]) x ∧ (∃ B, a' = some ⟨B, 0, none⟩ ∧ w3.cell? ⟨B, I.length, none⟩ = some (.int .i64 x)) := by
  obtain ⟨q1, q2, q3, q4, q5, q6⟩ := h.ring p.f p.n
  have ga := World.grownBy_alloc w2 (.cells #[.int .i64 x] 3) none
  have hw : w0.heap.size ≤ w2.heap.size := q6.size
  obtain ⟨a', c', w3, r1, r2, r3, r5⟩ := app22 (row_fr q1 (Fr.ofNone (S := fun _ => False) ga) (fun _ _ e => e)) w2.heap.size 1 1 [x] rfl (row_one w2 x) (by omega) (by rw [World.size_alloc]; omega)
  rw [World.size_alloc] at r5
  have hlt := p.r.lt
  have hfr : Fr (fun k => vi.ownBlock = some k) w2 w3 := (Fr.ofNone ga).then (Fr.of r3) (fun i e => .inl e)
  refine ⟨a', c', w3, r1, ⟨p.r.fr hfr (fun i hi e => q3 i hi e), r2, row_fr q2 hfr (fun k e s => h.io k s e), fun k e1 e2 => ?_, fun k hk e => ?_, q4, q5, ?_, by rw [h.eq, List.append_assoc], fun y hy => ?_⟩, ?_⟩
  · rcases r5 with e | e
    · rw [e] at e1; exact h.io k e1 e2
    · rw [e] at e1; cases e1; have := (q2.lt _ e2).2; omega
  · rcases r5 with e5 | e5
    · rw [e5] at e; exact q3 k hk e
    · rw [e5] at e; cases e; have := hlt _ hk; omega
  · exact fr_mine q6 hfr (fun k e => (q1.lt k e).1)
  · rcases List.mem_append.1 hy with hy | hy
    · exact Int.le_trans (h.nx y hy) hx
    · simp at hy; omega
  · have hsh := row_shape r2
    obtain ⟨a2, c2, e2, hin⟩ := hsh
    injection e2 with e2a e2b e2c
    subst e2a
    obtain ⟨B, o, e3, hc⟩ := hin.at_ (by simp)
    -- an own row begins at its block's first cell
    obtain ⟨_, hh⟩ := r2
    rcases hh with ⟨hh, _⟩ | ⟨gB, cap, cur, hv, _⟩
    · injection hh with u1 u2 u3; omega
    · injection hv with u1 u2 u3
      rw [u1] at e3
      cases e3
      exact ⟨_, u1, by have := hc I.length x (by simp); rwa [Nat.zero_add] at this⟩
/-- out takes what lies in a row: the ring has lost it -/
theorem Ord.outs {w0 w w2 w2a : World} {rb : Nat} {v : Value} {sz : Nat} {vi vo : Value} {I O Q Y Q2 : List Int} {next : Int} (h : Ord w0 w rb v sz vi vo I O Q next) (r : RingAt w2 rb v sz Q2) (f : Fr (RF rb v) w w2) (ga : w2.grownBy w2a none) (hQ : Q = Y ++ Q2) (b k c : Nat) (hy : Y.length = k) (hb : ∀ j x, Y[j]? = some x → w2a.cell? ⟨b, j, none⟩ = some (iv x)) (hO : O.length + k ≤ 17592186044416) :
    ∃ a' c' w3, (Builtin.append_ #[22, 22] 22 #[vo, .slice (some ⟨b, 0, none⟩) k c]).run Try.prog w2a = .ok (.slice a' (O.length + k) c') w3 ∧ Ord w0 w3 rb v sz vi (.slice a' (O.length + k) c') I (O ++ Y) Q2 next := by
  obtain ⟨q1, q2, q3, q4, q5, q6⟩ := h.ring f (fun _ e => .inl e)
  have hw : w0.heap.size ≤ w2a.heap.size := Nat.le_trans q6.size ga.size
  obtain ⟨a', c', w3, r1, r2, r3, r5⟩ := app22 (row_fr q2 (Fr.ofNone (S := fun _ => False) ga) (fun _ _ e => e)) b k c Y hy hb hO hw
  have hlt := r.lt
  have hsz := ga.size
  have hfr : Fr (fun k => vo.ownBlock = some k) w2 w3 := (Fr.ofNone ga).then (Fr.of r3) (fun i e => .inl e)
  refine ⟨a', c', w3, r1, ⟨r.fr hfr (fun i hi e => q4 i hi e), row_fr q1 hfr (fun k e s => h.io k e s), r2, fun k e1 e2 => ?_, q3, fun k hk e => ?_, q5, ?_, by rw [h.eq, hQ, List.append_assoc], h.nx⟩⟩
  · rcases r5 with e | e
    · rw [e] at e2; exact h.io k e1 e2
    · rw [e] at e2; cases e2; have := (q1.lt _ e1).2; omega
  · rcases r5 with e5 | e5
    · rw [e5] at e; exact q4 k hk e
    · rw [e5] at e; cases e; have := hlt _ hk; omega
  · exact fr_mine q6 hfr (fun k e => (q2.lt k e).1)
theorem Ord.took {w0 w w2 : World} {rb : Nat} {v : Value} {sz : Nat} {vi vo : Value} {I O Q : List Int} {next : Int} {k : Nat} (h : Ord w0 w rb v sz vi vo I O Q next) (t : Taken w w2 rb v sz Q k) (hO : O.length + k ≤ 17592186044416) :
    ∃ a' c' w3, (Builtin.append_ #[22, 22] 22 #[vo, .slice (some ⟨w.heap.size, 0, none⟩) k k]).run Try.prog w2 = .ok (.slice a' (O.length + k) c') w3 ∧ Ord w0 w3 rb v sz vi (.slice a' (O.length + k) c') I (O ++ Q.take k) (Q.drop k) next :=
  h.outs t.r t.f (World.grownBy.refl _ _) (List.take_append_drop k Q).symm w.heap.size k k (by rw [List.length_take]; exact Nat.min_eq_left t.le) (fun j x hx => t.h.cellv j _ (by rw [List.getElem?_map, hx]; rfl)) hO
theorem Ord.popped {w0 w w2 : World} {rb : Nat} {v : Value} {sz : Nat} {vi vo : Value} {I O Q : List Int} {x next : Int} (h : Ord w0 w rb v sz vi vo I O (x :: Q) next) (r : RingAt w2 rb v sz Q) (f : Fr (RF rb v) w w2) (hO : O.length + 1 ≤ 17592186044416) :
    ∃ a' c' w3, (Builtin.append_ #[22, 22] 22 #[vo, .slice (some ⟨w2.heap.size, 0, none⟩) 1 1]).run Try.prog (w2.alloc (.cells #[.int .i64 x] 3)) = .ok (.slice a' (O.length + 1) c') w3 ∧ Ord w0 w3 rb v sz vi (.slice a' (O.length + 1) c') I (O ++ [x]) Q next :=
  h.outs r f (World.grownBy_alloc w2 (.cells #[.int .i64 x] 3) none) (Y := [x]) rfl w2.heap.size 1 1 rfl (row_one w2 x) hO
/-- the last one of in lies in its cell -/
theorem Ord.last {w0 w : World} {rb : Nat} {v : Value} {sz : Nat} {ai : Option Addr} {ni ci : Nat} {vo : Value} {I O Q : List Int} {next : Int} (h : Ord w0 w rb v sz (.slice ai ni ci) vo I O Q next) (hI : 0 < I.length) :
    ni = I.length ∧ ∃ B y, ai = some ⟨B, 0, none⟩ ∧ w.cell? ⟨B, I.length - 1, none⟩ = some (.int .i64 y) ∧ y ≤ next := by
  obtain ⟨y, hy⟩ : ∃ y, I[I.length - 1]? = some y := ⟨_, List.getElem?_eq_getElem (by omega)⟩
  obtain ⟨h1, h2⟩ := h.i
  rcases h2 with ⟨e, h0⟩ | ⟨g, cap, cur, e, hb, hheap, h1, h2, h3, h4⟩
  · omega
  · injection e with e1 e2 e3
    refine ⟨e2, g, y, e1, ?_, h.nx y (List.mem_of_getElem? hy)⟩
    have e : (I.map iv)[I.length - 1]? = some (iv y) := by rw [List.getElem?_map, hy]; rfl
    rw [← h4, List.getElem?_take, if_pos (by omega)] at e
    simp only [World.cell?, hheap]
    simpa using e
theorem wpList_append_run {P : Program} (w : World) {ops : Array Oper} {rest : List Oper} {o : Oper} {a : Act} {Q : Exit → Act → World → Prop} (hgd : o.guard = none) (s x : Operand) (t : TypeId)
    (ho : o.op = .call { callee := .builtin .append, args := #[s, x], argTypes := #[t, t] }) (v u : Value) (hs : a.eval s = v) (hx : a.eval x = u) {v' : Value} {w' : World}
    (hr : (Builtin.append_ #[t, t] o.type #[v, u]).run P w = .ok v' w') (h : wpList P ops Q rest (a.put o.dst v') w') : wpList P ops Q (o :: rest) a w :=
  wpList_plain hgd fun _ hK => by
    unfold Oper.wp execOp
    simp only [ho, resolve, invoke, builtin, Sem.run_bind, Sem.run_pure, Result.andThen_ok, List.map_toArray, List.map_cons, List.map_nil, hs, hx, hr]
    exact hK _ _ h
end Go.Proofs.Ytflglflggeaokaa
