/- more of things that lie apart. -/
import Derived.Test.YtfhhneibdmjfgaaS1
import Derived.Deep.RegionHeld
import Derived.Maps.AppendAt
namespace Go.Proofs.Ytfhhneibdmjfgaa
open Go Go.RowKit

set_option maxRecDepth 100000 in
theorem heap1 (w : World) (o : Obj) : (w.alloc o).heap.size = w.heap.size + 1 := by simp
set_option maxRecDepth 100000 in
theorem fr_set (w : World) (S : Nat → Prop) (b j : Nat) (v : Value) (h : S b) : Fr S w (w.setCell ⟨b, j, none⟩ v) := Fr.ofSome (gr_set w b j v) h
set_option maxRecDepth 100000 in
theorem Sep.boxNe {w0 W : World} {l : List As} {b c : Nat} {cs ds : List Value} {t u : TypeId} (h : Sep w0 W (boxA b cs t :: l)) (hm : boxA c ds u ∈ l) : b ≠ c := by
  obtain ⟨m, hm1, hp, hd⟩ := h.ex
  cases m with
  | nil => cases hm1
  | cons o m =>
    simp only [List.map_cons, List.cons.injEq] at hm1
    obtain ⟨e1, rfl⟩ := hm1
    obtain ⟨q, hq, e2⟩ := List.mem_map.1 hm
    have h1 := (hp o (List.mem_cons_self ..)).1
    have h2 := (hp q (List.mem_cons_of_mem _ hq)).1
    rw [e1] at h1
    rw [e2] at h2
    have h3 := (List.pairwise_cons.1 hd).1 q hq b
    rw [h1.2, h2.2] at h3
    exact fun e => h3 rfl e
set_option maxRecDepth 100000 in
theorem Sep.boxGet {w0 W : World} {l : List As} {b : Nat} {cs : List Value} {t : TypeId} (h : Sep w0 W l) (hm : boxA b cs t ∈ l) : Has W b cs t := by
  obtain ⟨F, q, _⟩ := h.get hm
  exact q
set_option maxRecDepth 100000 in
theorem Sep.boxSet {w0 W : World} {l : List As} {b : Nat} {v : Value} {t : TypeId} (h : Sep w0 W (boxA b [v] t :: l)) (x : Value) : Sep w0 (W.setCell ⟨b, 0, none⟩ x) (boxA b [x] t :: l) := by
  obtain ⟨F, ⟨h1, rfl⟩, _, hu⟩ := h.use
  exact hu _ [_] (fr_set _ _ _ _ _ rfl) (Loc.one (a := boxA _ _ _) _ ⟨h1.setCell 0 x, rfl⟩ (fun i hi => .inl hi))
set_option maxRecDepth 100000 in
theorem k0m {a : As} {l : List As} : a ∈ a :: l := List.mem_cons_self ..
set_option maxRecDepth 100000 in
theorem k1m {a b : As} {l : List As} : a ∈ b :: a :: l := List.mem_cons_of_mem _ k0m
set_option maxRecDepth 100000 in
theorem k2m {a b c : As} {l : List As} : a ∈ b :: c :: a :: l := List.mem_cons_of_mem _ k1m
set_option maxRecDepth 100000 in
theorem k3m {a b c d : As} {l : List As} : a ∈ b :: c :: d :: a :: l := List.mem_cons_of_mem _ k2m
set_option maxRecDepth 100000 in
theorem k4m {a b c d e : As} {l : List As} : a ∈ b :: c :: d :: e :: a :: l := List.mem_cons_of_mem _ k3m
set_option maxRecDepth 100000 in
theorem k5m {a b c d e f : As} {l : List As} : a ∈ b :: c :: d :: e :: f :: a :: l := List.mem_cons_of_mem _ k4m
/-- a row of things of s cells -/
def rowV (e : TypeId) (s : Nat) (v : Value) (n : Nat) (xs : List Value) : As :=
  ⟨fun W F => W.ownsRow 0 e s v n xs ∧ F = fun i => v.ownBlock = some i,
   fun S W W' F h f hs => ⟨by
     obtain ⟨⟨h1, h2⟩, h3⟩ := h
     refine ⟨h1, h2.imp id ?_⟩
     rintro ⟨g, cap, cur, rfl, q1, q2, q3⟩
     refine ⟨g, cap, cur, rfl, q1, ?_, q3⟩
     rw [f.block g (Array.getElem?_eq_some_iff.1 q2).1 (hs g (by rw [h3]; rfl))]; exact q2, h.2⟩,
   fun W F h i hi => by
     rw [h.2] at hi
     obtain ⟨⟨h1, h2⟩, _⟩ := h
     rcases h2 with ⟨rfl, _⟩ | ⟨g, cap, cur, rfl, q1, q2, q3⟩
     · cases hi
     · injection hi with e
       rw [← e]
       exact (Array.getElem?_eq_some_iff.1 q2).1⟩
/-- several things, with what only they know -/
def exA {α : Type} (f : α → List As) : As :=
  ⟨fun W F => ∃ x, ∃ m : List Ob, m.map Prod.fst = f x ∧ (∀ p ∈ m, p.1.P W p.2) ∧ m.Pairwise Dj ∧ F = fun i => ∃ p ∈ m, p.2 i,
   fun S W W' F h fr hs => by
     obtain ⟨x, m, h1, h2, h3, rfl⟩ := h
     exact ⟨x, m, h1, fun p hp => p.1.st S W W' p.2 (h2 p hp) fr (fun i hi => hs i ⟨p, hp, hi⟩), h3, rfl⟩,
   fun W F h i hi => by
     obtain ⟨x, m, h1, h2, h3, rfl⟩ := h
     obtain ⟨p, hp, q⟩ := hi
     exact p.1.lt W p.2 (h2 p hp) i q⟩
set_option maxRecDepth 100000 in
theorem Sep.opn {α : Type} {f : α → List As} {w0 W : World} {l : List As} (h : Sep w0 W (exA f :: l)) : ∃ x, Sep w0 W (f x ++ l) := by
  obtain ⟨F, ⟨x, m, h1, h2, h3, rfl⟩, _, hu⟩ := h.use
  exact ⟨x, hu W (f x) (Fr.refl _ _) ⟨m, h1, fun p hp => ⟨h2 p hp, fun i hi => .inl ⟨p, hp, hi⟩⟩, h3⟩⟩
set_option maxRecDepth 100000 in
theorem Sep.cls {α : Type} (f : α → List As) (x : α) {w0 W : World} {l : List As} (h : Sep w0 W (f x ++ l)) : Sep w0 W (exA f :: l) := by
  obtain ⟨m, hm, hp, hd⟩ := h.ex
  obtain ⟨m1, m2, rfl, e1, e2⟩ := List.map_eq_append_iff.1 hm
  obtain ⟨d1, d2, d3⟩ := List.pairwise_append.1 hd
  refine ⟨h.g, (exA f, fun i => ∃ p ∈ m1, p.2 i) :: m2, by rw [List.map_cons, e2], fun p hq => ?_, List.pairwise_cons.2 ⟨fun p hq i hi hj => ?_, d2⟩⟩
  · rcases List.mem_cons.1 hq with rfl | hq
    · refine ⟨⟨x, m1, e1, fun p hp1 => (hp p (List.mem_append_left _ hp1)).1, d1, rfl⟩, fun i hi => ?_⟩
      obtain ⟨p, hp1, q⟩ := hi
      exact (hp p (List.mem_append_left _ hp1)).2 i q
    · exact hp p (List.mem_append_right _ hq)
  · obtain ⟨q, hq1, hq2⟩ := hi
    exact d3 q hq1 p hq i hq2 hj
set_option maxRecDepth 100000 in
theorem own_any {lo : Nat} {W : World} {e : TypeId} {s : Nat} {v : Value} {n : Nat} {xs : List Value} (h : W.ownsRow lo e s v n xs) (hn : 0 < n) : ∃ g c, v = .slice (some ⟨g, 0, none⟩) n c ∧ ∀ (k : Nat) t, xs[k]? = some t → W.cell? ⟨g, k, none⟩ = some t ∧ W.frozen? ⟨g, k, none⟩ = false := by
  obtain ⟨h1, h2⟩ := h
  rcases h2 with ⟨_, h0⟩ | ⟨g, cap, cur, rfl, hb, hheap, h3, h4, h5, h6⟩
  · omega
  · refine ⟨g, cap, rfl, fun k t ht => ?_⟩
    have hk : k < xs.length := (List.getElem?_eq_some_iff.1 ht).1
    rw [← h6, List.getElem?_take, if_pos (by omega)] at ht
    constructor
    · simp only [World.cell?, hheap]
      simpa using ht
    · simp [World.frozen?, hheap]
set_option maxRecDepth 100000 in
theorem Sep.rowGet {w0 W : World} {l : List As} {e : TypeId} {s : Nat} {v : Value} {n : Nat} {xs : List Value} (h : Sep w0 W l) (hm : rowV e s v n xs ∈ l) : W.ownsRow 0 e s v n xs := by
  obtain ⟨F, q, _⟩ := h.get hm
  exact q
set_option maxRecDepth 100000 in
theorem own_zero {lo : Nat} {W : World} {e : TypeId} {s : Nat} {v : Value} {xs : List Value} (h : W.ownsRow lo e s v 0 xs) : ∃ a c, v = .slice a 0 c := by
  obtain ⟨h1, h2⟩ := h
  rcases h2 with ⟨rfl, _⟩ | ⟨g, cap, cur, rfl, _⟩
  · exact ⟨_, _, rfl⟩
  · exact ⟨_, _, rfl⟩
/-- an empty row of none -/
theorem Sep.nilV {w0 W : World} {l : List As} (h : Sep w0 W l) (e : TypeId) (s : Nat) : Sep w0 W (rowV e s (.slice none 0 0) 0 [] :: l) :=
  h.new (World.grownBy.refl _ _) (Loc.one (a := rowV _ _ _ _ _) _ ⟨⟨by simp, .inl ⟨rfl, rfl⟩⟩, rfl⟩ (fun _ hi => by cases hi))
/-- one thing more -/
theorem Sep.app {w0 W : World} {l : List As} {t e : TypeId} {i : TypeInfo} {z : Value} {s bytes : Nat} (ht : Try.prog.underlying t = some (.slice e)) (hi : Try.prog.info? e = some i) (hz : i.zero = some z) (hs : i.size = s) (hby : i.bytes = bytes) (hzs : z.cells.size = s) (hs0 : 0 < s)
    {v : Value} {n : Nat} {xs : List Value} (h : Sep w0 W (rowV e s v n xs :: l)) (cs : List Value) (hcs : cs.length = s) (h1 : ∀ u ∈ cs, u.oneCell' = true) (hsz : (n + 1) * bytes ≤ 140737488355328) (hb0 : 0 < bytes) :
    ∃ g c W', (Builtin.append_ #[t, t] t #[v, .slice (some ⟨W.heap.size, 0, none⟩) 1 1]).run Try.prog (W.alloc (.cells cs.toArray e)) = .ok (.slice (some ⟨g, 0, none⟩) (n + 1) c) W' ∧ Sep w0 W' (rowV e s (.slice (some ⟨g, 0, none⟩) (n + 1) c) (n + 1) (xs ++ cs) :: l) := by
  obtain ⟨F, ⟨ho, rfl⟩, _, hu⟩ := h.use
  have hle : n + 1 ≤ 140737488355328 := Nat.le_trans (Nat.le_mul_of_pos_right _ hb0) hsz
  have hk := ho.kept (World.grownBy_alloc W (.cells cs.toArray e) none) (by cases v.ownBlock <;> simp)
  obtain ⟨v', w', r1, r2, r3, _, r5⟩ := run_append_own_at (P := Try.prog) (W.alloc (.cells cs.toArray e)) 0 t t e i z s bytes ht hi hz hs hby hzs hs0 v n xs hk ⟨W.heap.size, 0, none⟩ 1 1 cs (by omega) (fun j u hu => by
      rw [Addr.add_mid, Nat.zero_add]; exact (Has.newA W cs.toArray e).cellv j u (by simpa using hu)) h1 (by unfold maxLen; omega) hsz (Nat.zero_le _)
  obtain ⟨g, c, e1, _⟩ := own_any r2 (by omega)
  subst e1
  rw [heap1] at r5
  have gr := (World.grownBy_alloc W (.cells cs.toArray e) v.ownBlock).trans r3
  refine ⟨g, c, w', r1, hu w' [_] ((Fr.of gr).mono (fun i hi => .inl hi)) (Loc.one (a := rowV _ _ _ _ _) _ ⟨r2, rfl⟩ (fun i hi => ?_))⟩
  rcases r5 with q | q
  · exact .inl (by rw [← q]; exact hi)
  · rw [q] at hi
    injection hi with e
    exact .inr (by omega)
set_option maxRecDepth 100000 in
theorem own_set {lo : Nat} {W : World} {e : TypeId} {s g n c : Nat} {xs : List Value} (h : W.ownsRow lo e s (.slice (some ⟨g, 0, none⟩) n c) n xs) (k : Nat) (x : Value) : (W.setCell ⟨g, k, none⟩ x).ownsRow lo e s (.slice (some ⟨g, 0, none⟩) n c) n (xs.set k x) := by
  obtain ⟨h1, h2⟩ := h
  refine ⟨by rw [List.length_set]; exact h1, ?_⟩
  rcases h2 with ⟨h2, _⟩ | ⟨g', cap, cur, hv, hb, hheap, h3, h4, h5, h6⟩
  · cases h2
  · injection hv with e1 e2 e3
    cases e1
    refine .inr ⟨g, c, cur.setIfInBounds k x, rfl, hb, ?_, by omega, by omega, by rw [Array.size_setIfInBounds]; rw [h5, e3], ?_⟩
    · simp [World.setCell, Array.getElem?_modify, hheap]
    · rw [Array.toList_setIfInBounds, List.take_set, h6]
set_option maxRecDepth 100000 in
theorem Sep.rowSet {w0 W : World} {l : List As} {e : TypeId} {s g n c : Nat} {xs : List Value} (h : Sep w0 W (rowV e s (.slice (some ⟨g, 0, none⟩) n c) n xs :: l)) (k : Nat) (x : Value) : Sep w0 (W.setCell ⟨g, k, none⟩ x) (rowV e s (.slice (some ⟨g, 0, none⟩) n c) n (xs.set k x) :: l) := by
  obtain ⟨F, ⟨h1, rfl⟩, _, hu⟩ := h.use
  exact hu _ [_] (fr_set _ _ _ _ _ rfl) (Loc.one (a := rowV _ _ _ _ _) _ ⟨own_set h1 k x, rfl⟩ (fun i hi => .inl hi))
set_option maxRecDepth 100000 in
theorem Sep.boxPut {w0 W : World} {l : List As} {b : Nat} {cs : List Value} {t : TypeId} (h : Sep w0 W (boxA b cs t :: l)) (j : Nat) (v : Value) : Sep w0 (W.setCell ⟨b, j, none⟩ v) (boxA b (cs.set j v) t :: l) := by
  obtain ⟨F, ⟨h1, rfl⟩, _, hu⟩ := h.use
  exact hu _ [_] (fr_set _ _ _ _ _ rfl) (Loc.one (a := boxA _ _ _) _ ⟨h1.setCell j v, rfl⟩ (fun i hi => .inl hi))
set_option maxRecDepth 100000 in
theorem Sep.newBox {w0 W : World} {l : List As} (h : Sep w0 W l) (cs : Array Value) (t : TypeId) : Sep w0 (W.alloc (.cells cs t)) (boxA W.heap.size cs.toList t :: l) :=
  h.new (World.grownBy_alloc _ _ _) (Loc.one (a := boxA _ _ _) _ ⟨Has.newA W cs t, rfl⟩ (fun i hi => .inr (by rw [hi]; exact Nat.le_refl _)))
set_option maxRecDepth 100000 in
theorem fr1 {w0 W : World} (A : List As) {a : As} {B : List As} (h : Sep w0 W (A ++ a :: B)) : Sep w0 W (a :: (A ++ B)) := h.perm List.perm_middle
set_option maxRecDepth 100000 in
theorem bk1 {w0 W : World} (A : List As) {a : As} {B : List As} (h : Sep w0 W (a :: (A ++ B))) : Sep w0 W (A ++ a :: B) := h.perm List.perm_middle.symm
def pureA (p : Prop) : As := ⟨fun _ F => p ∧ F = fun _ => False, fun _ _ _ _ h _ _ => h, fun _ _ h i hi => by rw [h.2] at hi; exact hi.elim⟩
set_option maxRecDepth 100000 in
theorem Sep.fact {w0 W : World} {l : List As} {p : Prop} (h : Sep w0 W l) (hm : pureA p ∈ l) : p := by
  obtain ⟨F, q, _⟩ := h.get hm
  exact q
set_option maxRecDepth 100000 in
theorem Sep.know {w0 W : World} {l : List As} {p : Prop} (h : Sep w0 W l) (hp : p) : Sep w0 W (pureA p :: l) :=
  h.new (World.grownBy.refl _ _) (Loc.one (a := pureA p) (fun _ => False) ⟨hp, rfl⟩ (fun _ hi => hi.elim))
set_option maxRecDepth 100000 in
theorem own_slice {lo : Nat} {W : World} {e : TypeId} {s : Nat} {v : Value} {n : Nat} {xs : List Value} (h : W.ownsRow lo e s v n xs) : ∃ a c, v = .slice a n c := by
  obtain ⟨h1, h2⟩ := h
  rcases h2 with ⟨rfl, rfl⟩ | ⟨g, cap, cur, rfl, _⟩
  · exact ⟨_, _, rfl⟩
  · exact ⟨_, _, rfl⟩
set_option maxRecDepth 100000 in
theorem wp_append_run {P : Program} {o : Oper} {a : Act} {w : World} {K : Act → World → Prop} {Q : Exit → Act → World → Prop} (s x : Operand) (t : TypeId)
    (ho : o.op = .call { callee := .builtin .append, args := #[s, x], argTypes := #[t, t] }) (v u : Value) (hs : a.eval s = v) (hx : a.eval x = u) {v' : Value} {w' : World}
    (hr : (Builtin.append_ #[t, t] o.type #[v, u]).run P w = .ok v' w') (h : K (a.put o.dst v') w') : Oper.wp P o a w K Q := by
  unfold Oper.wp execOp
  simp only [ho, resolve, invoke, builtin, Sem.run_bind, Sem.run_pure, Result.andThen_ok, List.map_toArray, List.map_cons, List.map_nil, hs, hx, hr]
  exact h
set_option maxRecDepth 100000 in
theorem Has.one {W : World} {b : Nat} {v : Value} {cs : List Value} {t : TypeId} (h : Has W b (v :: cs) t) : W.cell? ⟨b, 0, none⟩ = some v := h.cellv 0 _ rfl

set_option maxRecDepth 100000 in
theorem wpList_append_run {P : Program} (w : World) {ops : Array Oper} {rest : List Oper} {o : Oper} {a : Act} {Q : Exit → Act → World → Prop}
    (hg : o.guard = none) (x y : Operand) (t : TypeId) (hop : o.op = Op.call { callee := Callee.builtin Builtin.append, args := #[x, y], argTypes := #[t, t] })
    (vx vy : Value) (hx : a.eval x = vx) (hy : a.eval y = vy) {v' : Value} {w' : World} (hrun : (Builtin.append_ #[t, t] o.type #[vx, vy]).run P w = .ok v' w')
    (hK : wpList P ops Q rest (a.put o.dst v') w') :
    wpList P ops Q (o :: rest) a w := by
  refine wpList_plain hg fun K' hK' => ?_
  unfold Oper.wp
  simp [execOp, hop, resolve, invoke, builtin, hx, hy, hrun, Result.andThen]
  exact hK' _ _ hK
set_option maxRecDepth 100000 in
theorem Sep.dropL {w0 W : World} {B l : List As} (h : Sep w0 W (B ++ l)) : Sep w0 W l := by
  induction B with
  | nil => exact h
  | cons a B ih => exact ih h.tail
set_option maxRecDepth 100000 in
theorem Sep.dropM {w0 W : World} (A B : List As) {l : List As} (h : Sep w0 W (A ++ (B ++ l))) : Sep w0 W (A ++ l) := by
  refine Sep.dropL (B := B) (h.perm ?_)
  rw [← List.append_assoc, ← List.append_assoc]
  exact List.perm_append_comm.append_right l
/-- a value of many cells is laid into a new block -/
theorem store_new {ops : Array Oper} {rest : List Oper} {op : Oper} {a : Act} {Q : Exit → Act → World → Prop} (w3 : World) (cs : List Value) (T : TypeId) {A : Array Value} (hgd : op.guard = none) {x y : Operand} (ho : op.op = .store T x y)
    (hx : a.eval x = .pointer (some ⟨w3.heap.size, 0, none⟩)) (hy : a.eval y = .agg cs.toArray) (hA : A.size = cs.length) (hi : (Try.prog.info? T).map (·.size) = some cs.length) (h1 : ∀ v ∈ cs, v.oneCell' = true)
    (h : ∀ w6, (∀ w0 l, Sep w0 w3 l → Sep w0 w6 (boxA w3.heap.size cs T :: l)) → w3.grownBy w6 none → wpList Try.prog ops Q rest (a.put op.dst undef) w6) : wpList Try.prog ops Q (op :: rest) a (w3.alloc (.cells A T)) := by
  have e : A.toList.length = cs.length := by rw [Array.length_toList]; exact hA
  have hn := Has.newA w3 A T
  have hg : w3.grownBy ((w3.alloc (.cells A T)).setCells w3.heap.size 0 cs.toArray.toList) none := gr_new (World.grownBy_alloc _ _ _) (gr_sets _ _ _ _) (Nat.le_refl _)
  refine wpList_store_mid hgd T x y ho w3.heap.size 0 cs.toArray hx hy (hn.there 0 cs.toArray.size (by rw [e, List.size_toArray]; omega)) (by rw [List.size_toArray]; exact hi) (all_oneCell_toArray h1) ?_
  refine h _ (fun w0 l hS => hS.new hg (Loc.one (a := boxA _ _ _) _ ⟨hn.setAll cs e.symm, rfl⟩ (fun i hi => .inr (by rw [hi]; exact Nat.le_refl _)))) hg
end Go.Proofs.Ytfhhneibdmjfgaa
