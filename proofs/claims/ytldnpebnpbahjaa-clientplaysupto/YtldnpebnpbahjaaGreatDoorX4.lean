import Derived.Test.YtldnpebnpbahjaaGreatDoorX3
import Derived.Deep.RegionHeld
import Derived.Maps.AppendAt
set_option maxRecDepth 100000
namespace Go.Proofs.YtldnpebnpbahjaaGreatDoor.Pk.Sn
open Go Go.RowKit
structure As where
  P : World → (Nat → Prop) → Prop
  st : ∀ (S : Nat → Prop) (W W' : World) (F : Nat → Prop), P W F → Fr S W W' → (∀ i, F i → ¬ S i) → P W' F
  lt : ∀ W F, P W F → ∀ i, F i → i < W.heap.size
abbrev Ob := As × (Nat → Prop)
def Dj (a b : Ob) : Prop := ∀ i, a.2 i → ¬ b.2 i
structure Sep (w0 W : World) (l : List As) : Prop where
  g : w0.grownBy W none
  ex : ∃ m : List Ob, m.map Prod.fst = l ∧ (∀ p ∈ m, p.1.P W p.2 ∧ ∀ i, p.2 i → w0.heap.size ≤ i) ∧ m.Pairwise Dj
def Loc (F : Nat → Prop) (W W' : World) (l : List As) : Prop :=
  ∃ m : List Ob, m.map Prod.fst = l ∧ (∀ p ∈ m, p.1.P W' p.2 ∧ ∀ i, p.2 i → F i ∨ W.heap.size ≤ i) ∧ m.Pairwise Dj
theorem Loc.nil (F : Nat → Prop) (W W' : World) : Loc F W W' [] := ⟨[], rfl, fun _ h => (by cases h), List.Pairwise.nil⟩
theorem Loc.one {F : Nat → Prop} {W W' : World} {a : As} (F' : Nat → Prop) (h : a.P W' F') (hF : ∀ i, F' i → F i ∨ W.heap.size ≤ i) : Loc F W W' [a] :=
  ⟨[(a, F')], rfl, fun p hp => by rw [List.mem_singleton] at hp; subst hp; exact ⟨h, hF⟩, by simp⟩
theorem Sep.nil (w : World) : Sep w w [] := ⟨World.grownBy.refl w _, [], rfl, fun _ h => (by cases h), List.Pairwise.nil⟩
theorem fr_gr {F : Nat → Prop} {w0 W W' : World} (g : w0.grownBy W none) (f : Fr F W W') (hF : ∀ i, F i → w0.heap.size ≤ i) : w0.grownBy W' none :=
  ⟨f.os.trans g.os, f.tape.trans g.tape, f.output.trans g.output, Nat.le_trans g.size f.size, fun i hi _ => (f.block i (by have := g.size; omega) (fun q => by have := hF i q; omega)).trans (g.block i hi (by simp))⟩
theorem Sep.use {w0 W : World} {a : As} {l : List As} (h : Sep w0 W (a :: l)) : ∃ F, a.P W F ∧ (∀ i, F i → w0.heap.size ≤ i) ∧ ∀ W' l', Fr F W W' → Loc F W W' l' → Sep w0 W' (l' ++ l) := by
  obtain ⟨m, hm, hp, hd⟩ := h.ex; cases m with
  | nil => cases hm
  | cons o m =>
    obtain ⟨o1, F⟩ := o; simp only [List.map_cons, List.cons.injEq] at hm; obtain ⟨rfl, rfl⟩ := hm; obtain ⟨h1, h2⟩ := hp _ (List.mem_cons_self ..); obtain ⟨d1, d2⟩ := List.pairwise_cons.1 hd; refine ⟨F, h1, h2, fun W' l' f ⟨m', e', p', d'⟩ => ⟨fr_gr h.g f h2, m' ++ m, by rw [List.map_append, e'], fun p hq => ?_, List.pairwise_append.2 ⟨d', d2, fun x hx y hy i hi hj => ?_⟩⟩⟩
    · rcases List.mem_append.1 hq with hq | hq
      · refine ⟨(p' p hq).1, fun i hi => ?_⟩; rcases (p' p hq).2 i hi with q | q
        · exact h2 i q
        · have := h.g.size; omega
      · obtain ⟨q1, q2⟩ := hp p (List.mem_cons_of_mem _ hq); exact ⟨p.1.st F W W' p.2 q1 f (fun i hi hj => d1 p hq i hj hi), q2⟩
    · rcases (p' x hx).2 i hi with q | q
      · exact d1 y hy i q hj
      · have := y.1.lt W y.2 (hp y (List.mem_cons_of_mem _ hy)).1 i hj; omega
theorem Sep.new {w0 W W' : World} {l l' : List As} (h : Sep w0 W l) (g : W.grownBy W' none) (hl : Loc (fun _ => False) W W' l') : Sep w0 W' (l' ++ l) := by
  obtain ⟨m, hm, hp, hd⟩ := h.ex; obtain ⟨m', e', p', d'⟩ := hl; refine ⟨h.g.trans g, m' ++ m, by rw [List.map_append, e', hm], fun p hq => ?_, List.pairwise_append.2 ⟨d', hd, fun x hx y hy i hi hj => ?_⟩⟩
  · rcases List.mem_append.1 hq with hq | hq
    · refine ⟨(p' p hq).1, fun i hi => ?_⟩; rcases (p' p hq).2 i hi with q | q
      · exact q.elim
      · have := h.g.size; omega
    · obtain ⟨q1, q2⟩ := hp p hq; exact ⟨p.1.st (fun _ => False) W W' p.2 q1 (Fr.ofNone g) (fun _ _ e => e), q2⟩
  · rcases (p' x hx).2 i hi with q | q
    · exact q.elim
    · have := y.1.lt W y.2 (hp y hy).1 i hj; omega
theorem Sep.grown {w0 W W' : World} {l : List As} (h : Sep w0 W l) (g : W.grownBy W' none) : Sep w0 W' l := h.new g (Loc.nil _ _ _)
theorem Sep.get {w0 W : World} {a : As} {l : List As} (h : Sep w0 W l) (ha : a ∈ l) : ∃ F, a.P W F := by
  obtain ⟨m, hm, hp, hd⟩ := h.ex; subst hm; obtain ⟨o, ho, rfl⟩ := List.mem_map.1 ha; exact ⟨o.2, (hp o ho).1⟩
theorem Sep.perm {w0 W : World} {l l' : List As} (h : Sep w0 W l) (hp : l.Perm l') : Sep w0 W l' := by
  obtain ⟨m, hm, hq, hd⟩ := h.ex
  suffices ∀ (l l' : List As), l.Perm l' → ∀ m : List Ob, m.map Prod.fst = l → ∃ m' : List Ob, m'.map Prod.fst = l' ∧ m.Perm m' by
    obtain ⟨m', e', p'⟩ := this l l' hp m hm; exact ⟨h.g, m', e', fun p hp => hq p (p'.mem_iff.2 hp), (p'.pairwise_iff (fun {a b} q i hi hj => q i hj hi)).1 hd⟩
  intro l l' hp
  induction hp with
  | nil => intro m hm; exact ⟨m, hm, List.Perm.refl _⟩
  | cons x _ ih =>
    intro m hm; cases m with
    | nil => cases hm
    | cons o m =>
      simp only [List.map_cons, List.cons.injEq] at hm; obtain ⟨m', e', p'⟩ := ih m hm.2; exact ⟨o :: m', by rw [List.map_cons, e', hm.1], p'.cons o⟩
  | swap x y l =>
    intro m hm
    match m, hm with
    | a :: b :: m, hm =>
      simp only [List.map_cons, List.cons.injEq] at hm; exact ⟨b :: a :: m, by simp [hm], List.Perm.swap _ _ _⟩
  | trans _ _ ih1 ih2 =>
    intro m hm; obtain ⟨m1, e1, p1⟩ := ih1 m hm; obtain ⟨m2, e2, p2⟩ := ih2 m1 e1; exact ⟨m2, e2, p1.trans p2⟩
theorem Sep.tail {w0 W : World} {a : As} {l : List As} (h : Sep w0 W (a :: l)) : Sep w0 W l := by
  obtain ⟨F, h1, h2, h3⟩ := h.use; exact h3 W [] (Fr.refl _ _) (Loc.nil _ _ _)
def boxA (b : Nat) (cs : List Value) (t : TypeId) : As :=
  ⟨fun W F => Has W b cs t ∧ F = fun i => i = b, fun S W W' F h f hs => ⟨h.1.fr f (hs b (by rw [h.2])), h.2⟩, fun W F h i hi => by rw [h.2] at hi; have hi : i = b := hi; rw [hi]; exact h.1.lt⟩
open Go.Proofs.Tryz
theorem heap1 (w : World) (o : Obj) : (w.alloc o).heap.size = w.heap.size + 1 := by simp
theorem fr_set (w : World) (S : Nat → Prop) (b j : Nat) (v : Value) (h : S b) : Fr S w (w.setCell ⟨b, j, none⟩ v) := Fr.ofSome (gr_set w b j v) h
theorem Sep.boxGet {w0 W : World} {l : List As} {b : Nat} {cs : List Value} {t : TypeId} (h : Sep w0 W l) (hm : boxA b cs t ∈ l) : Has W b cs t := by
  obtain ⟨F, q, _⟩ := h.get hm; exact q
theorem k0m {a : As} {l : List As} : a ∈ a :: l := List.mem_cons_self ..
theorem k1m {a b : As} {l : List As} : a ∈ b :: a :: l := List.mem_cons_of_mem _ k0m
theorem k2m {a b c : As} {l : List As} : a ∈ b :: c :: a :: l := List.mem_cons_of_mem _ k1m
def rowV (e : TypeId) (s : Nat) (v : Value) (n : Nat) (xs : List Value) : As :=
  ⟨fun W F => W.ownsRow 0 e s v n xs ∧ F = fun i => v.ownBlock = some i,
   fun S W W' F h f hs => ⟨by
     obtain ⟨⟨h1, h2⟩, h3⟩ := h; refine ⟨h1, h2.imp id ?_⟩; rintro ⟨g, cap, cur, rfl, q1, q2, q3⟩; refine ⟨g, cap, cur, rfl, q1, ?_, q3⟩
     rw [f.block g (Array.getElem?_eq_some_iff.1 q2).1 (hs g (by rw [h3]; rfl))]; exact q2, h.2⟩,
   fun W F h i hi => by
     rw [h.2] at hi; obtain ⟨⟨h1, h2⟩, _⟩ := h; rcases h2 with ⟨rfl, _⟩ | ⟨g, cap, cur, rfl, q1, q2, q3⟩
     · cases hi
     · injection hi with e
       rw [← e]
       exact (Array.getElem?_eq_some_iff.1 q2).1⟩
theorem own_any {lo : Nat} {W : World} {e : TypeId} {s : Nat} {v : Value} {n : Nat} {xs : List Value} (h : W.ownsRow lo e s v n xs) (hn : 0 < n) : ∃ g c, v = .slice (some ⟨g, 0, none⟩) n c ∧ ∀ (k : Nat) t, xs[k]? = some t → W.cell? ⟨g, k, none⟩ = some t ∧ W.frozen? ⟨g, k, none⟩ = false := by
  obtain ⟨h1, h2⟩ := h; rcases h2 with ⟨_, h0⟩ | ⟨g, cap, cur, rfl, hb, hheap, h3, h4, h5, h6⟩
  · omega
  · refine ⟨g, cap, rfl, fun k t ht => ?_⟩; have hk : k < xs.length := (List.getElem?_eq_some_iff.1 ht).1; rw [← h6, List.getElem?_take, if_pos (by omega)] at ht; constructor
    · simp only [World.cell?, hheap]
      simpa using ht
    · simp [World.frozen?, hheap]
theorem Sep.rowGet {w0 W : World} {l : List As} {e : TypeId} {s : Nat} {v : Value} {n : Nat} {xs : List Value} (h : Sep w0 W l) (hm : rowV e s v n xs ∈ l) : W.ownsRow 0 e s v n xs := by
  obtain ⟨F, q, _⟩ := h.get hm; exact q
theorem Sep.nilV {w0 W : World} {l : List As} (h : Sep w0 W l) (e : TypeId) (s : Nat) : Sep w0 W (rowV e s (.slice none 0 0) 0 [] :: l) :=
  h.new (World.grownBy.refl _ _) (Loc.one (a := rowV _ _ _ _ _) _ ⟨⟨by simp, .inl ⟨rfl, rfl⟩⟩, rfl⟩ (fun _ hi => by cases hi))
theorem Sep.app {w0 W : World} {l : List As} {t e : TypeId} {i : TypeInfo} {z : Value} {s bytes : Nat} (ht : prog.underlying t = some (.slice e)) (hi : prog.info? e = some i) (hz : i.zero = some z) (hs : i.size = s) (hby : i.bytes = bytes) (hzs : z.cells.size = s) (hs0 : 0 < s)
    {v : Value} {n : Nat} {xs : List Value} (h : Sep w0 W (rowV e s v n xs :: l)) (cs : List Value) (hcs : cs.length = s) (h1 : ∀ u ∈ cs, u.oneCell' = true) (hsz : (n + 1) * bytes ≤ 140737488355328) (hb0 : 0 < bytes) :
    ∃ g c W', (Builtin.append_ #[t, t] t #[v, .slice (some ⟨W.heap.size, 0, none⟩) 1 1]).run prog (W.alloc (.cells cs.toArray e)) = .ok (.slice (some ⟨g, 0, none⟩) (n + 1) c) W' ∧ Sep w0 W' (rowV e s (.slice (some ⟨g, 0, none⟩) (n + 1) c) (n + 1) (xs ++ cs) :: l) := by
  obtain ⟨F, ⟨ho, rfl⟩, _, hu⟩ := h.use; have hle : n + 1 ≤ 140737488355328 := Nat.le_trans (Nat.le_mul_of_pos_right _ hb0) hsz; have hk := ho.kept (gAl W (.cells cs.toArray e) none) (by cases v.ownBlock <;> simp)
  obtain ⟨v', w', r1, r2, r3, _, r5⟩ := run_append_own_at (P := prog) (W.alloc (.cells cs.toArray e)) 0 t t e i z s bytes ht hi hz hs hby hzs hs0 v n xs hk ⟨W.heap.size, 0, none⟩ 1 1 cs (by omega) (fun j u hu => by
      rw [Addr.add_mid, Nat.zero_add]; exact (Has.newA W cs.toArray e).cellv j u (by simpa using hu)) h1 (by unfold maxLen; omega) hsz (Nat.zero_le _)
  obtain ⟨g, c, e1, _⟩ := own_any r2 (by omega); subst e1; rw [heap1] at r5; have gr := (gAl W (.cells cs.toArray e) v.ownBlock).trans r3; refine ⟨g, c, w', r1, hu w' [_] ((Fr.of gr).mono (fun i hi => .inl hi)) (Loc.one (a := rowV _ _ _ _ _) _ ⟨r2, rfl⟩ (fun i hi => ?_))⟩; rcases r5 with q | q
  · exact .inl (by rw [← q]; exact hi)
  · rw [q] at hi; injection hi with e
    exact .inr (by omega)
theorem Sep.boxPut {w0 W : World} {l : List As} {b : Nat} {cs : List Value} {t : TypeId} (h : Sep w0 W (boxA b cs t :: l)) (j : Nat) (v : Value) : Sep w0 (W.setCell ⟨b, j, none⟩ v) (boxA b (cs.set j v) t :: l) := by
  obtain ⟨F, ⟨h1, rfl⟩, _, hu⟩ := h.use; exact hu _ [_] (fr_set _ _ _ _ _ rfl) (Loc.one (a := boxA _ _ _) _ ⟨h1.setCell j v, rfl⟩ (fun i hi => .inl hi))
theorem Sep.newBox {w0 W : World} {l : List As} (h : Sep w0 W l) (cs : Array Value) (t : TypeId) : Sep w0 (W.alloc (.cells cs t)) (boxA W.heap.size cs.toList t :: l) :=
  h.new (gAl _ _ _) (Loc.one (a := boxA _ _ _) _ ⟨Has.newA W cs t, rfl⟩ (fun i hi => .inr (by rw [hi]; exact Nat.le_refl _)))
theorem fr1 {w0 W : World} (A : List As) {a : As} {B : List As} (h : Sep w0 W (A ++ a :: B)) : Sep w0 W (a :: (A ++ B)) := h.perm List.perm_middle
theorem wp_append_run {P : Program} {o : Oper} {a : Act} {w : World} {K : Act → World → Prop} {Q : Exit → Act → World → Prop} (s x : Operand) (t : TypeId)
    (ho : o.op = .call { callee := .builtin .append, args := #[s, x], argTypes := #[t, t] }) (v u : Value) (hs : a.eval s = v) (hx : a.eval x = u) {v' : Value} {w' : World}
    (hr : (Builtin.append_ #[t, t] o.type #[v, u]).run P w = .ok v' w') (h : K (a.put o.dst v') w') : Oper.wp P o a w K Q := by
  unfold Oper.wp execOp; simp only [ho, resolve, invoke, builtin, Sem.run_bind, Sem.run_pure, Result.andThen_ok, List.map_toArray, List.map_cons, List.map_nil, hs, hx, hr]; exact h
theorem wpList_append_run {P : Program} (w : World) {ops : Array Oper} {rest : List Oper} {o : Oper} {a : Act} {Q : Exit → Act → World → Prop}
    (hg : o.guard = none) (x y : Operand) (t : TypeId) (hop : o.op = Op.call { callee := Callee.builtin Builtin.append, args := #[x, y], argTypes := #[t, t] })
    (vx vy : Value) (hx : a.eval x = vx) (hy : a.eval y = vy) {v' : Value} {w' : World} (hrun : (Builtin.append_ #[t, t] o.type #[vx, vy]).run P w = .ok v' w')
    (hK : wpList P ops Q rest (a.put o.dst v') w') :
    wpList P ops Q (o :: rest) a w := by
  refine wpList_plain hg fun K' hK' => ?_
  unfold Oper.wp; simp [execOp, hop, resolve, invoke, builtin, hx, hy, hrun, Result.andThen]; exact hK' _ _ hK
theorem Sep.dropL {w0 W : World} {B l : List As} (h : Sep w0 W (B ++ l)) : Sep w0 W l := by
  induction B with
  | nil => exact h
  | cons a B ih => exact ih h.tail
theorem Sep.dropM {w0 W : World} (A B : List As) {l : List As} (h : Sep w0 W (A ++ (B ++ l))) : Sep w0 W (A ++ l) := by
  refine Sep.dropL (B := B) (h.perm ?_); rw [← List.append_assoc, ← List.append_assoc]; exact List.perm_append_comm.append_right l
section
variable {P : Program} {ops : Array Oper} {Q : Exit → Act → World → Prop} {md : Region.Mode} {S : World → Prop}
end
section
variable {P : Program} {ops : Array Oper} {Q : Exit → Act → World → Prop} {md : Region.Mode} {S : World → Prop} {Z : List Nat}
def awaited (md : Region.Mode) (ops : Array Oper) (Z : List Nat) (i : Nat) : Bool :=
  Z.all fun z => match ops[z]? with
    | some o => o.after.any fun e => Region.binds md e && e.on == i
    | none => false
theorem awaited_spec {i j : Nat} {oj : Oper} (h : awaited md ops Z i = true) (hj : ops[j]? = some oj) (hz : Z.contains j = true) : ∃ e ∈ oj.after, Region.binds md e = true ∧ e.on = i := by
  have h1 := List.all_eq_true.1 h j (by simpa using hz); simp only [hj] at h1; simp only [Array.any_eq_true', Bool.and_eq_true, beq_iff_eq] at h1; obtain ⟨e, he, h2, h3⟩ := h1; exact ⟨e, he, h2, h3⟩
end
section
variable {P : Program} {ops : Array Oper} {Q : Exit → Act → World → Prop} {md : Region.Mode} {S : World → Prop} {Z : List Nat}
end
theorem Sep.boxTurn {w0 W W' : World} {l : List As} {b : Nat} {cs ds : List Value} {t : TypeId} (h : Sep w0 W (boxA b cs t :: l)) (hh : Has W' b ds t) (g : W.grownBy W' (some b)) : Sep w0 W' (boxA b ds t :: l) := by
  obtain ⟨F, ⟨h1, rfl⟩, _, hu⟩ := h.use; exact hu W' [_] (Fr.ofSome g rfl) (Loc.one (a := boxA _ _ _) _ ⟨hh, rfl⟩ (fun i hi => .inl hi))
theorem store_at {ops : Array Oper} {rest : List Oper} {op : Oper} {a : Act} {Q : Exit → Act → World → Prop} (w3 : World) (rb o : Nat) (ds cs : List Value) (T T' : TypeId) (hgd : op.guard = none) {x y : Operand} (ho : op.op = .store T x y)
    (hx : a.eval x = .pointer (some ⟨rb, o, none⟩)) (hy : a.eval y = .agg cs.toArray) (hh : Has w3 rb ds T') (hl : o + cs.length ≤ ds.length) (hi : (prog.info? T).map (·.size) = some cs.length) (h1 : ∀ v ∈ cs, v.oneCell' = true)
    (h : ∀ w6, (∀ w0 l, Sep w0 w3 (boxA rb ds T' :: l) → Sep w0 w6 (boxA rb (over ds o cs) T' :: l)) → w3.grownBy w6 (some rb) → wpList prog ops Q rest (a.put op.dst undef) w6) : wpList prog ops Q (op :: rest) a w3 := by
  have hg : w3.grownBy (w3.setCells rb o cs.toArray.toList) (some rb) := gr_sets _ _ _ _; refine wpList_store_mid hgd T x y ho rb o cs.toArray hx hy (hh.there o cs.toArray.size (by rw [List.size_toArray]; omega)) (by rw [List.size_toArray]; exact hi) (all_oneCell_toArray h1) ?_; exact h _ (fun w0 l hS => hS.boxTurn (hh.setCells cs o) hg) hg
theorem over_all (ds cs : List Value) (h : cs.length = ds.length) : over ds 0 cs = cs := by
  rw [over_eq _ _ _ (by omega)]; simp [h]
theorem wpList_build {P : Program} {w : World} {ops : Array Oper} {rest : List Oper} {o : Oper} {a : Act} {Q : Exit → Act → World → Prop} (hgd : o.guard = none) (t : TypeId) (parts : Array (Nat × Operand))
    (ho : o.op = .build t parts) (cells : Array Value) (hb : P.built t (parts.map fun (i, x) => (i, a.eval x)).toList = some cells) (h : wpList P ops Q rest (a.put o.dst (.agg cells)) w) : wpList P ops Q (o :: rest) a w :=
  wpList_plain hgd fun _ hK => by
    unfold Oper.wp execOp; simp only [ho, Sem.run_bind, run_build w t _ cells hb, Result.andThen_ok]; exact hK _ _ h
theorem yieldsIf_build {P : Program} {ops : Array Oper} {S : World → Prop} {op : Oper} {a : Act} (hw : Region.wanted op (yielded ops a.tmps) = true) (t : TypeId) (parts : Array (Nat × Operand)) (ho : op.op = .build t parts) (cells : Array Value)
    (hb : P.built t (parts.map fun (i, x) => (i, a.eval x)).toList = some cells) : YieldsIf P ops S op (.agg cells) a :=
  .inl ⟨hw, fun w _ => by
    unfold execOp; simp only [ho, Sem.run_bind, run_build w t _ cells hb, Result.andThen_ok]
    rfl⟩
theorem wpList_want {P : Program} {ops : Array Oper} {rest : List Oper} {o : Oper} {a : Act} {w : World} {Q : Exit → Act → World → Prop} (hw : Region.wanted o (yielded ops a.tmps) = true)
    (h : ∀ K : Act → World → Prop, (∀ a w, wpList P ops Q rest a w → K a w) → o.wp P a w K Q) : wpList P ops Q (o :: rest) a w :=
  wpList_step fun K hK => by rw [if_pos hw]; exact h K hK
theorem load_g {P : Program} {ops : Array Oper} {rest : List Oper} {op : Oper} {a : Act} {w : World} {Q : Exit → Act → World → Prop} (hw : Region.wanted op (yielded ops a.tmps) = true) (ty : TypeId) (x : Operand) (ho : op.op = .load ty x)
    (b o : Nat) (hx : a.eval x = .pointer (some ⟨b, o, none⟩)) (cs : List Value) (d : TypeDesc) (hc : w.rangeAt b o cs)
    (hu : P.underlying ty = some d) (hd : d.isRow = true) (hi : (P.info? ty).map (·.size) = some cs.length)
    (h : wpList P ops Q rest (a.put op.dst (.agg cs.toArray)) w) : wpList P ops Q (op :: rest) a w :=
  wpList_want hw fun _ hK => wp_load_mid ty x ho b o hx cs d hc hu hd hi (hK _ _ h)
theorem build_g {P : Program} {w : World} {ops : Array Oper} {rest : List Oper} {o : Oper} {a : Act} {Q : Exit → Act → World → Prop} (hw : Region.wanted o (yielded ops a.tmps) = true) (t : TypeId) (parts : Array (Nat × Operand))
    (ho : o.op = .build t parts) (cells : Array Value) (hb : P.built t (parts.map fun (i, x) => (i, a.eval x)).toList = some cells) (h : wpList P ops Q rest (a.put o.dst (.agg cells)) w) : wpList P ops Q (o :: rest) a w :=
  wpList_want hw fun _ hK => by
    unfold Oper.wp execOp; simp only [ho, Sem.run_bind, run_build w t _ cells hb, Result.andThen_ok]; exact hK _ _ h
section
variable {P : Program} {ops : Array Oper} {Q : Exit → Act → World → Prop} {md : Region.Mode} {S : World → Prop} {Z : List Nat}
def wpAnyY (P : Program) (md : Region.Mode) (ops : Array Oper) (Q : Exit → Act → World → Prop) (S : World → Prop) (Z : List Nat) : Nat → Array Bool → Act → World → Prop
  | 0, L, a, w => Region.ready md ops L = [] ∧ Q .normal a w
  | n + 1, L, a, w => (Region.ready md ops L = [] → Q .normal a w) ∧ ∀ i ∈ Region.ready md ops L, wpOp P ops Q i (fun b w' => (Z.contains i = false → S w → S w') ∧ wpAnyY P md ops Q S Z n (L.setIfInBounds i true) b w') a w
theorem plain_of_Y : ∀ (n : Nat) (L : Array Bool) (a : Act) (w : World), wpAnyY P md ops Q S Z n L a w → wpAny P md ops Q n L a w
  | 0, _, _, _, h => h
  | n + 1, _, _, _, h => ⟨h.1, fun i hi => wpOp_mono (fun b w' hb => plain_of_Y n _ b w' hb.2) (h.2 i hi)⟩
theorem pureY_core {i : Nat} {oi : Oper} {v : Value} (hi : ops[i]? = some oi) (hsel : ∀ (j : Nat) (o : Oper) cs b, ops[j]? = some o → o.op ≠ .select cs b) (hQ : ∀ c a w, Q (.panic c) (a.put oi.dst v) w → Q (.panic c) a w) :
    ∀ (n : Nat) (L : Array Bool) (a : Act) (w : World), (∀ j oj, ops[j]? = some oj → j ≠ i → L.getD j true = false → (∀ e ∈ oj.after, Region.binds md e = true → e.on ≠ i) → oi.apart ops oj = true) →
      i ∈ Region.ready md ops L → YieldsIf P ops (fun _ => True) oi v a → wpAnyY P md ops Q S Z n (L.setIfInBounds i true) (a.put oi.dst v) w → wpAnyY P md ops Q S Z (n + 1) L a w
  | n, L, a, w, hfree, hri, hy, H => by
    refine ⟨fun h => (by rw [h] at hri; cases hri), fun j hj => ?_⟩; by_cases hji : j = i
    · subst hji; exact hy.wpOp hi trivial ⟨fun _ h => h, H⟩
    have hj2 := ready_mono hj hji
    match n, H with
    | 0, H => rw [H.1] at hj2; cases hj2
    | n + 1, H =>
      obtain ⟨hjl, oj, hoj, hedge⟩ := mem_ready.1 hj
      have hno : ∀ e ∈ oj.after, Region.binds md e = true → e.on ≠ i := by
        intro e he hb heq; have x1 := hedge e he hb; have x0 := (mem_ready.1 hri).1; rw [heq] at x1; by_cases hlt : i < L.size
        · simp [hlt] at x0 x1; rw [x0] at x1; cases x1
        · simp [Array.getElem?_eq_none (Nat.le_of_not_lt hlt)] at x1
      have x2 := wpOp_putIf hoj (hfree j oj hoj hji hjl hno) (fun cs b => hsel i oi cs b hi) (fun cs b => hsel j oj cs b hoj) hQ hy (H.2 j hj2); refine wpOp_mono (fun b w' hb => ⟨hb.2.1, pureY_core hi hsel hQ n (L.setIfInBounds j true) b w' ?_ (ready_mono hri (Ne.symm hji)) hb.1 ?_⟩) x2
      · intro k ok hk hki hun hnk; refine hfree k ok hk hki ?_ hnk; by_cases hjk : j = k
        · subst hjk; exact hjl
        · rwa [getD_set_ne true hjk] at hun
      · rw [Array.setIfInBounds_comm _ _ hji]; exact hb.2.2
theorem takeY_core {i : Nat} {oi : Oper} {v : Value} (hi : ops[i]? = some oi) (hsel : ∀ (j : Nat) (o : Oper) cs b, ops[j]? = some o → o.op ≠ .select cs b) (hQ : ∀ c a w, Q (.panic c) (a.put oi.dst v) w → Q (.panic c) a w) (hz : awaited md ops Z i = true) (hzi : Z.contains i = false) :
    ∀ (n : Nat) (L : Array Bool) (a : Act) (w : World), (∀ j oj, ops[j]? = some oj → j ≠ i → L.getD j true = false → (∀ e ∈ oj.after, Region.binds md e = true → e.on ≠ i) → oi.apart ops oj = true) →
      i ∈ Region.ready md ops L → YieldsIf P ops S oi v a → S w → wpAnyY P md ops Q S Z n (L.setIfInBounds i true) (a.put oi.dst v) w → wpAnyY P md ops Q S Z (n + 1) L a w
  | n, L, a, w, hfree, hri, hy, hS, H => by
    refine ⟨fun h => (by rw [h] at hri; cases hri), fun j hj => ?_⟩; by_cases hji : j = i
    · subst hji; exact hy.wpOp hi hS ⟨fun _ h => h, H⟩
    have hj2 := ready_mono hj hji
    match n, H with
    | 0, H => rw [H.1] at hj2; cases hj2
    | n + 1, H =>
      obtain ⟨hjl, oj, hoj, hedge⟩ := mem_ready.1 hj
      have hno : ∀ e ∈ oj.after, Region.binds md e = true → e.on ≠ i := by
        intro e he hb heq; have x1 := hedge e he hb; have x0 := (mem_ready.1 hri).1; rw [heq] at x1; by_cases hlt : i < L.size
        · simp [hlt] at x0 x1; rw [x0] at x1; cases x1
        · simp [Array.getElem?_eq_none (Nat.le_of_not_lt hlt)] at x1
      have hjz : Z.contains j = false := by
        cases q : Z.contains j
        · rfl
        · obtain ⟨e, he, h2, h3⟩ := awaited_spec hz hoj q; exact absurd h3 (hno e he h2)
      have x2 := wpOp_putIf hoj (hfree j oj hoj hji hjl hno) (fun cs b => hsel i oi cs b hi) (fun cs b => hsel j oj cs b hoj) hQ hy (H.2 j hj2); refine wpOp_mono (fun b w' hb => ⟨hb.2.1, takeY_core hi hsel hQ hz hzi n (L.setIfInBounds j true) b w' ?_ (ready_mono hri (Ne.symm hji)) hb.1 (hb.2.1 hjz hS) ?_⟩) x2
      · intro k ok hk hki hun hnk; refine hfree k ok hk hki ?_ hnk; by_cases hjk : j = k
        · subst hjk; exact hjl
        · rwa [getD_set_ne true hjk] at hun
      · rw [Array.setIfInBounds_comm _ _ hji]; exact hb.2.2
theorem wpAnyY_take {i : Nat} {oi : Oper} {v : Value} {n : Nat} {L : Array Bool} {a : Act} {w : World} (hi : ops[i]? = some oi) (hs : Region.noSelect ops = true) (hf : Region.free md ops L i = true) (hri : (Region.ready md ops L).contains i = true) (hz : awaited md ops Z i = true) (hzi : Z.contains i = false)
    (hQ : ∀ c a w, Q (.panic c) (a.put oi.dst v) w → Q (.panic c) a w) (hy : YieldsIf P ops S oi v a) (hS : S w) (h : wpAnyY P md ops Q S Z n (L.setIfInBounds i true) (a.put oi.dst v) w) : wpAnyY P md ops Q S Z (n + 1) L a w :=
  takeY_core hi (Region.noSelect_spec hs) hQ hz hzi n L a w (Region.free_spec hi hf) (by simpa using hri) hy hS h
theorem wpAnyY_pure {i : Nat} {oi : Oper} {v : Value} {n : Nat} {L : Array Bool} {a : Act} {w : World} (hi : ops[i]? = some oi) (hs : Region.noSelect ops = true) (hf : Region.free md ops L i = true) (hri : (Region.ready md ops L).contains i = true) (_ : Z.contains i = false)
    (hQ : ∀ c a w, Q (.panic c) (a.put oi.dst v) w → Q (.panic c) a w) (hy : YieldsIf P ops (fun _ => True) oi v a) (h : wpAnyY P md ops Q S Z n (L.setIfInBounds i true) (a.put oi.dst v) w) : wpAnyY P md ops Q S Z (n + 1) L a w :=
  pureY_core hi (Region.noSelect_spec hs) hQ n L a w (Region.free_spec hi hf) (by simpa using hri) hy h
theorem wpAnyY_one {i : Nat} {o : Oper} {n : Nat} {L : Array Bool} {a : Act} {w : World} (hr : Region.ready md ops L = [i]) (ho : ops[i]? = some o)
    (h : ∀ K' : Act → World → Prop, Shut (∀ a w', (S w → S w') → wpAnyY P md ops Q S Z n (L.setIfInBounds i true) a w' → K' a w') → if Region.wanted o (yielded ops a.tmps) = true then Oper.wp P o a w K' Q else K' (a.put o.dst undef) w) : wpAnyY P md ops Q S Z (n + 1) L a w :=
  ⟨fun h0 => (by rw [hr] at h0; cases h0), fun j hj => by
    rw [hr, List.mem_singleton] at hj; subst hj
    exact wpOp_step ho (fun K' hK => h K' (fun a w hS hW => hK a w ⟨fun _ => hS, hW⟩))⟩
theorem wpAnyY_late {i : Nat} {o : Oper} {n : Nat} {L : Array Bool} {a : Act} {w : World} (hr : Region.ready md ops L = [i]) (ho : ops[i]? = some o) (hz : Z.contains i = true)
    (h : ∀ K' : Act → World → Prop, Shut (∀ a w, wpAnyY P md ops Q S Z n (L.setIfInBounds i true) a w → K' a w) → if Region.wanted o (yielded ops a.tmps) = true then Oper.wp P o a w K' Q else K' (a.put o.dst undef) w) : wpAnyY P md ops Q S Z (n + 1) L a w :=
  ⟨fun h0 => (by rw [hr] at h0; cases h0), fun j hj => by
    rw [hr, List.mem_singleton] at hj; subst hj
    exact wpOp_step ho (fun K' hK => h K' (fun a w hW => hK a w ⟨fun q => (by rw [hz] at q; cases q), hW⟩))⟩
theorem wpAnyY_done {L : Array Bool} {a : Act} {w : World} (hr : Region.ready md ops L = []) (h : Q .normal a w) : ∀ n, wpAnyY P md ops Q S Z n L a w
  | 0 => ⟨hr, h⟩
  | _ + 1 => ⟨fun _ => h, by rw [hr]; simp⟩
theorem region_Y (Z : List Nat) {id : Nat} {a : Act} {w : World} (hm : P.follows .mixedOrders = true) (h : wpAnyY P .any ops Q S Z ops.size (Array.replicate ops.size false) a w.drew) : (Code.region id ops true).wp P Q a w :=
  wp_region_any hm (plain_of_Y _ _ _ _ h)
theorem yp {i : Nat} {oi : Oper} {v : Value} {n : Nat} {L : Array Bool} {a : Act} {w : World} (hi : ops[i]? = some oi) (hy : YieldsIf P ops (fun _ => True) oi v a) (h : wpAnyY P md ops Q S Z n (L.setIfInBounds i true) (a.put oi.dst v) w) (hs : Region.noSelect ops = true := by kernel_rfl) (hf : Region.free md ops L i = true := by kernel_rfl) (hri : (Region.ready md ops L).contains i = true := by kernel_rfl) (hz : Z.contains i = false := by kernel_rfl)
    (hQ : ∀ c a w, Q (.panic c) (a.put oi.dst v) w → Q (.panic c) a w := by exact fun _ _ _ h => h) : wpAnyY P md ops Q S Z (n + 1) L a w :=
  wpAnyY_pure hi hs hf hri hz hQ hy h
theorem yt {i : Nat} {oi : Oper} {v : Value} {n : Nat} {L : Array Bool} {a : Act} {w : World} (hi : ops[i]? = some oi) (hy : YieldsIf P ops S oi v a) (hS : S w) (h : wpAnyY P md ops Q S Z n (L.setIfInBounds i true) (a.put oi.dst v) w) (hs : Region.noSelect ops = true := by kernel_rfl) (hf : Region.free md ops L i = true := by kernel_rfl) (hri : (Region.ready md ops L).contains i = true := by kernel_rfl) (hz : awaited md ops Z i = true := by kernel_rfl) (hzi : Z.contains i = false := by kernel_rfl)
    (hQ : ∀ c a w, Q (.panic c) (a.put oi.dst v) w → Q (.panic c) a w := by exact fun _ _ _ h => h) : wpAnyY P md ops Q S Z (n + 1) L a w :=
  wpAnyY_take hi hs hf hri hz hzi hQ hy hS h
theorem yd {n : Nat} {L : Array Bool} {a : Act} {w : World} (h : Q .normal a w) (hr : Region.ready md ops L = [] := by kernel_rfl) : wpAnyY P md ops Q S Z n L a w := wpAnyY_done hr h n
theorem yk (i : Nat) {oi : Oper} {v : Value} {n : Nat} {L : Array Bool} {a : Act} {w : World} (hi : ops[i]? = some oi) (h : wpAnyY P md ops Q S Z n (L.setIfInBounds i true) (a.put oi.dst v) w) (hy : ∀ w, S w → (execOp a.eval oi).run P w = .ok (.value v) w) (hw : Region.wanted oi (yielded ops a.tmps) = true := by rfl) (hS : S w := by assumption) (hs : Region.noSelect ops = true := by kernel_rfl) (hf : Region.free md ops L i = true := by kernel_rfl) (hri : (Region.ready md ops L).contains i = true := by kernel_rfl) (hz : awaited md ops Z i = true := by kernel_rfl) (hzi : Z.contains i = false := by kernel_rfl)
    (hQ : ∀ c a w, Q (.panic c) (a.put oi.dst v) w → Q (.panic c) a w := by exact fun _ _ _ h => h) : wpAnyY P md ops Q S Z (n + 1) L a w := wpAnyY_take hi hs hf hri hz hzi hQ (Or.inl ⟨hw, hy⟩) hS h
theorem yo (i : Nat) {o : Oper} {n : Nat} {L : Array Bool} {a : Act} {w : World} (h : ∀ K' : Act → World → Prop, Shut (∀ a w', (S w → S w') → wpAnyY P md ops Q S Z n (L.setIfInBounds i true) a w' → K' a w') → if Region.wanted o (yielded ops a.tmps) = true then Oper.wp P o a w K' Q else K' (a.put o.dst undef) w) (ho : ops[i]? = some o := by rfl) (hr : Region.ready md ops L = [i] := by kernel_rfl) : wpAnyY P md ops Q S Z (n + 1) L a w := wpAnyY_one hr ho h
theorem yq (i : Nat) {oi : Oper} {v : Value} {n : Nat} {L : Array Bool} {a : Act} {w : World} (hi : ops[i]? = some oi) (h : wpAnyY P md ops Q S Z n (L.setIfInBounds i true) (a.put oi.dst v) w) (hy : YieldsIf P ops (fun _ => True) oi v a := by exact Or.inl ⟨by rfl, by intro w hSw; go_simp; first | done | (with_reducible rfl)⟩) (hs : Region.noSelect ops = true := by kernel_rfl) (hf : Region.free md ops L i = true := by kernel_rfl) (hri : (Region.ready md ops L).contains i = true := by kernel_rfl) (hz : Z.contains i = false := by kernel_rfl)
    (hQ : ∀ c a w, Q (.panic c) (a.put oi.dst v) w → Q (.panic c) a w := by exact fun _ _ _ h => h) : wpAnyY P md ops Q S Z (n + 1) L a w := wpAnyY_pure hi hs hf hri hz hQ hy h
theorem yr (i : Nat) {oi : Oper} {v : Value} {n : Nat} {L : Array Bool} {a : Act} {w : World} (hi : ops[i]? = some oi) (h : wpAnyY P md ops Q S Z n (L.setIfInBounds i true) (a.put oi.dst v) w) (hy : YieldsIf P ops S oi v a := by exact Or.inl ⟨by rfl, by intro w hSw; go_simp; first | done | (with_reducible rfl)⟩) (hS : S w := by assumption) (hs : Region.noSelect ops = true := by kernel_rfl) (hf : Region.free md ops L i = true := by kernel_rfl) (hri : (Region.ready md ops L).contains i = true := by kernel_rfl) (hz : awaited md ops Z i = true := by kernel_rfl) (hzi : Z.contains i = false := by kernel_rfl)
    (hQ : ∀ c a w, Q (.panic c) (a.put oi.dst v) w → Q (.panic c) a w := by exact fun _ _ _ h => h) : wpAnyY P md ops Q S Z (n + 1) L a w := wpAnyY_take hi hs hf hri hz hzi hQ hy hS h
end
end Go.Proofs.YtldnpebnpbahjaaGreatDoor.Pk.Sn
