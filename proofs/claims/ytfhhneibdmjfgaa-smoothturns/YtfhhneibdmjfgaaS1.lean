/- things that lie apart. -/
import Derived.Test.YtfhhneibdmjfgaaBase
namespace Go.Proofs.Ytfhhneibdmjfgaa
open Go Go.RowKit

/-- what is said of a world and of the blocks of one thing; other blocks don't touch it -/
structure As where
  P : World → (Nat → Prop) → Prop
  st : ∀ (S : Nat → Prop) (W W' : World) (F : Nat → Prop), P W F → Fr S W W' → (∀ i, F i → ¬ S i) → P W' F
  lt : ∀ W F, P W F → ∀ i, F i → i < W.heap.size
abbrev Ob := As × (Nat → Prop)
def Dj (a b : Ob) : Prop := ∀ i, a.2 i → ¬ b.2 i
/-- all since w0 is new but what these say; they lie apart -/
structure Sep (w0 W : World) (l : List As) : Prop where
  g : w0.grownBy W none
  ex : ∃ m : List Ob, m.map Prod.fst = l ∧ (∀ p ∈ m, p.1.P W p.2 ∧ ∀ i, p.2 i → w0.heap.size ≤ i) ∧ m.Pairwise Dj
/-- new things, within F and what is new -/
def Loc (F : Nat → Prop) (W W' : World) (l : List As) : Prop :=
  ∃ m : List Ob, m.map Prod.fst = l ∧ (∀ p ∈ m, p.1.P W' p.2 ∧ ∀ i, p.2 i → F i ∨ W.heap.size ≤ i) ∧ m.Pairwise Dj
set_option maxRecDepth 100000 in
theorem Loc.nil (F : Nat → Prop) (W W' : World) : Loc F W W' [] := ⟨[], rfl, fun _ h => (by cases h), List.Pairwise.nil⟩
set_option maxRecDepth 100000 in
theorem Loc.one {F : Nat → Prop} {W W' : World} {a : As} (F' : Nat → Prop) (h : a.P W' F') (hF : ∀ i, F' i → F i ∨ W.heap.size ≤ i) : Loc F W W' [a] :=
  ⟨[(a, F')], rfl, fun p hp => by rw [List.mem_singleton] at hp; subst hp; exact ⟨h, hF⟩, by simp⟩
set_option maxRecDepth 100000 in
theorem Loc.two {F : Nat → Prop} {W W' : World} {a b : As} (Fa Fb : Nat → Prop) (ha : a.P W' Fa) (hb : b.P W' Fb) (hFa : ∀ i, Fa i → F i ∨ W.heap.size ≤ i) (hFb : ∀ i, Fb i → F i ∨ W.heap.size ≤ i) (hd : ∀ i, Fa i → ¬ Fb i) : Loc F W W' [a, b] := by
  refine ⟨[(a, Fa), (b, Fb)], rfl, fun p hp => ?_, by simpa [Dj] using hd⟩
  rcases List.mem_cons.1 hp with rfl | hp
  · exact ⟨ha, hFa⟩
  · rw [List.mem_singleton] at hp; subst hp; exact ⟨hb, hFb⟩
set_option maxRecDepth 100000 in
theorem Sep.nil (w : World) : Sep w w [] := ⟨World.grownBy.refl w _, [], rfl, fun _ h => (by cases h), List.Pairwise.nil⟩
set_option maxRecDepth 100000 in
theorem Sep.start {w W : World} (h : w.grownBy W none) : Sep w W [] := ⟨h, [], rfl, fun _ h => (by cases h), List.Pairwise.nil⟩
set_option maxRecDepth 100000 in
theorem fr_gr {F : Nat → Prop} {w0 W W' : World} (g : w0.grownBy W none) (f : Fr F W W') (hF : ∀ i, F i → w0.heap.size ≤ i) : w0.grownBy W' none :=
  ⟨f.os.trans g.os, f.tape.trans g.tape, f.output.trans g.output, Nat.le_trans g.size f.size, fun i hi _ => (f.block i (by have := g.size; omega) (fun q => by have := hF i q; omega)).trans (g.block i hi (by simp))⟩
/-- the first is used: what comes of it stands for it -/
theorem Sep.use {w0 W : World} {a : As} {l : List As} (h : Sep w0 W (a :: l)) : ∃ F, a.P W F ∧ (∀ i, F i → w0.heap.size ≤ i) ∧ ∀ W' l', Fr F W W' → Loc F W W' l' → Sep w0 W' (l' ++ l) := by
  obtain ⟨m, hm, hp, hd⟩ := h.ex
  cases m with
  | nil => cases hm
  | cons o m =>
    obtain ⟨o1, F⟩ := o
    simp only [List.map_cons, List.cons.injEq] at hm
    obtain ⟨rfl, rfl⟩ := hm
    obtain ⟨h1, h2⟩ := hp _ (List.mem_cons_self ..)
    obtain ⟨d1, d2⟩ := List.pairwise_cons.1 hd
    refine ⟨F, h1, h2, fun W' l' f ⟨m', e', p', d'⟩ => ⟨fr_gr h.g f h2, m' ++ m, by rw [List.map_append, e'], fun p hq => ?_, List.pairwise_append.2 ⟨d', d2, fun x hx y hy i hi hj => ?_⟩⟩⟩
    · rcases List.mem_append.1 hq with hq | hq
      · refine ⟨(p' p hq).1, fun i hi => ?_⟩
        rcases (p' p hq).2 i hi with q | q
        · exact h2 i q
        · have := h.g.size; omega
      · obtain ⟨q1, q2⟩ := hp p (List.mem_cons_of_mem _ hq)
        exact ⟨p.1.st F W W' p.2 q1 f (fun i hi hj => d1 p hq i hj hi), q2⟩
    · rcases (p' x hx).2 i hi with q | q
      · exact d1 y hy i q hj
      · have := y.1.lt W y.2 (hp y (List.mem_cons_of_mem _ hy)).1 i hj
        omega
/-- new things come -/
theorem Sep.new {w0 W W' : World} {l l' : List As} (h : Sep w0 W l) (g : W.grownBy W' none) (hl : Loc (fun _ => False) W W' l') : Sep w0 W' (l' ++ l) := by
  obtain ⟨m, hm, hp, hd⟩ := h.ex
  obtain ⟨m', e', p', d'⟩ := hl
  refine ⟨h.g.trans g, m' ++ m, by rw [List.map_append, e', hm], fun p hq => ?_, List.pairwise_append.2 ⟨d', hd, fun x hx y hy i hi hj => ?_⟩⟩
  · rcases List.mem_append.1 hq with hq | hq
    · refine ⟨(p' p hq).1, fun i hi => ?_⟩
      rcases (p' p hq).2 i hi with q | q
      · exact q.elim
      · have := h.g.size; omega
    · obtain ⟨q1, q2⟩ := hp p hq
      exact ⟨p.1.st (fun _ => False) W W' p.2 q1 (Fr.ofNone g) (fun _ _ e => e), q2⟩
  · rcases (p' x hx).2 i hi with q | q
    · exact q.elim
    · have := y.1.lt W y.2 (hp y hy).1 i hj
      omega
set_option maxRecDepth 100000 in
theorem Sep.grown {w0 W W' : World} {l : List As} (h : Sep w0 W l) (g : W.grownBy W' none) : Sep w0 W' l := h.new g (Loc.nil _ _ _)
set_option maxRecDepth 100000 in
theorem Sep.get {w0 W : World} {a : As} {l : List As} (h : Sep w0 W l) (ha : a ∈ l) : ∃ F, a.P W F := by
  obtain ⟨m, hm, hp, hd⟩ := h.ex
  subst hm
  obtain ⟨o, ho, rfl⟩ := List.mem_map.1 ha
  exact ⟨o.2, (hp o ho).1⟩
set_option maxRecDepth 100000 in
theorem Sep.perm {w0 W : World} {l l' : List As} (h : Sep w0 W l) (hp : l.Perm l') : Sep w0 W l' := by
  obtain ⟨m, hm, hq, hd⟩ := h.ex
  suffices ∀ (l l' : List As), l.Perm l' → ∀ m : List Ob, m.map Prod.fst = l → ∃ m' : List Ob, m'.map Prod.fst = l' ∧ m.Perm m' by
    obtain ⟨m', e', p'⟩ := this l l' hp m hm
    exact ⟨h.g, m', e', fun p hp => hq p (p'.mem_iff.2 hp), (p'.pairwise_iff (fun {a b} q i hi hj => q i hj hi)).1 hd⟩
  intro l l' hp
  induction hp with
  | nil => intro m hm; exact ⟨m, hm, List.Perm.refl _⟩
  | cons x _ ih =>
    intro m hm
    cases m with
    | nil => cases hm
    | cons o m =>
      simp only [List.map_cons, List.cons.injEq] at hm
      obtain ⟨m', e', p'⟩ := ih m hm.2
      exact ⟨o :: m', by rw [List.map_cons, e', hm.1], p'.cons o⟩
  | swap x y l =>
    intro m hm
    match m, hm with
    | a :: b :: m, hm =>
      simp only [List.map_cons, List.cons.injEq] at hm
      exact ⟨b :: a :: m, by simp [hm], List.Perm.swap _ _ _⟩
  | trans _ _ ih1 ih2 =>
    intro m hm
    obtain ⟨m1, e1, p1⟩ := ih1 m hm
    obtain ⟨m2, e2, p2⟩ := ih2 m1 e1
    exact ⟨m2, e2, p1.trans p2⟩
set_option maxRecDepth 100000 in
theorem Sep.tail {w0 W : World} {a : As} {l : List As} (h : Sep w0 W (a :: l)) : Sep w0 W l := by
  obtain ⟨F, h1, h2, h3⟩ := h.use
  exact h3 W [] (Fr.refl _ _) (Loc.nil _ _ _)
set_option maxRecDepth 100000 in
theorem Sep.swap {w0 W : World} {a b : As} {l : List As} (h : Sep w0 W (a :: b :: l)) : Sep w0 W (b :: a :: l) := h.perm (List.Perm.swap _ _ _)
/-- the third comes first -/
theorem Sep.third {w0 W : World} {a b c : As} {l : List As} (h : Sep w0 W (a :: b :: c :: l)) : Sep w0 W (c :: a :: b :: l) := h.perm ((List.Perm.cons a (List.Perm.swap c b l)).trans (List.Perm.swap c a (b :: l)))

/-- a block whose cells are known -/
def boxA (b : Nat) (cs : List Value) (t : TypeId) : As :=
  ⟨fun W F => Has W b cs t ∧ F = fun i => i = b, fun S W W' F h f hs => ⟨h.1.fr f (hs b (by rw [h.2])), h.2⟩, fun W F h i hi => by rw [h.2] at hi; have hi : i = b := hi; rw [hi]; exact h.1.lt⟩
/-- a row of strings -/
def rowA (v : Value) (xs : List ByteArray) : As :=
  ⟨fun W F => W.ownsRow 0 9 1 v xs.length (xs.map .string) ∧ F = fun i => v.ownBlock = some i,
   fun S W W' F h f hs => ⟨by
     obtain ⟨⟨h1, h2⟩, h3⟩ := h
     refine ⟨h1, h2.imp id ?_⟩
     rintro ⟨g, cap, cur, rfl, q1, q2, q3⟩
     refine ⟨g, cap, cur, rfl, q1, ?_, q3⟩
     rw [f.block g (Array.getElem?_eq_some_iff.1 q2).1 (hs g (by rw [h3]; rfl))]; exact q2, h.2⟩,
   fun W F h i hi => by
     rw [h.2] at hi
     obtain ⟨⟨h1, h2⟩, _⟩ := h
     rcases h2 with ⟨rfl, _⟩ | ⟨g, cap, cur, rfl, q1, q2, q3⟩
     · cases hi
     · injection hi with e
       rw [← e]
       exact (Array.getElem?_eq_some_iff.1 q2).1⟩
end Go.Proofs.Ytfhhneibdmjfgaa
