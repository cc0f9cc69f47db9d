/- Base, S1, S2 -/
import Derived.Test.YtgedlabmndlooaaGreatProg
import Derived.WalkKit
import Derived.WalkSpells
import Derived.WalkLawsBesides
import Derived.BigQuiet
import Derived.Deep.QuietTactic
import Derived.Laws.BitsAllLaws
import Derived.Deep.MidRow
import Derived.Deep.WholeRow
import Derived.Lib.SliceRun
import Derived.Deep.RegionHeld
import Derived.Maps.AppendAt
namespace Go.Proofs.YtgedlabmndlooaaGreat
open Go Go.RowKit

/-- A fact that no tactic looks into. -/
structure Keep (p : Prop) : Prop where
  out : p

abbrev iv (x : Int) : Value := .int .i64 x

def Has (w : World) (b : Nat) (cs : List Value) (t : TypeId) : Prop := w.heap[b]? = some (.cells cs.toArray t (0, 0))

set_option maxRecDepth 100000 in
theorem Has.lt {w : World} {b : Nat} {cs : List Value} {t : TypeId} (h : Has w b cs t) : b < w.heap.size := by
  unfold Has at h
  exact (Array.getElem?_eq_some_iff.1 h).1
set_option maxRecDepth 100000 in
theorem Has.cell {w : World} {b : Nat} {cs : List Value} {t : TypeId} (h : Has w b cs t) (j : Nat) : w.cell? ⟨b, j, none⟩ = cs[j]? := by
  unfold Has at h
  simp [World.cell?, h]
set_option maxRecDepth 100000 in
theorem Has.cellv {w : World} {b : Nat} {cs : List Value} {t : TypeId} (h : Has w b cs t) (j : Nat) (v : Value) (hv : cs[j]? = some v) : w.cell? ⟨b, j, none⟩ = some v := by
  rw [h.cell, hv]
set_option maxRecDepth 100000 in
theorem Has.frozen {w : World} {b : Nat} {cs : List Value} {t : TypeId} (h : Has w b cs t) (j : Nat) : w.frozen? ⟨b, j, none⟩ = false := by
  unfold Has at h
  simp [World.frozen?, h]
set_option maxRecDepth 100000 in
theorem Has.setCell {w : World} {b : Nat} {cs : List Value} {t : TypeId} (h : Has w b cs t) (j : Nat) (v : Value) : Has (w.setCell ⟨b, j, none⟩ v) b (cs.set j v) t := by
  unfold Has at h ⊢
  simp [World.setCell, Array.getElem?_modify, h]
set_option maxRecDepth 100000 in
theorem Has.other {w : World} {b : Nat} {cs : List Value} {t : TypeId} (h : Has w b cs t) (a : Addr) (v : Value) (hne : a.block ≠ b) : Has (w.setCell a v) b cs t := by
  unfold Has at h ⊢
  simp [World.setCell, Array.getElem?_modify, h, hne]
set_option maxRecDepth 100000 in
theorem Has.alloc {w : World} {b : Nat} {cs : List Value} {t : TypeId} (h : Has w b cs t) (o : Obj) : Has (w.alloc o) b cs t := by
  have := h.lt
  unfold Has at h ⊢
  show (w.heap.push o)[b]? = _
  rw [Array.getElem?_push, if_neg (by omega), h]
set_option maxRecDepth 100000 in
theorem Has.drewN {w : World} {b : Nat} {cs : List Value} {t : TypeId} (h : Has w b cs t) (n : Nat) : Has (w.drewN n) b cs t := h
set_option maxRecDepth 100000 in
theorem Has.kept {w w' : World} {b : Nat} {cs : List Value} {t : TypeId} {row : Option Nat} (h : Has w b cs t) (hg : w.grownBy w' row) (hne : some b ≠ row) : Has w' b cs t := by
  unfold Has at h ⊢
  rw [hg.block b (show b < w.heap.size from Has.lt (t := t) (cs := cs) h) hne, h]
set_option maxRecDepth 100000 in
theorem Has.new (w : World) (cs : List Value) (t : TypeId) : Has (w.alloc (.cells cs.toArray t)) w.heap.size cs t := by
  unfold Has
  exact heap_alloc_last w _
set_option maxRecDepth 100000 in
theorem Has.newA (w : World) (cs : Array Value) (t : TypeId) : Has (w.alloc (.cells cs t)) w.heap.size cs.toList t := by
  unfold Has
  exact heap_alloc_last w _

/-- vs laid over cs from o on -/
def over (cs : List Value) : Nat → List Value → List Value
  | _, [] => cs
  | o, v :: r => over (cs.set o v) (o + 1) r
set_option maxRecDepth 100000 in
theorem over_eq : ∀ (vs : List Value) (cs : List Value) (o : Nat), o + vs.length ≤ cs.length → over cs o vs = cs.take o ++ vs ++ cs.drop (o + vs.length)
  | [], cs, o, _ => by simp [over]
  | v :: r, cs, o, h => by
    simp at h
    rw [over, over_eq r _ _ (by simp; omega)]
    apply List.ext_getElem?
    intro i
    simp only [List.getElem?_append, List.getElem?_take, List.getElem?_drop, List.length_take, List.length_set, List.length_append, List.length_cons, List.getElem?_set, List.getElem?_cons]
    by_cases h1 : i < o
    · simp [show i < o + 1 by omega, h1, show ¬ o = i by omega, show i < min (o + 1) cs.length by omega, show i < min o cs.length by omega, show i < min (o + 1) cs.length + r.length by omega, show i < min o cs.length + (r.length + 1) by omega]
    · by_cases h2 : i = o
      · subst h2
        simp [show i < min (i + 1) cs.length by omega, show i < min (i + 1) cs.length + r.length by omega, show ¬ i < min i cs.length by omega, show i < min i cs.length + (r.length + 1) by omega, show i - min i cs.length = 0 by omega, show i < cs.length by omega]
      · by_cases h3 : i < o + 1 + r.length
        · simp [show ¬ i < min (o + 1) cs.length by omega, show i < min (o + 1) cs.length + r.length by omega, show ¬ i < min o cs.length by omega, show i < min o cs.length + (r.length + 1) by omega, show ¬ i - min o cs.length = 0 by omega]
          congr 1
          omega
        · simp [show ¬ i < min (o + 1) cs.length + r.length by omega, show ¬ i < min o cs.length + (r.length + 1) by omega, show ¬ o = o + 1 + r.length + (i - (min (o + 1) cs.length + r.length)) by omega]
          congr 1
          omega
set_option maxRecDepth 100000 in
theorem Has.setCells {t : TypeId} {b : Nat} : ∀ (vs : List Value) {w : World} {cs : List Value} (o : Nat), Has w b cs t → Has (w.setCells b o vs) b (over cs o vs) t
  | [], _, _, _, h => h
  | v :: r, _, _, o, h => Has.setCells r (o + 1) (h.setCell o v)
set_option maxRecDepth 100000 in
theorem Has.there {w : World} {b : Nat} {cs : List Value} {t : TypeId} (h : Has w b cs t) (o n : Nat) (hn : o + n ≤ cs.length) : w.there b o n := fun j hj => by
  refine ⟨?_, h.frozen _⟩
  rw [h.cell, List.getElem?_eq_getElem (by omega)]; rfl
set_option maxRecDepth 100000 in
theorem Has.rangeAt {w : World} {b : Nat} {cs : List Value} {t : TypeId} (h : Has w b cs t) (o n : Nat) : w.rangeAt b o ((cs.drop o).take n) := fun j v hv => by
  rw [h.cell]
  rw [List.getElem?_take] at hv
  split at hv
  · rw [List.getElem?_drop] at hv; exact hv
  · cases hv

set_option maxRecDepth 100000 in
theorem Has.range {w : World} {b : Nat} {cs : List Value} {t : TypeId} (h : Has w b cs t) : w.rangeAt b 0 cs := fun j v hv => by
  rw [h.cell, Nat.zero_add]; exact hv
set_option maxRecDepth 100000 in
theorem Has.rangeMid {w : World} {b : Nat} {cs : List Value} {t : TypeId} (h : Has w b cs t) (o : Nat) (a m c : List Value) (hc : cs = a ++ m ++ c) (ha : a.length = o) : w.rangeAt b o m := fun j v hv => by
  subst hc
  have hj : j < m.length := (List.getElem?_eq_some_iff.1 hv).1
  rw [h.cell, List.getElem?_append_left (by simp; omega), List.getElem?_append_right (by omega)]
  rw [← hv]; congr 1; omega
/-- all cells of a block stored at once -/
theorem Has.setAll {w : World} {b : Nat} {cs : List Value} {t : TypeId} (h : Has w b cs t) (vs : List Value) (hl : vs.length = cs.length) : Has (w.setCells b 0 vs) b vs t := by
  have := h.setCells vs 0
  rw [over_eq _ _ _ (by omega)] at this
  simpa [hl] using this

set_option maxRecDepth 100000 in
theorem results_cell {fn : Func} {p : Tmp} {ty : TypeId} (h : fn.results = #[.cell p ty]) (tmps : Array Value) (P : Program) (w : World) :
    (results fn tmps).run P w = ((asAddr (tmps.getD p undef)).run P w).andThen fun a w₁ => (loadVar ty a).run P w₁ := by
  simp only [results, h]
  simp [Sem.run_bind, Result.andThen]
set_option maxRecDepth 100000 in
theorem ret_cell {P : Program} {fn : Func} {R : Ending → World → Prop} {a : Act} {w : World} {p : Tmp} {ty t : TypeId} {b : Nat} {cs : List Value} {d : TypeDesc}
    (hr : fn.results = #[.cell p ty]) (hp : a.tmps.getD p undef = .pointer (some ⟨b, 0, none⟩)) (hh : Has w b cs t) (hu : P.underlying ty = some d) (hd : d.isRow = true)
    (hi : (P.info? ty).map (·.size) = some cs.length) (hdf : a.defers = []) (h : R (.returned (.agg cs.toArray)) w) : bodyPost P fn R .ret a w := by
  refine bodyPost_ret (v := .agg cs.toArray) ?_ hdf h
  rw [results_cell hr, hp]
  simp [asAddr, Result.andThen, run_loadVar_mid w b 0 ty cs d hh.range hu hd hi]

set_option maxRecDepth 100000 in
theorem gr_set (w : World) (b j : Nat) (v : Value) : w.grownBy (w.setCell ⟨b, j, none⟩ v) (some b) :=
  ⟨rfl, rfl, rfl, by simp [World.setCell], fun k _ hne => by
    simp only [World.setCell, Array.getElem?_modify]
    rw [if_neg (fun e => hne (by rw [e]))]⟩
set_option maxRecDepth 100000 in
theorem gr_sets (b : Nat) : ∀ (vs : List Value) (w : World) (o : Nat), w.grownBy (w.setCells b o vs) (some b)
  | [], w, _ => World.grownBy.refl w _
  | v :: r, w, o => (gr_set w b o v).trans (gr_sets b r _ (o + 1))
set_option maxRecDepth 100000 in
theorem gr_drewN (w : World) (n : Nat) (row : Option Nat) : w.grownBy (w.drewN n) row := ⟨rfl, rfl, rfl, Nat.le_refl _, fun _ _ _ => rfl⟩
/-- writing into what is new is writing into nothing old -/
theorem gr_new {w w1 w2 : World} {row : Option Nat} {b : Nat} (h : w.grownBy w1 row) (k : w1.grownBy w2 (some b)) (hb : w.heap.size ≤ b) : w.grownBy w2 row :=
  ⟨k.os.trans h.os, k.tape.trans h.tape, k.output.trans h.output, Nat.le_trans h.size k.size, fun i hi hne => by
    rw [k.block i (by have := h.size; omega) (by intro e; cases e; omega), h.block i hi hne]⟩


set_option maxRecDepth 100000 in
theorem gr_drew (w : World) (row : Option Nat) : w.grownBy w.drew row := ⟨rfl, rfl, rfl, Nat.le_refl _, fun _ _ _ => rfl⟩

/-- Nothing but the blocks of S has turned, and new ones have come. -/
structure Fr (S : Nat → Prop) (w w' : World) : Prop where
  os : w'.os = w.os
  tape : w'.tape = w.tape
  output : w'.output = w.output
  size : w.heap.size ≤ w'.heap.size
  block : ∀ i, i < w.heap.size → ¬ S i → w'.heap[i]? = w.heap[i]?
set_option maxRecDepth 100000 in
theorem Fr.refl (S : Nat → Prop) (w : World) : Fr S w w := ⟨rfl, rfl, rfl, Nat.le_refl _, fun _ _ _ => rfl⟩
set_option maxRecDepth 100000 in
theorem Fr.trans {S : Nat → Prop} {a b c : World} (h : Fr S a b) (k : Fr S b c) : Fr S a c :=
  ⟨k.os.trans h.os, k.tape.trans h.tape, k.output.trans h.output, Nat.le_trans h.size k.size, fun i hi hs => (k.block i (by have := h.size; omega) hs).trans (h.block i hi hs)⟩
/-- what is turned next is of S, or new -/
theorem Fr.then {S S' : Nat → Prop} {a b c : World} (h : Fr S a b) (k : Fr S' b c) (hs : ∀ i, S' i → S i ∨ a.heap.size ≤ i) : Fr S a c :=
  ⟨k.os.trans h.os, k.tape.trans h.tape, k.output.trans h.output, Nat.le_trans h.size k.size, fun i hi hn => (k.block i (by have := h.size; omega) (fun e => by rcases hs i e with q | q; exact hn q; omega)).trans (h.block i hi hn)⟩
set_option maxRecDepth 100000 in
theorem Fr.mono {S S' : Nat → Prop} {a b : World} (h : Fr S a b) (hs : ∀ i, S i → S' i ∨ a.heap.size ≤ i) : Fr S' a b := (Fr.refl S' a).then h hs
set_option maxRecDepth 100000 in
theorem Fr.of {w w' : World} {row : Option Nat} (h : w.grownBy w' row) : Fr (fun i => row = some i) w w' :=
  ⟨h.os, h.tape, h.output, h.size, fun i hi hs => h.block i hi (fun e => hs e.symm)⟩
set_option maxRecDepth 100000 in
theorem Fr.ofNone {S : Nat → Prop} {w w' : World} (h : w.grownBy w' none) : Fr S w w' := (Fr.of h).mono (fun i e => by cases e)
set_option maxRecDepth 100000 in
theorem Fr.ofSome {S : Nat → Prop} {w w' : World} {b : Nat} (h : w.grownBy w' (some b)) (hb : S b) : Fr S w w' := (Fr.of h).mono (fun i e => by cases e; exact .inl hb)
set_option maxRecDepth 100000 in
theorem Fr.none {S : Nat → Prop} {w w' : World} (h : Fr S w w') (hs : ∀ i, S i → w.heap.size ≤ i) : w.grownBy w' none :=
  ⟨h.os, h.tape, h.output, h.size, fun i hi _ => h.block i hi (fun e => by have := hs i e; omega)⟩
set_option maxRecDepth 100000 in
theorem Has.fr {S : Nat → Prop} {w w' : World} {b : Nat} {cs : List Value} {t : TypeId} (h : Has w b cs t) (hf : Fr S w w') (hs : ¬ S b) : Has w' b cs t := by
  have := h.lt
  unfold Has at h ⊢
  rw [hf.block b this hs, h]
theorem A1 {α : Type _} {l : List α} {i : Nat} (h : i < l.toArray.size) : l.toArray[i] = l[i]'(by simpa using h) := List.getElem_toArray h
theorem A2 {α : Type _} {a : α} {l : List α} {i : Nat} (h : i + 1 < (a :: l).length) : (a :: l)[i + 1] = l[i]'(Nat.lt_of_succ_lt_succ h) := rfl
theorem A3 {α : Type _} {a : α} {l : List α} (h : 0 < (a :: l).length) : (a :: l)[0] = a := rfl
theorem A4 {α : Type _} {l : List α} {i : Nat} {a : α} : l.toArray.setIfInBounds i a = (l.set i a).toArray := List.setIfInBounds_toArray ..
theorem A5 {α : Type _} {x a : α} {l : List α} : (x :: l).set 0 a = a :: l := rfl
theorem A6 {α : Type _} {x a : α} {l : List α} {n : Nat} : (x :: l).set (n + 1) a = x :: l.set n a := rfl
end Go.Proofs.YtgedlabmndlooaaGreat

namespace Go.Proofs.YtgedlabmndlooaaGreat
open Go Go.RowKit

/-- what is said of a world and of the blocks of one thing; other blocks don't touch it -/
structure As where
  P : World → (Nat → Prop) → Prop
  st : ∀ (S : Nat → Prop) (W W' : World) (F : Nat → Prop), P W F → Fr S W W' → (∀ i, F i → ¬ S i) → P W' F
  lt : ∀ W F, P W F → ∀ i, F i → i < W.heap.size
abbrev Ob := As × (Nat → Prop)
def Dj (a b : Ob) : Prop := ∀ i, a.2 i → ¬ b.2 i
/-- all since w0 is new but what these say; they lie apart -/
structure Sep (w0 W : World) (l : List As) : Prop where
  g : w0.grownBy W none
  ex : ∃ m : List Ob, m.map Prod.fst = l ∧ (∀ p ∈ m, p.1.P W p.2 ∧ ∀ i, p.2 i → w0.heap.size ≤ i) ∧ m.Pairwise Dj
/-- new things, within F and what is new -/
def Loc (F : Nat → Prop) (W W' : World) (l : List As) : Prop :=
  ∃ m : List Ob, m.map Prod.fst = l ∧ (∀ p ∈ m, p.1.P W' p.2 ∧ ∀ i, p.2 i → F i ∨ W.heap.size ≤ i) ∧ m.Pairwise Dj
set_option maxRecDepth 100000 in
theorem Loc.nil (F : Nat → Prop) (W W' : World) : Loc F W W' [] := ⟨[], rfl, fun _ h => (by cases h), List.Pairwise.nil⟩
set_option maxRecDepth 100000 in
theorem Loc.one {F : Nat → Prop} {W W' : World} {a : As} (F' : Nat → Prop) (h : a.P W' F') (hF : ∀ i, F' i → F i ∨ W.heap.size ≤ i) : Loc F W W' [a] :=
  ⟨[(a, F')], rfl, fun p hp => by rw [List.mem_singleton] at hp; subst hp; exact ⟨h, hF⟩, by simp⟩
set_option maxRecDepth 100000 in
theorem Loc.two {F : Nat → Prop} {W W' : World} {a b : As} (Fa Fb : Nat → Prop) (ha : a.P W' Fa) (hb : b.P W' Fb) (hFa : ∀ i, Fa i → F i ∨ W.heap.size ≤ i) (hFb : ∀ i, Fb i → F i ∨ W.heap.size ≤ i) (hd : ∀ i, Fa i → ¬ Fb i) : Loc F W W' [a, b] := by
  refine ⟨[(a, Fa), (b, Fb)], rfl, fun p hp => ?_, by simpa [Dj] using hd⟩
  rcases List.mem_cons.1 hp with rfl | hp
  · exact ⟨ha, hFa⟩
  · rw [List.mem_singleton] at hp; subst hp; exact ⟨hb, hFb⟩
set_option maxRecDepth 100000 in
theorem Sep.nil (w : World) : Sep w w [] := ⟨World.grownBy.refl w _, [], rfl, fun _ h => (by cases h), List.Pairwise.nil⟩
set_option maxRecDepth 100000 in
theorem Sep.start {w W : World} (h : w.grownBy W none) : Sep w W [] := ⟨h, [], rfl, fun _ h => (by cases h), List.Pairwise.nil⟩
set_option maxRecDepth 100000 in
theorem fr_gr {F : Nat → Prop} {w0 W W' : World} (g : w0.grownBy W none) (f : Fr F W W') (hF : ∀ i, F i → w0.heap.size ≤ i) : w0.grownBy W' none :=
  ⟨f.os.trans g.os, f.tape.trans g.tape, f.output.trans g.output, Nat.le_trans g.size f.size, fun i hi _ => (f.block i (by have := g.size; omega) (fun q => by have := hF i q; omega)).trans (g.block i hi (by simp))⟩
/-- the first is used: what comes of it stands for it -/
theorem Sep.use {w0 W : World} {a : As} {l : List As} (h : Sep w0 W (a :: l)) : ∃ F, a.P W F ∧ (∀ i, F i → w0.heap.size ≤ i) ∧ ∀ W' l', Fr F W W' → Loc F W W' l' → Sep w0 W' (l' ++ l) := by
  obtain ⟨m, hm, hp, hd⟩ := h.ex
  cases m with
  | nil => cases hm
  | cons o m =>
    obtain ⟨o1, F⟩ := o
    simp only [List.map_cons, List.cons.injEq] at hm
    obtain ⟨rfl, rfl⟩ := hm
    obtain ⟨h1, h2⟩ := hp _ (List.mem_cons_self ..)
    obtain ⟨d1, d2⟩ := List.pairwise_cons.1 hd
    refine ⟨F, h1, h2, fun W' l' f ⟨m', e', p', d'⟩ => ⟨fr_gr h.g f h2, m' ++ m, by rw [List.map_append, e'], fun p hq => ?_, List.pairwise_append.2 ⟨d', d2, fun x hx y hy i hi hj => ?_⟩⟩⟩
    · rcases List.mem_append.1 hq with hq | hq
      · refine ⟨(p' p hq).1, fun i hi => ?_⟩
        rcases (p' p hq).2 i hi with q | q
        · exact h2 i q
        · have := h.g.size; omega
      · obtain ⟨q1, q2⟩ := hp p (List.mem_cons_of_mem _ hq)
        exact ⟨p.1.st F W W' p.2 q1 f (fun i hi hj => d1 p hq i hj hi), q2⟩
    · rcases (p' x hx).2 i hi with q | q
      · exact d1 y hy i q hj
      · have := y.1.lt W y.2 (hp y (List.mem_cons_of_mem _ hy)).1 i hj
        omega
/-- new things come -/
theorem Sep.new {w0 W W' : World} {l l' : List As} (h : Sep w0 W l) (g : W.grownBy W' none) (hl : Loc (fun _ => False) W W' l') : Sep w0 W' (l' ++ l) := by
  obtain ⟨m, hm, hp, hd⟩ := h.ex
  obtain ⟨m', e', p', d'⟩ := hl
  refine ⟨h.g.trans g, m' ++ m, by rw [List.map_append, e', hm], fun p hq => ?_, List.pairwise_append.2 ⟨d', hd, fun x hx y hy i hi hj => ?_⟩⟩
  · rcases List.mem_append.1 hq with hq | hq
    · refine ⟨(p' p hq).1, fun i hi => ?_⟩
      rcases (p' p hq).2 i hi with q | q
      · exact q.elim
      · have := h.g.size; omega
    · obtain ⟨q1, q2⟩ := hp p hq
      exact ⟨p.1.st (fun _ => False) W W' p.2 q1 (Fr.ofNone g) (fun _ _ e => e), q2⟩
  · rcases (p' x hx).2 i hi with q | q
    · exact q.elim
    · have := y.1.lt W y.2 (hp y hy).1 i hj
      omega
set_option maxRecDepth 100000 in
theorem Sep.grown {w0 W W' : World} {l : List As} (h : Sep w0 W l) (g : W.grownBy W' none) : Sep w0 W' l := h.new g (Loc.nil _ _ _)
set_option maxRecDepth 100000 in
theorem Sep.get {w0 W : World} {a : As} {l : List As} (h : Sep w0 W l) (ha : a ∈ l) : ∃ F, a.P W F := by
  obtain ⟨m, hm, hp, hd⟩ := h.ex
  subst hm
  obtain ⟨o, ho, rfl⟩ := List.mem_map.1 ha
  exact ⟨o.2, (hp o ho).1⟩
set_option maxRecDepth 100000 in
theorem Sep.perm {w0 W : World} {l l' : List As} (h : Sep w0 W l) (hp : l.Perm l') : Sep w0 W l' := by
  obtain ⟨m, hm, hq, hd⟩ := h.ex
  suffices ∀ (l l' : List As), l.Perm l' → ∀ m : List Ob, m.map Prod.fst = l → ∃ m' : List Ob, m'.map Prod.fst = l' ∧ m.Perm m' by
    obtain ⟨m', e', p'⟩ := this l l' hp m hm
    exact ⟨h.g, m', e', fun p hp => hq p (p'.mem_iff.2 hp), (p'.pairwise_iff (fun {a b} q i hi hj => q i hj hi)).1 hd⟩
  intro l l' hp
  induction hp with
  | nil => intro m hm; exact ⟨m, hm, List.Perm.refl _⟩
  | cons x _ ih =>
    intro m hm
    cases m with
    | nil => cases hm
    | cons o m =>
      simp only [List.map_cons, List.cons.injEq] at hm
      obtain ⟨m', e', p'⟩ := ih m hm.2
      exact ⟨o :: m', by rw [List.map_cons, e', hm.1], p'.cons o⟩
  | swap x y l =>
    intro m hm
    match m, hm with
    | a :: b :: m, hm =>
      simp only [List.map_cons, List.cons.injEq] at hm
      exact ⟨b :: a :: m, by simp [hm], List.Perm.swap _ _ _⟩
  | trans _ _ ih1 ih2 =>
    intro m hm
    obtain ⟨m1, e1, p1⟩ := ih1 m hm
    obtain ⟨m2, e2, p2⟩ := ih2 m1 e1
    exact ⟨m2, e2, p1.trans p2⟩
set_option maxRecDepth 100000 in
theorem Sep.tail {w0 W : World} {a : As} {l : List As} (h : Sep w0 W (a :: l)) : Sep w0 W l := by
  obtain ⟨F, h1, h2, h3⟩ := h.use
  exact h3 W [] (Fr.refl _ _) (Loc.nil _ _ _)
set_option maxRecDepth 100000 in
theorem Sep.swap {w0 W : World} {a b : As} {l : List As} (h : Sep w0 W (a :: b :: l)) : Sep w0 W (b :: a :: l) := h.perm (List.Perm.swap _ _ _)
/-- the third comes first -/
theorem Sep.third {w0 W : World} {a b c : As} {l : List As} (h : Sep w0 W (a :: b :: c :: l)) : Sep w0 W (c :: a :: b :: l) := h.perm ((List.Perm.cons a (List.Perm.swap c b l)).trans (List.Perm.swap c a (b :: l)))

/-- a block whose cells are known -/
def boxA (b : Nat) (cs : List Value) (t : TypeId) : As :=
  ⟨fun W F => Has W b cs t ∧ F = fun i => i = b, fun S W W' F h f hs => ⟨h.1.fr f (hs b (by rw [h.2])), h.2⟩, fun W F h i hi => by rw [h.2] at hi; have hi : i = b := hi; rw [hi]; exact h.1.lt⟩
/-- a row of strings -/
def rowA (v : Value) (xs : List ByteArray) : As :=
  ⟨fun W F => W.ownsRow 0 9 1 v xs.length (xs.map .string) ∧ F = fun i => v.ownBlock = some i,
   fun S W W' F h f hs => ⟨by
     obtain ⟨⟨h1, h2⟩, h3⟩ := h
     refine ⟨h1, h2.imp id ?_⟩
     rintro ⟨g, cap, cur, rfl, q1, q2, q3⟩
     refine ⟨g, cap, cur, rfl, q1, ?_, q3⟩
     rw [f.block g (Array.getElem?_eq_some_iff.1 q2).1 (hs g (by rw [h3]; rfl))]; exact q2, h.2⟩,
   fun W F h i hi => by
     rw [h.2] at hi
     obtain ⟨⟨h1, h2⟩, _⟩ := h
     rcases h2 with ⟨rfl, _⟩ | ⟨g, cap, cur, rfl, q1, q2, q3⟩
     · cases hi
     · injection hi with e
       rw [← e]
       exact (Array.getElem?_eq_some_iff.1 q2).1⟩
end Go.Proofs.YtgedlabmndlooaaGreat

namespace Go.Proofs.YtgedlabmndlooaaGreat
open Go Go.RowKit

set_option maxRecDepth 100000 in
theorem heap1 (w : World) (o : Obj) : (w.alloc o).heap.size = w.heap.size + 1 := by simp
set_option maxRecDepth 100000 in
theorem fr_set (w : World) (S : Nat → Prop) (b j : Nat) (v : Value) (h : S b) : Fr S w (w.setCell ⟨b, j, none⟩ v) := Fr.ofSome (gr_set w b j v) h
set_option maxRecDepth 100000 in
theorem Sep.boxNe {w0 W : World} {l : List As} {b c : Nat} {cs ds : List Value} {t u : TypeId} (h : Sep w0 W (boxA b cs t :: l)) (hm : boxA c ds u ∈ l) : b ≠ c := by
  obtain ⟨m, hm1, hp, hd⟩ := h.ex
  cases m with
  | nil => cases hm1
  | cons o m =>
    simp only [List.map_cons, List.cons.injEq] at hm1
    obtain ⟨e1, rfl⟩ := hm1
    obtain ⟨q, hq, e2⟩ := List.mem_map.1 hm
    have h1 := (hp o (List.mem_cons_self ..)).1
    have h2 := (hp q (List.mem_cons_of_mem _ hq)).1
    rw [e1] at h1
    rw [e2] at h2
    have h3 := (List.pairwise_cons.1 hd).1 q hq b
    rw [h1.2, h2.2] at h3
    exact fun e => h3 rfl e
set_option maxRecDepth 100000 in
theorem Sep.boxGet {w0 W : World} {l : List As} {b : Nat} {cs : List Value} {t : TypeId} (h : Sep w0 W l) (hm : boxA b cs t ∈ l) : Has W b cs t := by
  obtain ⟨F, q, _⟩ := h.get hm
  exact q
set_option maxRecDepth 100000 in
theorem Sep.boxSet {w0 W : World} {l : List As} {b : Nat} {v : Value} {t : TypeId} (h : Sep w0 W (boxA b [v] t :: l)) (x : Value) : Sep w0 (W.setCell ⟨b, 0, none⟩ x) (boxA b [x] t :: l) := by
  obtain ⟨F, ⟨h1, rfl⟩, _, hu⟩ := h.use
  exact hu _ [_] (fr_set _ _ _ _ _ rfl) (Loc.one (a := boxA _ _ _) _ ⟨h1.setCell 0 x, rfl⟩ (fun i hi => .inl hi))
set_option maxRecDepth 100000 in
theorem k0m {a : As} {l : List As} : a ∈ a :: l := List.mem_cons_self ..
set_option maxRecDepth 100000 in
theorem k1m {a b : As} {l : List As} : a ∈ b :: a :: l := List.mem_cons_of_mem _ k0m
set_option maxRecDepth 100000 in
theorem k2m {a b c : As} {l : List As} : a ∈ b :: c :: a :: l := List.mem_cons_of_mem _ k1m
set_option maxRecDepth 100000 in
theorem k3m {a b c d : As} {l : List As} : a ∈ b :: c :: d :: a :: l := List.mem_cons_of_mem _ k2m
set_option maxRecDepth 100000 in
theorem k4m {a b c d e : As} {l : List As} : a ∈ b :: c :: d :: e :: a :: l := List.mem_cons_of_mem _ k3m
set_option maxRecDepth 100000 in
theorem k5m {a b c d e f : As} {l : List As} : a ∈ b :: c :: d :: e :: f :: a :: l := List.mem_cons_of_mem _ k4m
/-- a row of things of s cells -/
def rowV (e : TypeId) (s : Nat) (v : Value) (n : Nat) (xs : List Value) : As :=
  ⟨fun W F => W.ownsRow 0 e s v n xs ∧ F = fun i => v.ownBlock = some i,
   fun S W W' F h f hs => ⟨by
     obtain ⟨⟨h1, h2⟩, h3⟩ := h
     refine ⟨h1, h2.imp id ?_⟩
     rintro ⟨g, cap, cur, rfl, q1, q2, q3⟩
     refine ⟨g, cap, cur, rfl, q1, ?_, q3⟩
     rw [f.block g (Array.getElem?_eq_some_iff.1 q2).1 (hs g (by rw [h3]; rfl))]; exact q2, h.2⟩,
   fun W F h i hi => by
     rw [h.2] at hi
     obtain ⟨⟨h1, h2⟩, _⟩ := h
     rcases h2 with ⟨rfl, _⟩ | ⟨g, cap, cur, rfl, q1, q2, q3⟩
     · cases hi
     · injection hi with e
       rw [← e]
       exact (Array.getElem?_eq_some_iff.1 q2).1⟩
/-- several things, with what only they know -/
def exA {α : Type} (f : α → List As) : As :=
  ⟨fun W F => ∃ x, ∃ m : List Ob, m.map Prod.fst = f x ∧ (∀ p ∈ m, p.1.P W p.2) ∧ m.Pairwise Dj ∧ F = fun i => ∃ p ∈ m, p.2 i,
   fun S W W' F h fr hs => by
     obtain ⟨x, m, h1, h2, h3, rfl⟩ := h
     exact ⟨x, m, h1, fun p hp => p.1.st S W W' p.2 (h2 p hp) fr (fun i hi => hs i ⟨p, hp, hi⟩), h3, rfl⟩,
   fun W F h i hi => by
     obtain ⟨x, m, h1, h2, h3, rfl⟩ := h
     obtain ⟨p, hp, q⟩ := hi
     exact p.1.lt W p.2 (h2 p hp) i q⟩
set_option maxRecDepth 100000 in
theorem Sep.opn {α : Type} {f : α → List As} {w0 W : World} {l : List As} (h : Sep w0 W (exA f :: l)) : ∃ x, Sep w0 W (f x ++ l) := by
  obtain ⟨F, ⟨x, m, h1, h2, h3, rfl⟩, _, hu⟩ := h.use
  exact ⟨x, hu W (f x) (Fr.refl _ _) ⟨m, h1, fun p hp => ⟨h2 p hp, fun i hi => .inl ⟨p, hp, hi⟩⟩, h3⟩⟩
set_option maxRecDepth 100000 in
theorem Sep.cls {α : Type} (f : α → List As) (x : α) {w0 W : World} {l : List As} (h : Sep w0 W (f x ++ l)) : Sep w0 W (exA f :: l) := by
  obtain ⟨m, hm, hp, hd⟩ := h.ex
  obtain ⟨m1, m2, rfl, e1, e2⟩ := List.map_eq_append_iff.1 hm
  obtain ⟨d1, d2, d3⟩ := List.pairwise_append.1 hd
  refine ⟨h.g, (exA f, fun i => ∃ p ∈ m1, p.2 i) :: m2, by rw [List.map_cons, e2], fun p hq => ?_, List.pairwise_cons.2 ⟨fun p hq i hi hj => ?_, d2⟩⟩
  · rcases List.mem_cons.1 hq with rfl | hq
    · refine ⟨⟨x, m1, e1, fun p hp1 => (hp p (List.mem_append_left _ hp1)).1, d1, rfl⟩, fun i hi => ?_⟩
      obtain ⟨p, hp1, q⟩ := hi
      exact (hp p (List.mem_append_left _ hp1)).2 i q
    · exact hp p (List.mem_append_right _ hq)
  · obtain ⟨q, hq1, hq2⟩ := hi
    exact d3 q hq1 p hq i hq2 hj
set_option maxRecDepth 100000 in
theorem own_any {lo : Nat} {W : World} {e : TypeId} {s : Nat} {v : Value} {n : Nat} {xs : List Value} (h : W.ownsRow lo e s v n xs) (hn : 0 < n) : ∃ g c, v = .slice (some ⟨g, 0, none⟩) n c ∧ ∀ (k : Nat) t, xs[k]? = some t → W.cell? ⟨g, k, none⟩ = some t ∧ W.frozen? ⟨g, k, none⟩ = false := by
  obtain ⟨h1, h2⟩ := h
  rcases h2 with ⟨_, h0⟩ | ⟨g, cap, cur, rfl, hb, hheap, h3, h4, h5, h6⟩
  · omega
  · refine ⟨g, cap, rfl, fun k t ht => ?_⟩
    have hk : k < xs.length := (List.getElem?_eq_some_iff.1 ht).1
    rw [← h6, List.getElem?_take, if_pos (by omega)] at ht
    constructor
    · simp only [World.cell?, hheap]
      simpa using ht
    · simp [World.frozen?, hheap]
set_option maxRecDepth 100000 in
theorem Sep.rowGet {w0 W : World} {l : List As} {e : TypeId} {s : Nat} {v : Value} {n : Nat} {xs : List Value} (h : Sep w0 W l) (hm : rowV e s v n xs ∈ l) : W.ownsRow 0 e s v n xs := by
  obtain ⟨F, q, _⟩ := h.get hm
  exact q
set_option maxRecDepth 100000 in
theorem own_zero {lo : Nat} {W : World} {e : TypeId} {s : Nat} {v : Value} {xs : List Value} (h : W.ownsRow lo e s v 0 xs) : ∃ a c, v = .slice a 0 c := by
  obtain ⟨h1, h2⟩ := h
  rcases h2 with ⟨rfl, _⟩ | ⟨g, cap, cur, rfl, _⟩
  · exact ⟨_, _, rfl⟩
  · exact ⟨_, _, rfl⟩
/-- an empty row of none -/
theorem Sep.nilV {w0 W : World} {l : List As} (h : Sep w0 W l) (e : TypeId) (s : Nat) : Sep w0 W (rowV e s (.slice none 0 0) 0 [] :: l) :=
  h.new (World.grownBy.refl _ _) (Loc.one (a := rowV _ _ _ _ _) _ ⟨⟨by simp, .inl ⟨rfl, rfl⟩⟩, rfl⟩ (fun _ hi => by cases hi))
/-- one thing more -/
theorem Sep.app {w0 W : World} {l : List As} {t e : TypeId} {i : TypeInfo} {z : Value} {s bytes : Nat} (ht : Tryz.prog.underlying t = some (.slice e)) (hi : Tryz.prog.info? e = some i) (hz : i.zero = some z) (hs : i.size = s) (hby : i.bytes = bytes) (hzs : z.cells.size = s) (hs0 : 0 < s)
    {v : Value} {n : Nat} {xs : List Value} (h : Sep w0 W (rowV e s v n xs :: l)) (cs : List Value) (hcs : cs.length = s) (h1 : ∀ u ∈ cs, u.oneCell' = true) (hsz : (n + 1) * bytes ≤ 140737488355328) (hb0 : 0 < bytes) :
    ∃ g c W', (Builtin.append_ #[t, t] t #[v, .slice (some ⟨W.heap.size, 0, none⟩) 1 1]).run Tryz.prog (W.alloc (.cells cs.toArray e)) = .ok (.slice (some ⟨g, 0, none⟩) (n + 1) c) W' ∧ Sep w0 W' (rowV e s (.slice (some ⟨g, 0, none⟩) (n + 1) c) (n + 1) (xs ++ cs) :: l) := by
  obtain ⟨F, ⟨ho, rfl⟩, _, hu⟩ := h.use
  have hle : n + 1 ≤ 140737488355328 := Nat.le_trans (Nat.le_mul_of_pos_right _ hb0) hsz
  have hk := ho.kept (World.grownBy_alloc W (.cells cs.toArray e) none) (by cases v.ownBlock <;> simp)
  obtain ⟨v', w', r1, r2, r3, _, r5⟩ := run_append_own_at (P := Tryz.prog) (W.alloc (.cells cs.toArray e)) 0 t t e i z s bytes ht hi hz hs hby hzs hs0 v n xs hk ⟨W.heap.size, 0, none⟩ 1 1 cs (by omega) (fun j u hu => by
      rw [Addr.add_mid, Nat.zero_add]; exact (Has.newA W cs.toArray e).cellv j u (by simpa using hu)) h1 (by unfold maxLen; omega) hsz (Nat.zero_le _)
  obtain ⟨g, c, e1, _⟩ := own_any r2 (by omega)
  subst e1
  rw [heap1] at r5
  have gr := (World.grownBy_alloc W (.cells cs.toArray e) v.ownBlock).trans r3
  refine ⟨g, c, w', r1, hu w' [_] ((Fr.of gr).mono (fun i hi => .inl hi)) (Loc.one (a := rowV _ _ _ _ _) _ ⟨r2, rfl⟩ (fun i hi => ?_))⟩
  rcases r5 with q | q
  · exact .inl (by rw [← q]; exact hi)
  · rw [q] at hi
    injection hi with e
    exact .inr (by omega)
set_option maxRecDepth 100000 in
theorem own_set {lo : Nat} {W : World} {e : TypeId} {s g n c : Nat} {xs : List Value} (h : W.ownsRow lo e s (.slice (some ⟨g, 0, none⟩) n c) n xs) (k : Nat) (x : Value) : (W.setCell ⟨g, k, none⟩ x).ownsRow lo e s (.slice (some ⟨g, 0, none⟩) n c) n (xs.set k x) := by
  obtain ⟨h1, h2⟩ := h
  refine ⟨by rw [List.length_set]; exact h1, ?_⟩
  rcases h2 with ⟨h2, _⟩ | ⟨g', cap, cur, hv, hb, hheap, h3, h4, h5, h6⟩
  · cases h2
  · injection hv with e1 e2 e3
    cases e1
    refine .inr ⟨g, c, cur.setIfInBounds k x, rfl, hb, ?_, by omega, by omega, by rw [Array.size_setIfInBounds]; rw [h5, e3], ?_⟩
    · simp [World.setCell, Array.getElem?_modify, hheap]
    · rw [Array.toList_setIfInBounds, List.take_set, h6]
set_option maxRecDepth 100000 in
theorem Sep.rowSet {w0 W : World} {l : List As} {e : TypeId} {s g n c : Nat} {xs : List Value} (h : Sep w0 W (rowV e s (.slice (some ⟨g, 0, none⟩) n c) n xs :: l)) (k : Nat) (x : Value) : Sep w0 (W.setCell ⟨g, k, none⟩ x) (rowV e s (.slice (some ⟨g, 0, none⟩) n c) n (xs.set k x) :: l) := by
  obtain ⟨F, ⟨h1, rfl⟩, _, hu⟩ := h.use
  exact hu _ [_] (fr_set _ _ _ _ _ rfl) (Loc.one (a := rowV _ _ _ _ _) _ ⟨own_set h1 k x, rfl⟩ (fun i hi => .inl hi))
set_option maxRecDepth 100000 in
theorem Sep.boxPut {w0 W : World} {l : List As} {b : Nat} {cs : List Value} {t : TypeId} (h : Sep w0 W (boxA b cs t :: l)) (j : Nat) (v : Value) : Sep w0 (W.setCell ⟨b, j, none⟩ v) (boxA b (cs.set j v) t :: l) := by
  obtain ⟨F, ⟨h1, rfl⟩, _, hu⟩ := h.use
  exact hu _ [_] (fr_set _ _ _ _ _ rfl) (Loc.one (a := boxA _ _ _) _ ⟨h1.setCell j v, rfl⟩ (fun i hi => .inl hi))
set_option maxRecDepth 100000 in
theorem Sep.newBox {w0 W : World} {l : List As} (h : Sep w0 W l) (cs : Array Value) (t : TypeId) : Sep w0 (W.alloc (.cells cs t)) (boxA W.heap.size cs.toList t :: l) :=
  h.new (World.grownBy_alloc _ _ _) (Loc.one (a := boxA _ _ _) _ ⟨Has.newA W cs t, rfl⟩ (fun i hi => .inr (by rw [hi]; exact Nat.le_refl _)))
set_option maxRecDepth 100000 in
theorem fr1 {w0 W : World} (A : List As) {a : As} {B : List As} (h : Sep w0 W (A ++ a :: B)) : Sep w0 W (a :: (A ++ B)) := h.perm List.perm_middle
set_option maxRecDepth 100000 in
theorem bk1 {w0 W : World} (A : List As) {a : As} {B : List As} (h : Sep w0 W (a :: (A ++ B))) : Sep w0 W (A ++ a :: B) := h.perm List.perm_middle.symm
def pureA (p : Prop) : As := ⟨fun _ F => p ∧ F = fun _ => False, fun _ _ _ _ h _ _ => h, fun _ _ h i hi => by rw [h.2] at hi; exact hi.elim⟩
set_option maxRecDepth 100000 in
theorem Sep.fact {w0 W : World} {l : List As} {p : Prop} (h : Sep w0 W l) (hm : pureA p ∈ l) : p := by
  obtain ⟨F, q, _⟩ := h.get hm
  exact q
set_option maxRecDepth 100000 in
theorem Sep.know {w0 W : World} {l : List As} {p : Prop} (h : Sep w0 W l) (hp : p) : Sep w0 W (pureA p :: l) :=
  h.new (World.grownBy.refl _ _) (Loc.one (a := pureA p) (fun _ => False) ⟨hp, rfl⟩ (fun _ hi => hi.elim))
set_option maxRecDepth 100000 in
theorem own_slice {lo : Nat} {W : World} {e : TypeId} {s : Nat} {v : Value} {n : Nat} {xs : List Value} (h : W.ownsRow lo e s v n xs) : ∃ a c, v = .slice a n c := by
  obtain ⟨h1, h2⟩ := h
  rcases h2 with ⟨rfl, rfl⟩ | ⟨g, cap, cur, rfl, _⟩
  · exact ⟨_, _, rfl⟩
  · exact ⟨_, _, rfl⟩
set_option maxRecDepth 100000 in
theorem wp_append_run {P : Program} {o : Oper} {a : Act} {w : World} {K : Act → World → Prop} {Q : Exit → Act → World → Prop} (s x : Operand) (t : TypeId)
    (ho : o.op = .call { callee := .builtin .append, args := #[s, x], argTypes := #[t, t] }) (v u : Value) (hs : a.eval s = v) (hx : a.eval x = u) {v' : Value} {w' : World}
    (hr : (Builtin.append_ #[t, t] o.type #[v, u]).run P w = .ok v' w') (h : K (a.put o.dst v') w') : Oper.wp P o a w K Q := by
  unfold Oper.wp execOp
  simp only [ho, resolve, invoke, builtin, Sem.run_bind, Sem.run_pure, Result.andThen_ok, List.map_toArray, List.map_cons, List.map_nil, hs, hx, hr]
  exact h
set_option maxRecDepth 100000 in
theorem Has.one {W : World} {b : Nat} {v : Value} {cs : List Value} {t : TypeId} (h : Has W b (v :: cs) t) : W.cell? ⟨b, 0, none⟩ = some v := h.cellv 0 _ rfl

set_option maxRecDepth 100000 in
theorem wpList_append_run {P : Program} (w : World) {ops : Array Oper} {rest : List Oper} {o : Oper} {a : Act} {Q : Exit → Act → World → Prop}
    (hg : o.guard = none) (x y : Operand) (t : TypeId) (hop : o.op = Op.call { callee := Callee.builtin Builtin.append, args := #[x, y], argTypes := #[t, t] })
    (vx vy : Value) (hx : a.eval x = vx) (hy : a.eval y = vy) {v' : Value} {w' : World} (hrun : (Builtin.append_ #[t, t] o.type #[vx, vy]).run P w = .ok v' w')
    (hK : wpList P ops Q rest (a.put o.dst v') w') :
    wpList P ops Q (o :: rest) a w := by
  refine wpList_plain hg fun K' hK' => ?_
  unfold Oper.wp
  simp [execOp, hop, resolve, invoke, builtin, hx, hy, hrun, Result.andThen]
  exact hK' _ _ hK
set_option maxRecDepth 100000 in
theorem Sep.dropL {w0 W : World} {B l : List As} (h : Sep w0 W (B ++ l)) : Sep w0 W l := by
  induction B with
  | nil => exact h
  | cons a B ih => exact ih h.tail
set_option maxRecDepth 100000 in
theorem Sep.dropM {w0 W : World} (A B : List As) {l : List As} (h : Sep w0 W (A ++ (B ++ l))) : Sep w0 W (A ++ l) := by
  refine Sep.dropL (B := B) (h.perm ?_)
  rw [← List.append_assoc, ← List.append_assoc]
  exact List.perm_append_comm.append_right l
/-- a value of many cells is laid into a new block -/
theorem store_new {ops : Array Oper} {rest : List Oper} {op : Oper} {a : Act} {Q : Exit → Act → World → Prop} (w3 : World) (cs : List Value) (T : TypeId) {A : Array Value} (hgd : op.guard = none) {x y : Operand} (ho : op.op = .store T x y)
    (hx : a.eval x = .pointer (some ⟨w3.heap.size, 0, none⟩)) (hy : a.eval y = .agg cs.toArray) (hA : A.size = cs.length) (hi : (Tryz.prog.info? T).map (·.size) = some cs.length) (h1 : ∀ v ∈ cs, v.oneCell' = true)
    (h : ∀ w6, (∀ w0 l, Sep w0 w3 l → Sep w0 w6 (boxA w3.heap.size cs T :: l)) → w3.grownBy w6 none → wpList Tryz.prog ops Q rest (a.put op.dst undef) w6) : wpList Tryz.prog ops Q (op :: rest) a (w3.alloc (.cells A T)) := by
  have e : A.toList.length = cs.length := by rw [Array.length_toList]; exact hA
  have hn := Has.newA w3 A T
  have hg : w3.grownBy ((w3.alloc (.cells A T)).setCells w3.heap.size 0 cs.toArray.toList) none := gr_new (World.grownBy_alloc _ _ _) (gr_sets _ _ _ _) (Nat.le_refl _)
  refine wpList_store_mid hgd T x y ho w3.heap.size 0 cs.toArray hx hy (hn.there 0 cs.toArray.size (by rw [e, List.size_toArray]; omega)) (by rw [List.size_toArray]; exact hi) (all_oneCell_toArray h1) ?_
  refine h _ (fun w0 l hS => hS.new hg (Loc.one (a := boxA _ _ _) _ ⟨hn.setAll cs e.symm, rfl⟩ (fun i hi => .inr (by rw [hi]; exact Nat.le_refl _)))) hg
end Go.Proofs.YtgedlabmndlooaaGreat
