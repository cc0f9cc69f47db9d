/- Blocks whose cells are all known, and what is left alone. -/
import Derived.Test.YtfhhneibdmjfgaaProg
import Derived.WalkKit
import Derived.WalkSpells
import Derived.WalkLawsBesides
import Derived.BigQuiet
import Derived.Deep.QuietTactic
import Derived.Laws.BitsAllLaws
import Derived.Deep.MidRow
import Derived.Deep.WholeRow
import Derived.Lib.SliceRun
namespace Go.Proofs.Ytfhhneibdmjfgaa
open Go Go.RowKit

/-- A fact that no tactic looks into. -/
structure Keep (p : Prop) : Prop where
  out : p

abbrev iv (x : Int) : Value := .int .i64 x

def Has (w : World) (b : Nat) (cs : List Value) (t : TypeId) : Prop := w.heap[b]? = some (.cells cs.toArray t (0, 0))

set_option maxRecDepth 100000 in
theorem Has.lt {w : World} {b : Nat} {cs : List Value} {t : TypeId} (h : Has w b cs t) : b < w.heap.size := by
  unfold Has at h
  exact (Array.getElem?_eq_some_iff.1 h).1
set_option maxRecDepth 100000 in
theorem Has.cell {w : World} {b : Nat} {cs : List Value} {t : TypeId} (h : Has w b cs t) (j : Nat) : w.cell? ⟨b, j, none⟩ = cs[j]? := by
  unfold Has at h
  simp [World.cell?, h]
set_option maxRecDepth 100000 in
theorem Has.cellv {w : World} {b : Nat} {cs : List Value} {t : TypeId} (h : Has w b cs t) (j : Nat) (v : Value) (hv : cs[j]? = some v) : w.cell? ⟨b, j, none⟩ = some v := by
  rw [h.cell, hv]
set_option maxRecDepth 100000 in
theorem Has.frozen {w : World} {b : Nat} {cs : List Value} {t : TypeId} (h : Has w b cs t) (j : Nat) : w.frozen? ⟨b, j, none⟩ = false := by
  unfold Has at h
  simp [World.frozen?, h]
set_option maxRecDepth 100000 in
theorem Has.setCell {w : World} {b : Nat} {cs : List Value} {t : TypeId} (h : Has w b cs t) (j : Nat) (v : Value) : Has (w.setCell ⟨b, j, none⟩ v) b (cs.set j v) t := by
  unfold Has at h ⊢
  simp [World.setCell, Array.getElem?_modify, h]
set_option maxRecDepth 100000 in
theorem Has.other {w : World} {b : Nat} {cs : List Value} {t : TypeId} (h : Has w b cs t) (a : Addr) (v : Value) (hne : a.block ≠ b) : Has (w.setCell a v) b cs t := by
  unfold Has at h ⊢
  simp [World.setCell, Array.getElem?_modify, h, hne]
set_option maxRecDepth 100000 in
theorem Has.alloc {w : World} {b : Nat} {cs : List Value} {t : TypeId} (h : Has w b cs t) (o : Obj) : Has (w.alloc o) b cs t := by
  have := h.lt
  unfold Has at h ⊢
  show (w.heap.push o)[b]? = _
  rw [Array.getElem?_push, if_neg (by omega), h]
set_option maxRecDepth 100000 in
theorem Has.drewN {w : World} {b : Nat} {cs : List Value} {t : TypeId} (h : Has w b cs t) (n : Nat) : Has (w.drewN n) b cs t := h
set_option maxRecDepth 100000 in
theorem Has.kept {w w' : World} {b : Nat} {cs : List Value} {t : TypeId} {row : Option Nat} (h : Has w b cs t) (hg : w.grownBy w' row) (hne : some b ≠ row) : Has w' b cs t := by
  unfold Has at h ⊢
  rw [hg.block b (show b < w.heap.size from Has.lt (t := t) (cs := cs) h) hne, h]
set_option maxRecDepth 100000 in
theorem Has.new (w : World) (cs : List Value) (t : TypeId) : Has (w.alloc (.cells cs.toArray t)) w.heap.size cs t := by
  unfold Has
  exact heap_alloc_last w _
set_option maxRecDepth 100000 in
theorem Has.newA (w : World) (cs : Array Value) (t : TypeId) : Has (w.alloc (.cells cs t)) w.heap.size cs.toList t := by
  unfold Has
  exact heap_alloc_last w _

/-- vs laid over cs from o on -/
def over (cs : List Value) : Nat → List Value → List Value
  | _, [] => cs
  | o, v :: r => over (cs.set o v) (o + 1) r
set_option maxRecDepth 100000 in
theorem over_eq : ∀ (vs : List Value) (cs : List Value) (o : Nat), o + vs.length ≤ cs.length → over cs o vs = cs.take o ++ vs ++ cs.drop (o + vs.length)
  | [], cs, o, _ => by simp [over]
  | v :: r, cs, o, h => by
    simp at h
    rw [over, over_eq r _ _ (by simp; omega)]
    apply List.ext_getElem?
    intro i
    simp only [List.getElem?_append, List.getElem?_take, List.getElem?_drop, List.length_take, List.length_set, List.length_append, List.length_cons, List.getElem?_set, List.getElem?_cons]
    by_cases h1 : i < o
    · simp [show i < o + 1 by omega, h1, show ¬ o = i by omega, show i < min (o + 1) cs.length by omega, show i < min o cs.length by omega, show i < min (o + 1) cs.length + r.length by omega, show i < min o cs.length + (r.length + 1) by omega]
    · by_cases h2 : i = o
      · subst h2
        simp [show i < min (i + 1) cs.length by omega, show i < min (i + 1) cs.length + r.length by omega, show ¬ i < min i cs.length by omega, show i < min i cs.length + (r.length + 1) by omega, show i - min i cs.length = 0 by omega, show i < cs.length by omega]
      · by_cases h3 : i < o + 1 + r.length
        · simp [show ¬ i < min (o + 1) cs.length by omega, show i < min (o + 1) cs.length + r.length by omega, show ¬ i < min o cs.length by omega, show i < min o cs.length + (r.length + 1) by omega, show ¬ i - min o cs.length = 0 by omega]
          congr 1
          omega
        · simp [show ¬ i < min (o + 1) cs.length + r.length by omega, show ¬ i < min o cs.length + (r.length + 1) by omega, show ¬ o = o + 1 + r.length + (i - (min (o + 1) cs.length + r.length)) by omega]
          congr 1
          omega
set_option maxRecDepth 100000 in
theorem Has.setCells {t : TypeId} {b : Nat} : ∀ (vs : List Value) {w : World} {cs : List Value} (o : Nat), Has w b cs t → Has (w.setCells b o vs) b (over cs o vs) t
  | [], _, _, _, h => h
  | v :: r, _, _, o, h => Has.setCells r (o + 1) (h.setCell o v)
set_option maxRecDepth 100000 in
theorem Has.there {w : World} {b : Nat} {cs : List Value} {t : TypeId} (h : Has w b cs t) (o n : Nat) (hn : o + n ≤ cs.length) : w.there b o n := fun j hj => by
  refine ⟨?_, h.frozen _⟩
  rw [h.cell, List.getElem?_eq_getElem (by omega)]; rfl
set_option maxRecDepth 100000 in
theorem Has.rangeAt {w : World} {b : Nat} {cs : List Value} {t : TypeId} (h : Has w b cs t) (o n : Nat) : w.rangeAt b o ((cs.drop o).take n) := fun j v hv => by
  rw [h.cell]
  rw [List.getElem?_take] at hv
  split at hv
  · rw [List.getElem?_drop] at hv; exact hv
  · cases hv

set_option maxRecDepth 100000 in
theorem Has.range {w : World} {b : Nat} {cs : List Value} {t : TypeId} (h : Has w b cs t) : w.rangeAt b 0 cs := fun j v hv => by
  rw [h.cell, Nat.zero_add]; exact hv
set_option maxRecDepth 100000 in
theorem Has.rangeMid {w : World} {b : Nat} {cs : List Value} {t : TypeId} (h : Has w b cs t) (o : Nat) (a m c : List Value) (hc : cs = a ++ m ++ c) (ha : a.length = o) : w.rangeAt b o m := fun j v hv => by
  subst hc
  have hj : j < m.length := (List.getElem?_eq_some_iff.1 hv).1
  rw [h.cell, List.getElem?_append_left (by simp; omega), List.getElem?_append_right (by omega)]
  rw [← hv]; congr 1; omega
/-- all cells of a block stored at once -/
theorem Has.setAll {w : World} {b : Nat} {cs : List Value} {t : TypeId} (h : Has w b cs t) (vs : List Value) (hl : vs.length = cs.length) : Has (w.setCells b 0 vs) b vs t := by
  have := h.setCells vs 0
  rw [over_eq _ _ _ (by omega)] at this
  simpa [hl] using this

set_option maxRecDepth 100000 in
theorem results_cell {fn : Func} {p : Tmp} {ty : TypeId} (h : fn.results = #[.cell p ty]) (tmps : Array Value) (P : Program) (w : World) :
    (results fn tmps).run P w = ((asAddr (tmps.getD p undef)).run P w).andThen fun a w₁ => (loadVar ty a).run P w₁ := by
  simp only [results, h]
  simp [Sem.run_bind, Result.andThen]
set_option maxRecDepth 100000 in
theorem ret_cell {P : Program} {fn : Func} {R : Ending → World → Prop} {a : Act} {w : World} {p : Tmp} {ty t : TypeId} {b : Nat} {cs : List Value} {d : TypeDesc}
    (hr : fn.results = #[.cell p ty]) (hp : a.tmps.getD p undef = .pointer (some ⟨b, 0, none⟩)) (hh : Has w b cs t) (hu : P.underlying ty = some d) (hd : d.isRow = true)
    (hi : (P.info? ty).map (·.size) = some cs.length) (hdf : a.defers = []) (h : R (.returned (.agg cs.toArray)) w) : bodyPost P fn R .ret a w := by
  refine bodyPost_ret (v := .agg cs.toArray) ?_ hdf h
  rw [results_cell hr, hp]
  simp [asAddr, Result.andThen, run_loadVar_mid w b 0 ty cs d hh.range hu hd hi]

set_option maxRecDepth 100000 in
theorem gr_set (w : World) (b j : Nat) (v : Value) : w.grownBy (w.setCell ⟨b, j, none⟩ v) (some b) :=
  ⟨rfl, rfl, rfl, by simp [World.setCell], fun k _ hne => by
    simp only [World.setCell, Array.getElem?_modify]
    rw [if_neg (fun e => hne (by rw [e]))]⟩
set_option maxRecDepth 100000 in
theorem gr_sets (b : Nat) : ∀ (vs : List Value) (w : World) (o : Nat), w.grownBy (w.setCells b o vs) (some b)
  | [], w, _ => World.grownBy.refl w _
  | v :: r, w, o => (gr_set w b o v).trans (gr_sets b r _ (o + 1))
set_option maxRecDepth 100000 in
theorem gr_drewN (w : World) (n : Nat) (row : Option Nat) : w.grownBy (w.drewN n) row := ⟨rfl, rfl, rfl, Nat.le_refl _, fun _ _ _ => rfl⟩
/-- writing into what is new is writing into nothing old -/
theorem gr_new {w w1 w2 : World} {row : Option Nat} {b : Nat} (h : w.grownBy w1 row) (k : w1.grownBy w2 (some b)) (hb : w.heap.size ≤ b) : w.grownBy w2 row :=
  ⟨k.os.trans h.os, k.tape.trans h.tape, k.output.trans h.output, Nat.le_trans h.size k.size, fun i hi hne => by
    rw [k.block i (by have := h.size; omega) (by intro e; cases e; omega), h.block i hi hne]⟩


set_option maxRecDepth 100000 in
theorem gr_drew (w : World) (row : Option Nat) : w.grownBy w.drew row := ⟨rfl, rfl, rfl, Nat.le_refl _, fun _ _ _ => rfl⟩

/-- Nothing but the blocks of S has turned, and new ones have come. -/
structure Fr (S : Nat → Prop) (w w' : World) : Prop where
  os : w'.os = w.os
  tape : w'.tape = w.tape
  output : w'.output = w.output
  size : w.heap.size ≤ w'.heap.size
  block : ∀ i, i < w.heap.size → ¬ S i → w'.heap[i]? = w.heap[i]?
set_option maxRecDepth 100000 in
theorem Fr.refl (S : Nat → Prop) (w : World) : Fr S w w := ⟨rfl, rfl, rfl, Nat.le_refl _, fun _ _ _ => rfl⟩
set_option maxRecDepth 100000 in
theorem Fr.trans {S : Nat → Prop} {a b c : World} (h : Fr S a b) (k : Fr S b c) : Fr S a c :=
  ⟨k.os.trans h.os, k.tape.trans h.tape, k.output.trans h.output, Nat.le_trans h.size k.size, fun i hi hs => (k.block i (by have := h.size; omega) hs).trans (h.block i hi hs)⟩
/-- what is turned next is of S, or new -/
theorem Fr.then {S S' : Nat → Prop} {a b c : World} (h : Fr S a b) (k : Fr S' b c) (hs : ∀ i, S' i → S i ∨ a.heap.size ≤ i) : Fr S a c :=
  ⟨k.os.trans h.os, k.tape.trans h.tape, k.output.trans h.output, Nat.le_trans h.size k.size, fun i hi hn => (k.block i (by have := h.size; omega) (fun e => by rcases hs i e with q | q; exact hn q; omega)).trans (h.block i hi hn)⟩
set_option maxRecDepth 100000 in
theorem Fr.mono {S S' : Nat → Prop} {a b : World} (h : Fr S a b) (hs : ∀ i, S i → S' i ∨ a.heap.size ≤ i) : Fr S' a b := (Fr.refl S' a).then h hs
set_option maxRecDepth 100000 in
theorem Fr.of {w w' : World} {row : Option Nat} (h : w.grownBy w' row) : Fr (fun i => row = some i) w w' :=
  ⟨h.os, h.tape, h.output, h.size, fun i hi hs => h.block i hi (fun e => hs e.symm)⟩
set_option maxRecDepth 100000 in
theorem Fr.ofNone {S : Nat → Prop} {w w' : World} (h : w.grownBy w' none) : Fr S w w' := (Fr.of h).mono (fun i e => by cases e)
set_option maxRecDepth 100000 in
theorem Fr.ofSome {S : Nat → Prop} {w w' : World} {b : Nat} (h : w.grownBy w' (some b)) (hb : S b) : Fr S w w' := (Fr.of h).mono (fun i e => by cases e; exact .inl hb)
set_option maxRecDepth 100000 in
theorem Fr.none {S : Nat → Prop} {w w' : World} (h : Fr S w w') (hs : ∀ i, S i → w.heap.size ≤ i) : w.grownBy w' none :=
  ⟨h.os, h.tape, h.output, h.size, fun i hi _ => h.block i hi (fun e => by have := hs i e; omega)⟩
set_option maxRecDepth 100000 in
theorem Has.fr {S : Nat → Prop} {w w' : World} {b : Nat} {cs : List Value} {t : TypeId} (h : Has w b cs t) (hf : Fr S w w') (hs : ¬ S b) : Has w' b cs t := by
  have := h.lt
  unfold Has at h ⊢
  rw [hf.block b this hs, h]
end Go.Proofs.Ytfhhneibdmjfgaa
