import Derived.KernelRfl
import Derived.Test.YtldnpebnpbahjaaGreatDoorProg
import Derived.WalkKit
import Derived.WalkSpells
import Derived.WalkLawsBesides
import Derived.BigQuiet
import Derived.Deep.QuietTactic
import Derived.Laws.BitsAllLaws
import Derived.Deep.MidRow
import Derived.Deep.WholeRow
import Derived.Lib.SliceRun
import Derived.Laws.ShiftsVarLaws
import Derived.Lib.ConvBytes
import Derived.Maps.AppendAt
import Derived.Laws.EntriesVeiled
import Derived.Lib.AppendStr
import Derived.Deep.DeepAppendWide
namespace Go.Proofs.YtldnpebnpbahjaaGreatDoor.Pk

/-- a number in so many bytes, the highest first -/
def be : Nat → Nat → List UInt8
  | 0, _ => []
  | k + 1, x => UInt8.ofNat (x / 256 ^ k) :: be k x
set_option maxRecDepth 100000 in
theorem be_len : ∀ (k x : Nat), (be k x).length = k
  | 0, _ => rfl
  | k + 1, x => by rw [be, List.length_cons, be_len k x]
/-- the number that bytes are -/
def val : List UInt8 → Nat
  | [] => 0
  | b :: r => b.toNat * 256 ^ r.length + val r
set_option maxRecDepth 100000 in
theorem val_lt : ∀ l : List UInt8, val l < 256 ^ l.length
  | [] => by simp [val]
  | b :: r => by
    have h := val_lt r
    have hb : b.toNat < 256 := b.toNat_lt
    rw [val, List.length_cons, Nat.pow_succ]
    have : (b.toNat + 1) * 256 ^ r.length ≤ 256 * 256 ^ r.length := Nat.mul_le_mul_right _ (by omega)
    rw [Nat.add_mul, Nat.one_mul] at this
    rw [Nat.mul_comm (256 ^ r.length)]
    omega
set_option maxRecDepth 100000 in
theorem val_snoc (l : List UInt8) (b : UInt8) : val (l ++ [b]) = val l * 256 + b.toNat := by
  induction l with
  | nil => simp [val]
  | cons a r ih =>
    rw [List.cons_append, val, val, ih, List.length_append, List.length_singleton, Nat.pow_succ, Nat.add_mul, Nat.add_assoc, Nat.mul_assoc]
set_option maxRecDepth 100000 in
theorem val_be : ∀ k x : Nat, val (be k x) = x % 256 ^ k
  | 0, x => by simp [be, val, Nat.mod_one]
  | k + 1, x => by
    rw [be, val, val_be k x, be_len, UInt8.toNat_ofNat']
    show x / 256 ^ k % 2 ^ 8 * 256 ^ k + x % 256 ^ k = _
    have e : (2 : Nat) ^ 8 = 256 := by decide
    rw [e, Nat.pow_succ, Nat.mod_mul, Nat.mul_comm (256 ^ k) (x / 256 ^ k % 256)]
    exact Nat.add_comm _ _
set_option maxRecDepth 100000 in
theorem be_mod : ∀ k x y : Nat, k ≤ y → be k (x % 256 ^ y) = be k x
  | 0, _, _, _ => rfl
  | k + 1, x, y, h => by
    rw [be, be, be_mod k x y (by omega)]
    congr 1
    apply UInt8.toNat_inj.1
    rw [UInt8.toNat_ofNat', UInt8.toNat_ofNat']
    show x % 256 ^ y / 256 ^ k % 256 = x / 256 ^ k % 256
    obtain ⟨d, rfl⟩ : ∃ d, y = k + 1 + d := ⟨y - (k + 1), by omega⟩
    rw [Nat.pow_add, Nat.pow_succ, Nat.mul_assoc, Nat.mod_mul_right_div_self, Nat.mod_mul_right_mod]
set_option maxRecDepth 100000 in
theorem be_val : ∀ l : List UInt8, be l.length (val l) = l
  | [] => rfl
  | b :: r => by
    rw [List.length_cons, be, val]
    have h := val_lt r
    have hp : 0 < 256 ^ r.length := Nat.pos_of_ne_zero (by simp)
    have e1 : (b.toNat * 256 ^ r.length + val r) / 256 ^ r.length = b.toNat := by
      rw [Nat.mul_comm, Nat.mul_add_div hp, Nat.div_eq_of_lt h, Nat.add_zero]
    have e2 : (b.toNat * 256 ^ r.length + val r) % 256 ^ r.length = val r := by
      rw [Nat.mul_comm, Nat.mul_add_mod, Nat.mod_eq_of_lt h]
    have e3 := be_mod r.length (b.toNat * 256 ^ r.length + val r) r.length (Nat.le_refl _)
    rw [e2, be_val r] at e3
    rw [e1, ← e3]
    congr 1
    simp
/-- with its sign -/
def sval (l : List UInt8) : Int := if 2 * val l < 256 ^ l.length then (val l : Int) else (val l : Int) - (256 ^ l.length : Nat)
/-- an int's bits -/
def u64 (x : Int) : Nat := (x % 18446744073709551616).toNat
set_option maxRecDepth 100000 in
theorem u64_lt (x : Int) : u64 x < 18446744073709551616 := by unfold u64; omega

/-- what a Writer has: none behind an error -/
abbrev WS := Option (List UInt8)
def sized (size : Int) : Prop := 1 ≤ size ∧ size ≤ 8
instance (size : Int) : Decidable (sized size) := by unfold sized; infer_instance
def fitsU (x : Nat) (size : Int) : Prop := sized size ∧ x < 256 ^ size.toNat
instance (x : Nat) (size : Int) : Decidable (fitsU x size) := by unfold fitsU; infer_instance
def fitsS (x : Int) (size : Int) : Prop := sized size ∧ -(256 ^ size.toNat : Nat) ≤ 2 * x ∧ 2 * x < (256 ^ size.toNat : Nat)
instance (x : Int) (size : Int) : Decidable (fitsS x size) := by unfold fitsS; infer_instance
def wNum (st : WS) (x : Nat) (size : Int) : WS := if fitsU x size then st.map (· ++ be size.toNat x) else none
def wSig (st : WS) (x : Int) (size : Int) : WS := if fitsS x size then st.map (· ++ be size.toNat (u64 x)) else none
def wBytes (st : WS) (s : List UInt8) : WS := st.map (· ++ s)
def wText (st : WS) (s : List UInt8) : WS := if s.length ≤ 255 then st.map (· ++ UInt8.ofNat s.length :: s) else none
set_option maxRecDepth 100000 in
theorem wText_eq (st : WS) (s : List UInt8) : wBytes (wNum st s.length 1) s = wText st s := by
  unfold wText wNum wBytes
  by_cases h : s.length ≤ 255
  · have hf : fitsU s.length 1 := ⟨⟨by omega, by omega⟩, by show s.length < 256 ^ 1; omega⟩
    rw [if_pos h, if_pos hf]
    cases st with
    | none => rfl
    | some l => simp [be]
  · have hf : ¬ fitsU s.length 1 := fun q => by have : s.length < 256 ^ 1 := q.2; omega
    rw [if_neg h, if_neg hf]; rfl

/-- what a Reader has: what is left, the first error -/
abbrev RS := List UInt8 × Int
def RS.fail (st : RS) (e : Int) : RS := ([], if st.2 = 0 then e else st.2)
def rTake (st : RS) (n : Int) : List UInt8 × RS := if n < 0 then ([], st.fail 51) else if (st.1.length : Int) < n then ([], st.fail 50) else (st.1.take n.toNat, (st.1.drop n.toNat, st.2))
def rNumL (st : RS) (size : Int) : List UInt8 × RS := if sized size then rTake st size else ([], st.fail 51)
def rNum (st : RS) (size : Int) : Nat × RS := (val (rNumL st size).1, (rNumL st size).2)
def rSig (st : RS) (size : Int) : Int × RS := (sval (rNumL st size).1, (rNumL st size).2)
def rText (st : RS) : List UInt8 × RS := rTake (rNum st 1).2 (rNum st 1).1
def rDone (st : RS) : Int := if 0 < st.1.length then 51 else st.2
def RS.ok (st : RS) : Prop := st.2 ≠ 0 → st.1 = []
set_option maxRecDepth 100000 in
theorem rTake_len (st : RS) (n : Int) : (rTake st n).1.length = 0 ∨ ((rTake st n).1.length : Int) = n := by
  unfold rTake
  split
  · exact .inl rfl
  · split
    · exact .inl rfl
    · right; simp; omega
set_option maxRecDepth 100000 in
theorem fail_ok (st : RS) (e : Int) : (st.fail e).ok := fun _ => rfl
set_option maxRecDepth 100000 in
theorem rTake_ok {st : RS} (h : st.ok) (n : Int) : (rTake st n).2.ok := by
  unfold rTake
  split
  · exact fail_ok _ _
  · split
    · exact fail_ok _ _
    · intro e; have := h e; simp [this]
set_option maxRecDepth 100000 in
theorem rNumL_ok {st : RS} (h : st.ok) (n : Int) : (rNumL st n).2.ok := by
  unfold rNumL
  split
  · exact rTake_ok h n
  · exact fail_ok _ _
end Go.Proofs.YtldnpebnpbahjaaGreatDoor.Pk

namespace Go.Proofs.YtldnpebnpbahjaaGreatDoor.Pk
open Go Go.RowKit

/-- A fact that no tactic looks into. -/
structure Keep (p : Prop) : Prop where
  out : p

abbrev iv (x : Int) : Value := .int .i64 x

def Has (w : World) (b : Nat) (cs : List Value) (t : TypeId) : Prop := w.heap[b]? = some (.cells cs.toArray t (0, 0))

set_option maxRecDepth 100000 in
theorem Has.lt {w : World} {b : Nat} {cs : List Value} {t : TypeId} (h : Has w b cs t) : b < w.heap.size := by
  unfold Has at h
  exact (Array.getElem?_eq_some_iff.1 h).1
set_option maxRecDepth 100000 in
theorem Has.cell {w : World} {b : Nat} {cs : List Value} {t : TypeId} (h : Has w b cs t) (j : Nat) : w.cell? ⟨b, j, none⟩ = cs[j]? := by
  unfold Has at h
  simp [World.cell?, h]
set_option maxRecDepth 100000 in
theorem Has.cellv {w : World} {b : Nat} {cs : List Value} {t : TypeId} (h : Has w b cs t) (j : Nat) (v : Value) (hv : cs[j]? = some v) : w.cell? ⟨b, j, none⟩ = some v := by
  rw [h.cell, hv]
set_option maxRecDepth 100000 in
theorem Has.frozen {w : World} {b : Nat} {cs : List Value} {t : TypeId} (h : Has w b cs t) (j : Nat) : w.frozen? ⟨b, j, none⟩ = false := by
  unfold Has at h
  simp [World.frozen?, h]
set_option maxRecDepth 100000 in
theorem Has.setCell {w : World} {b : Nat} {cs : List Value} {t : TypeId} (h : Has w b cs t) (j : Nat) (v : Value) : Has (w.setCell ⟨b, j, none⟩ v) b (cs.set j v) t := by
  unfold Has at h ⊢
  simp [World.setCell, Array.getElem?_modify, h]
set_option maxRecDepth 100000 in
theorem Has.other {w : World} {b : Nat} {cs : List Value} {t : TypeId} (h : Has w b cs t) (a : Addr) (v : Value) (hne : a.block ≠ b) : Has (w.setCell a v) b cs t := by
  unfold Has at h ⊢
  simp [World.setCell, Array.getElem?_modify, h, hne]
set_option maxRecDepth 100000 in
theorem Has.alloc {w : World} {b : Nat} {cs : List Value} {t : TypeId} (h : Has w b cs t) (o : Obj) : Has (w.alloc o) b cs t := by
  have := h.lt
  unfold Has at h ⊢
  show (w.heap.push o)[b]? = _
  rw [Array.getElem?_push, if_neg (by omega), h]
set_option maxRecDepth 100000 in
theorem Has.drewN {w : World} {b : Nat} {cs : List Value} {t : TypeId} (h : Has w b cs t) (n : Nat) : Has (w.drewN n) b cs t := h
set_option maxRecDepth 100000 in
theorem Has.kept {w w' : World} {b : Nat} {cs : List Value} {t : TypeId} {row : Option Nat} (h : Has w b cs t) (hg : w.grownBy w' row) (hne : some b ≠ row) : Has w' b cs t := by
  unfold Has at h ⊢
  rw [hg.block b (show b < w.heap.size from Has.lt (t := t) (cs := cs) h) hne, h]
set_option maxRecDepth 100000 in
theorem Has.new (w : World) (cs : List Value) (t : TypeId) : Has (w.alloc (.cells cs.toArray t)) w.heap.size cs t := by
  unfold Has
  exact heap_alloc_last w _
set_option maxRecDepth 100000 in
theorem Has.newA (w : World) (cs : Array Value) (t : TypeId) : Has (w.alloc (.cells cs t)) w.heap.size cs.toList t := by
  unfold Has
  exact heap_alloc_last w _

/-- vs laid over cs from o on -/
def over (cs : List Value) : Nat → List Value → List Value
  | _, [] => cs
  | o, v :: r => over (cs.set o v) (o + 1) r
set_option maxRecDepth 100000 in
theorem over_eq : ∀ (vs : List Value) (cs : List Value) (o : Nat), o + vs.length ≤ cs.length → over cs o vs = cs.take o ++ vs ++ cs.drop (o + vs.length)
  | [], cs, o, _ => by simp [over]
  | v :: r, cs, o, h => by
    simp at h
    rw [over, over_eq r _ _ (by simp; omega)]
    apply List.ext_getElem?
    intro i
    simp only [List.getElem?_append, List.getElem?_take, List.getElem?_drop, List.length_take, List.length_set, List.length_append, List.length_cons, List.getElem?_set, List.getElem?_cons]
    by_cases h1 : i < o
    · simp [show i < o + 1 by omega, h1, show ¬ o = i by omega, show i < min (o + 1) cs.length by omega, show i < min o cs.length by omega, show i < min (o + 1) cs.length + r.length by omega, show i < min o cs.length + (r.length + 1) by omega]
    · by_cases h2 : i = o
      · subst h2
        simp [show i < min (i + 1) cs.length by omega, show i < min (i + 1) cs.length + r.length by omega, show ¬ i < min i cs.length by omega, show i < min i cs.length + (r.length + 1) by omega, show i - min i cs.length = 0 by omega, show i < cs.length by omega]
      · by_cases h3 : i < o + 1 + r.length
        · simp [show ¬ i < min (o + 1) cs.length by omega, show i < min (o + 1) cs.length + r.length by omega, show ¬ i < min o cs.length by omega, show i < min o cs.length + (r.length + 1) by omega, show ¬ i - min o cs.length = 0 by omega]
          congr 1
          omega
        · simp [show ¬ i < min (o + 1) cs.length + r.length by omega, show ¬ i < min o cs.length + (r.length + 1) by omega, show ¬ o = o + 1 + r.length + (i - (min (o + 1) cs.length + r.length)) by omega]
          congr 1
          omega
set_option maxRecDepth 100000 in
theorem Has.setCells {t : TypeId} {b : Nat} : ∀ (vs : List Value) {w : World} {cs : List Value} (o : Nat), Has w b cs t → Has (w.setCells b o vs) b (over cs o vs) t
  | [], _, _, _, h => h
  | v :: r, _, _, o, h => Has.setCells r (o + 1) (h.setCell o v)
set_option maxRecDepth 100000 in
theorem Has.there {w : World} {b : Nat} {cs : List Value} {t : TypeId} (h : Has w b cs t) (o n : Nat) (hn : o + n ≤ cs.length) : w.there b o n := fun j hj => by
  refine ⟨?_, h.frozen _⟩
  rw [h.cell, List.getElem?_eq_getElem (by omega)]; rfl
set_option maxRecDepth 100000 in
theorem Has.rangeAt {w : World} {b : Nat} {cs : List Value} {t : TypeId} (h : Has w b cs t) (o n : Nat) : w.rangeAt b o ((cs.drop o).take n) := fun j v hv => by
  rw [h.cell]
  rw [List.getElem?_take] at hv
  split at hv
  · rw [List.getElem?_drop] at hv; exact hv
  · cases hv

set_option maxRecDepth 100000 in
theorem Has.range {w : World} {b : Nat} {cs : List Value} {t : TypeId} (h : Has w b cs t) : w.rangeAt b 0 cs := fun j v hv => by
  rw [h.cell, Nat.zero_add]; exact hv
set_option maxRecDepth 100000 in
theorem Has.rangeMid {w : World} {b : Nat} {cs : List Value} {t : TypeId} (h : Has w b cs t) (o : Nat) (a m c : List Value) (hc : cs = a ++ m ++ c) (ha : a.length = o) : w.rangeAt b o m := fun j v hv => by
  subst hc
  have hj : j < m.length := (List.getElem?_eq_some_iff.1 hv).1
  rw [h.cell, List.getElem?_append_left (by simp; omega), List.getElem?_append_right (by omega)]
  rw [← hv]; congr 1; omega
/-- all cells of a block stored at once -/
theorem Has.setAll {w : World} {b : Nat} {cs : List Value} {t : TypeId} (h : Has w b cs t) (vs : List Value) (hl : vs.length = cs.length) : Has (w.setCells b 0 vs) b vs t := by
  have := h.setCells vs 0
  rw [over_eq _ _ _ (by omega)] at this
  simpa [hl] using this

set_option maxRecDepth 100000 in
theorem results_cell {fn : Func} {p : Tmp} {ty : TypeId} (h : fn.results = #[.cell p ty]) (tmps : Array Value) (P : Program) (w : World) :
    (results fn tmps).run P w = ((asAddr (tmps.getD p undef)).run P w).andThen fun a w₁ => (loadVar ty a).run P w₁ := by
  simp only [results, h]
  simp [Sem.run_bind, Result.andThen]
set_option maxRecDepth 100000 in
theorem ret_cell {P : Program} {fn : Func} {R : Ending → World → Prop} {a : Act} {w : World} {p : Tmp} {ty t : TypeId} {b : Nat} {cs : List Value} {d : TypeDesc}
    (hr : fn.results = #[.cell p ty]) (hp : a.tmps.getD p undef = .pointer (some ⟨b, 0, none⟩)) (hh : Has w b cs t) (hu : P.underlying ty = some d) (hd : d.isRow = true)
    (hi : (P.info? ty).map (·.size) = some cs.length) (hdf : a.defers = []) (h : R (.returned (.agg cs.toArray)) w) : bodyPost P fn R .ret a w := by
  refine bodyPost_ret (v := .agg cs.toArray) ?_ hdf h
  rw [results_cell hr, hp]
  simp [asAddr, Result.andThen, run_loadVar_mid w b 0 ty cs d hh.range hu hd hi]

set_option maxRecDepth 100000 in
theorem gr_set (w : World) (b j : Nat) (v : Value) : w.grownBy (w.setCell ⟨b, j, none⟩ v) (some b) :=
  ⟨rfl, rfl, rfl, by simp [World.setCell], fun k _ hne => by
    simp only [World.setCell, Array.getElem?_modify]
    rw [if_neg (fun e => hne (by rw [e]))]⟩
set_option maxRecDepth 100000 in
theorem gr_sets (b : Nat) : ∀ (vs : List Value) (w : World) (o : Nat), w.grownBy (w.setCells b o vs) (some b)
  | [], w, _ => World.grownBy.refl w _
  | v :: r, w, o => (gr_set w b o v).trans (gr_sets b r _ (o + 1))
set_option maxRecDepth 100000 in
theorem gr_drewN (w : World) (n : Nat) (row : Option Nat) : w.grownBy (w.drewN n) row := ⟨rfl, rfl, rfl, Nat.le_refl _, fun _ _ _ => rfl⟩
/-- writing into what is new is writing into nothing old -/
theorem gr_new {w w1 w2 : World} {row : Option Nat} {b : Nat} (h : w.grownBy w1 row) (k : w1.grownBy w2 (some b)) (hb : w.heap.size ≤ b) : w.grownBy w2 row :=
  ⟨k.os.trans h.os, k.tape.trans h.tape, k.output.trans h.output, Nat.le_trans h.size k.size, fun i hi hne => by
    rw [k.block i (by have := h.size; omega) (by intro e; cases e; omega), h.block i hi hne]⟩


set_option maxRecDepth 100000 in
theorem gr_drew (w : World) (row : Option Nat) : w.grownBy w.drew row := ⟨rfl, rfl, rfl, Nat.le_refl _, fun _ _ _ => rfl⟩

/-- Nothing but the blocks of S has turned, and new ones have come. -/
structure Fr (S : Nat → Prop) (w w' : World) : Prop where
  os : w'.os = w.os
  tape : w'.tape = w.tape
  output : w'.output = w.output
  size : w.heap.size ≤ w'.heap.size
  block : ∀ i, i < w.heap.size → ¬ S i → w'.heap[i]? = w.heap[i]?
set_option maxRecDepth 100000 in
theorem Fr.refl (S : Nat → Prop) (w : World) : Fr S w w := ⟨rfl, rfl, rfl, Nat.le_refl _, fun _ _ _ => rfl⟩
set_option maxRecDepth 100000 in
theorem Fr.trans {S : Nat → Prop} {a b c : World} (h : Fr S a b) (k : Fr S b c) : Fr S a c :=
  ⟨k.os.trans h.os, k.tape.trans h.tape, k.output.trans h.output, Nat.le_trans h.size k.size, fun i hi hs => (k.block i (by have := h.size; omega) hs).trans (h.block i hi hs)⟩
/-- what is turned next is of S, or new -/
theorem Fr.then {S S' : Nat → Prop} {a b c : World} (h : Fr S a b) (k : Fr S' b c) (hs : ∀ i, S' i → S i ∨ a.heap.size ≤ i) : Fr S a c :=
  ⟨k.os.trans h.os, k.tape.trans h.tape, k.output.trans h.output, Nat.le_trans h.size k.size, fun i hi hn => (k.block i (by have := h.size; omega) (fun e => by rcases hs i e with q | q; exact hn q; omega)).trans (h.block i hi hn)⟩
set_option maxRecDepth 100000 in
theorem Fr.mono {S S' : Nat → Prop} {a b : World} (h : Fr S a b) (hs : ∀ i, S i → S' i ∨ a.heap.size ≤ i) : Fr S' a b := (Fr.refl S' a).then h hs
set_option maxRecDepth 100000 in
theorem Fr.of {w w' : World} {row : Option Nat} (h : w.grownBy w' row) : Fr (fun i => row = some i) w w' :=
  ⟨h.os, h.tape, h.output, h.size, fun i hi hs => h.block i hi (fun e => hs e.symm)⟩
set_option maxRecDepth 100000 in
theorem Fr.ofNone {S : Nat → Prop} {w w' : World} (h : w.grownBy w' none) : Fr S w w' := (Fr.of h).mono (fun i e => by cases e)
set_option maxRecDepth 100000 in
theorem Fr.ofSome {S : Nat → Prop} {w w' : World} {b : Nat} (h : w.grownBy w' (some b)) (hb : S b) : Fr S w w' := (Fr.of h).mono (fun i e => by cases e; exact .inl hb)
set_option maxRecDepth 100000 in
theorem Fr.none {S : Nat → Prop} {w w' : World} (h : Fr S w w') (hs : ∀ i, S i → w.heap.size ≤ i) : w.grownBy w' none :=
  ⟨h.os, h.tape, h.output, h.size, fun i hi _ => h.block i hi (fun e => by have := hs i e; omega)⟩
set_option maxRecDepth 100000 in
theorem Has.fr {S : Nat → Prop} {w w' : World} {b : Nat} {cs : List Value} {t : TypeId} (h : Has w b cs t) (hf : Fr S w w') (hs : ¬ S b) : Has w' b cs t := by
  have := h.lt
  unfold Has at h ⊢
  rw [hf.block b this hs, h]
end Go.Proofs.YtldnpebnpbahjaaGreatDoor.Pk

namespace Go.Proofs.YtldnpebnpbahjaaGreatDoor.Pk
open Go Go.RowKit

set_option maxRecDepth 100000 in
theorem sized_c (size : Int) (w : World) :
    Calls Tryz.prog 231 #[.int .i64 size] w fun e w' => e = .returned (.bool (decide (sized size))) ∧ w' = w := by
  go_enter Tryz.func231, Tryz.ntmps231
  by_cases h1 : 1 ≤ size
  · by_cases h2 : size ≤ 8
    · have hd : decide (sized size) = true := decide_eq_true ⟨h1, h2⟩
      rw [hd]
      go_wp2
      go_ret
      exact ⟨rfl, rfl⟩
    · have hd : decide (sized size) = false := decide_eq_false (fun q => h2 q.2)
      rw [hd]
      go_wp2
      go_ret
      exact ⟨rfl, rfl⟩
  · have hd : decide (sized size) = false := decide_eq_false (fun q => h1 q.1)
    rw [hd]
    go_wp2
    go_ret
    exact ⟨rfl, rfl⟩
set_option maxRecDepth 100000 in
theorem spare_c (size : Int) (w : World) (h : sized size) :
    Calls Tryz.prog 232 #[.int .i64 size] w fun e w' => e = .returned (.int .i64 (8 * (8 - size))) ∧ w' = w := by
  go_enter Tryz.func232, Tryz.ntmps232
  obtain ⟨h1, h2⟩ := h
  go_wp2
  go_ret
  exact ⟨rfl, rfl⟩
abbrev fv (n : Nat) : Value := .func (.func n) #[] #[]
set_option maxRecDepth 100000 in
theorem under61 : ∃ d, Tryz.prog.underlying 226 = some d ∧ d.isRow = true := ⟨_, Tryz.underlying226, rfl⟩
set_option maxRecDepth 100000 in
theorem info61 : (Tryz.prog.info? 226).map (·.size) = some 1 := by kernel_rfl
set_option maxRecDepth 100000 in
theorem plain_c (w : World) :
    Calls Tryz.prog 189 #[] w fun e w' => e = .returned (.agg #[fv 215]) ∧ w.grownBy w' none := by
  go_enter Tryz.func189, Tryz.ntmps189
  go_wp2
  obtain ⟨d, hd, hr⟩ := under61
  refine ret_cell rfl rfl (show Has _ w.heap.size [fv 215] 226 from Has.newA w _ 226) hd hr info61 rfl ⟨rfl, ?_⟩
  exact World.grownBy_alloc w _ none
set_option maxRecDepth 100000 in
theorem signed_c (w : World) :
    Calls Tryz.prog 217 #[] w fun e w' => e = .returned (.agg #[fv 233]) ∧ w.grownBy w' none := by
  go_enter Tryz.func217, Tryz.ntmps217
  go_wp2
  obtain ⟨d, hd, hr⟩ := under61
  refine ret_cell rfl rfl (show Has _ w.heap.size [fv 233] 226 from Has.newA w _ 226) hd hr info61 rfl ⟨rfl, ?_⟩
  exact World.grownBy_alloc w _ none
set_option maxRecDepth 100000 in
theorem ret_u64 {a b : Int} (h : a = b) : Ending.returned (.int .u64 a) = .returned (.int .u64 b) := by rw [h]
set_option maxRecDepth 100000 in
theorem wu (a : Int) : IntKind.u64.wrap a = a % 18446744073709551616 := by
  have e : IntKind.u64.wrap a = a % 2 ^ 64 := by rfl
  rw [e]; rfl
/-- the lowest bits -/
theorem plain1_c (x : Nat) (size : Int) (w : World) (hx : x < 18446744073709551616) (h : sized size) :
    Calls Tryz.prog 215 #[.int .u64 x, .int .i64 (8 * (8 - size))] w fun e w' => e = .returned (.int .u64 (x % 256 ^ size.toNat : Nat)) ∧ w' = w := by
  go_enter Tryz.func215, Tryz.ntmps215
  have h8 : size = 1 ∨ size = 2 ∨ size = 3 ∨ size = 4 ∨ size = 5 ∨ size = 6 ∨ size = 7 ∨ size = 8 := by obtain ⟨h1, h2⟩ := h; omega
  rcases h8 with rfl | rfl | rfl | rfl | rfl | rfl | rfl | rfl
  all_goals
    go_wp2
    go_ret
    refine ⟨ret_u64 ?_, rfl⟩
    try simp only [wu]
  · show _ = ((x % 256 : Nat) : Int); omega
  · show _ = ((x % 65536 : Nat) : Int); omega
  · show _ = ((x % 16777216 : Nat) : Int); omega
  · show _ = ((x % 4294967296 : Nat) : Int); omega
  · show _ = ((x % 1099511627776 : Nat) : Int); omega
  · show _ = ((x % 281474976710656 : Nat) : Int); omega
  · show _ = ((x % 72057594037927936 : Nat) : Int); omega
  · show _ = ((x % 18446744073709551616 : Nat) : Int); omega
/-- the lowest bits with their sign -/
def sx (x : Nat) (k : Nat) : Nat := if 2 * (x % 256 ^ k) < 256 ^ k then x % 256 ^ k else x % 256 ^ k + 18446744073709551616 - 256 ^ k
set_option maxRecDepth 100000 in
theorem signed1_c (x : Nat) (size : Int) (w : World) (hx : x < 18446744073709551616) (h : sized size) :
    Calls Tryz.prog 233 #[.int .u64 x, .int .i64 (8 * (8 - size))] w fun e w' => e = .returned (.int .u64 (sx x size.toNat : Nat)) ∧ w' = w := by
  go_enter Tryz.func233, Tryz.ntmps233
  have h8 : size = 1 ∨ size = 2 ∨ size = 3 ∨ size = 4 ∨ size = 5 ∨ size = 6 ∨ size = 7 ∨ size = 8 := by obtain ⟨h1, h2⟩ := h; omega
  rcases h8 with rfl | rfl | rfl | rfl | rfl | rfl | rfl | rfl
  all_goals
    go_wp2
    go_ret
    refine ⟨ret_u64 ?_, rfl⟩
    simp only [wu, wrap64, sx]
  · show _ = ((if 2 * (x % 256) < 256 then x % 256 else x % 256 + 18446744073709551616 - 256 : Nat) : Int)
    split <;> omega
  · show _ = ((if 2 * (x % 65536) < 65536 then x % 65536 else x % 65536 + 18446744073709551616 - 65536 : Nat) : Int)
    split <;> omega
  · show _ = ((if 2 * (x % 16777216) < 16777216 then x % 16777216 else x % 16777216 + 18446744073709551616 - 16777216 : Nat) : Int)
    split <;> omega
  · show _ = ((if 2 * (x % 4294967296) < 4294967296 then x % 4294967296 else x % 4294967296 + 18446744073709551616 - 4294967296 : Nat) : Int)
    split <;> omega
  · show _ = ((if 2 * (x % 1099511627776) < 1099511627776 then x % 1099511627776 else x % 1099511627776 + 18446744073709551616 - 1099511627776 : Nat) : Int)
    split <;> omega
  · show _ = ((if 2 * (x % 281474976710656) < 281474976710656 then x % 281474976710656 else x % 281474976710656 + 18446744073709551616 - 281474976710656 : Nat) : Int)
    split <;> omega
  · show _ = ((if 2 * (x % 72057594037927936) < 72057594037927936 then x % 72057594037927936 else x % 72057594037927936 + 18446744073709551616 - 72057594037927936 : Nat) : Int)
    split <;> omega
  · show _ = ((if 2 * (x % 18446744073709551616) < 18446744073709551616 then x % 18446744073709551616 else x % 18446744073709551616 + 18446744073709551616 - 18446744073709551616 : Nat) : Int)
    split <;> omega
end Go.Proofs.YtldnpebnpbahjaaGreatDoor.Pk

namespace Go.Proofs.YtldnpebnpbahjaaGreatDoor.Pk
open Go Go.RowKit

set_option maxRecDepth 100000 in
theorem sx_fits (i size : Int) (hs : sized size) (hi : -9223372036854775808 ≤ i ∧ i < 9223372036854775808) : sx (u64 i) size.toNat = u64 i ↔ fitsS i size := by
  have h8 : size = 1 ∨ size = 2 ∨ size = 3 ∨ size = 4 ∨ size = 5 ∨ size = 6 ∨ size = 7 ∨ size = 8 := by obtain ⟨h1, h2⟩ := hs; omega
  obtain ⟨n, hn⟩ : ∃ n, u64 i = n := ⟨_, rfl⟩
  have hn' : (n : Int) = i % 18446744073709551616 := by rw [← hn]; unfold u64; omega
  unfold fitsS
  rw [hn]
  clear hn
  simp only [hs, true_and]
  rcases h8 with rfl | rfl | rfl | rfl | rfl | rfl | rfl | rfl
  · show (if 2 * (n % 256) < 256 then n % 256 else n % 256 + 18446744073709551616 - 256) = n ↔ -((256 : Nat) : Int) ≤ 2 * i ∧ 2 * i < ((256 : Nat) : Int)
    split <;> omega
  · show (if 2 * (n % 65536) < 65536 then n % 65536 else n % 65536 + 18446744073709551616 - 65536) = n ↔ -((65536 : Nat) : Int) ≤ 2 * i ∧ 2 * i < ((65536 : Nat) : Int)
    split <;> omega
  · show (if 2 * (n % 16777216) < 16777216 then n % 16777216 else n % 16777216 + 18446744073709551616 - 16777216) = n ↔ -((16777216 : Nat) : Int) ≤ 2 * i ∧ 2 * i < ((16777216 : Nat) : Int)
    split <;> omega
  · show (if 2 * (n % 4294967296) < 4294967296 then n % 4294967296 else n % 4294967296 + 18446744073709551616 - 4294967296) = n ↔ -((4294967296 : Nat) : Int) ≤ 2 * i ∧ 2 * i < ((4294967296 : Nat) : Int)
    split <;> omega
  · show (if 2 * (n % 1099511627776) < 1099511627776 then n % 1099511627776 else n % 1099511627776 + 18446744073709551616 - 1099511627776) = n ↔ -((1099511627776 : Nat) : Int) ≤ 2 * i ∧ 2 * i < ((1099511627776 : Nat) : Int)
    split <;> omega
  · show (if 2 * (n % 281474976710656) < 281474976710656 then n % 281474976710656 else n % 281474976710656 + 18446744073709551616 - 281474976710656) = n ↔ -((281474976710656 : Nat) : Int) ≤ 2 * i ∧ 2 * i < ((281474976710656 : Nat) : Int)
    split <;> omega
  · show (if 2 * (n % 72057594037927936) < 72057594037927936 then n % 72057594037927936 else n % 72057594037927936 + 18446744073709551616 - 72057594037927936) = n ↔ -((72057594037927936 : Nat) : Int) ≤ 2 * i ∧ 2 * i < ((72057594037927936 : Nat) : Int)
    split <;> omega
  · show (if 2 * (n % 18446744073709551616) < 18446744073709551616 then n % 18446744073709551616 else n % 18446744073709551616 + 18446744073709551616 - 18446744073709551616) = n ↔ -((18446744073709551616 : Nat) : Int) ≤ 2 * i ∧ 2 * i < ((18446744073709551616 : Nat) : Int)
    split <;> omega

set_option maxRecDepth 100000 in
theorem holds_plain (x : Nat) (size : Int) (w : World) (hx : x < 18446744073709551616) :
    Calls Tryz.prog 213 #[.agg #[fv 215], .int .u64 x, .int .i64 size] w fun e w' => e = .returned (.bool (decide (sized size ∧ (x % 256 ^ size.toNat) = x))) ∧ w.grownBy w' none := by
  go_enter Tryz.func213, Tryz.ntmps213
  by_cases hs : sized size
  · have HS : Keep (sized size) := ⟨hs⟩
    have c41 : ∀ W : World, Calls Tryz.prog 231 #[.int .i64 size] W fun e w' => e = .returned (.bool true) ∧ w' = W := fun W => by
      have := sized_c size W
      rwa [decide_eq_true hs] at this
    have HC : Keep (∀ W : World, Calls Tryz.prog 231 #[.int .i64 size] W fun e w' => e = .returned (.bool true) ∧ w' = W) := ⟨c41⟩
    have HW : Keep (∀ W : World, Calls Tryz.prog 215 #[.int .u64 x, .int .i64 (8 * (8 - size))] W fun e w' => e = .returned (.int .u64 ((x % 256 ^ size.toNat) : Nat)) ∧ w' = W) := ⟨fun W => plain1_c x size W hx hs⟩
    clear c41
    obtain ⟨y, hy⟩ : ∃ y : Nat, (x % 256 ^ size.toNat) = y := ⟨_, rfl⟩
    rw [hy] at HW ⊢
    have hd : decide (sized size ∧ y = x) = decide (y = x) := by simp [hs]
    rw [hd]
    clear hd hy hs
    go_wp2_with fail
    obtain ⟨w1, hw1⟩ : ∃ w1, w.alloc (.cells #[fv 215] 226) = w1 := ⟨_, rfl⟩
    have HG : Keep (w.grownBy w1 none) := ⟨by rw [← hw1]; exact World.grownBy_alloc _ _ _⟩
    have hc0 : w1.cell? ⟨w.heap.size, 0, none⟩ = some (fv 215) := by rw [← hw1]; exact (Has.newA w #[fv 215] 226).cellv 0 _ rfl
    rw [hw1]
    clear hw1
    generalize w.heap.size = kb at *
    go_quiet (first | (go_at_call 231; exact Calls.quiet_of_same (HC.out _)) | (go_at_call 232; exact Calls.quiet_of_same (spare_c size _ HS.out)) | (go_at_call 215; exact Calls.quiet_of_same (HW.out _)))
    go_wp2
    go_ret
    refine ⟨?_, HG.out.trans (gr_drewN _ _ _)⟩
    by_cases e : y = x
    · subst e; simp
    · rw [decide_eq_false e]
      have : ((y : Int) == (x : Int)) = false := by simp; omega
      simp [this]
  · have HC : Keep (∀ W : World, Calls Tryz.prog 231 #[.int .i64 size] W fun e w' => e = .returned (.bool false) ∧ w' = W) := ⟨fun W => by
      have := sized_c size W
      rwa [decide_eq_false hs] at this⟩
    have hd : decide (sized size ∧ (x % 256 ^ size.toNat) = x) = false := by simp [hs]
    rw [hd]
    clear hd hs
    go_wp2_with fail
    obtain ⟨w1, hw1⟩ : ∃ w1, w.alloc (.cells #[fv 215] 226) = w1 := ⟨_, rfl⟩
    have HG : Keep (w.grownBy w1 none) := ⟨by rw [← hw1]; exact World.grownBy_alloc _ _ _⟩
    rw [hw1]
    clear hw1
    generalize w.heap.size = kb at *
    go_quiet ((go_at_call 231; exact Calls.quiet_of_same (HC.out _)))
    go_wp2
    go_ret
    exact ⟨rfl, HG.out.trans (gr_drewN _ _ _)⟩

set_option maxRecDepth 100000 in
theorem holds_signed (x : Nat) (size : Int) (w : World) (hx : x < 18446744073709551616) :
    Calls Tryz.prog 213 #[.agg #[fv 233], .int .u64 x, .int .i64 size] w fun e w' => e = .returned (.bool (decide (sized size ∧ (sx x size.toNat) = x))) ∧ w.grownBy w' none := by
  go_enter Tryz.func213, Tryz.ntmps213
  by_cases hs : sized size
  · have HS : Keep (sized size) := ⟨hs⟩
    have c41 : ∀ W : World, Calls Tryz.prog 231 #[.int .i64 size] W fun e w' => e = .returned (.bool true) ∧ w' = W := fun W => by
      have := sized_c size W
      rwa [decide_eq_true hs] at this
    have HC : Keep (∀ W : World, Calls Tryz.prog 231 #[.int .i64 size] W fun e w' => e = .returned (.bool true) ∧ w' = W) := ⟨c41⟩
    have HW : Keep (∀ W : World, Calls Tryz.prog 233 #[.int .u64 x, .int .i64 (8 * (8 - size))] W fun e w' => e = .returned (.int .u64 ((sx x size.toNat) : Nat)) ∧ w' = W) := ⟨fun W => signed1_c x size W hx hs⟩
    clear c41
    obtain ⟨y, hy⟩ : ∃ y : Nat, (sx x size.toNat) = y := ⟨_, rfl⟩
    rw [hy] at HW ⊢
    have hd : decide (sized size ∧ y = x) = decide (y = x) := by simp [hs]
    rw [hd]
    clear hd hy hs
    go_wp2_with fail
    obtain ⟨w1, hw1⟩ : ∃ w1, w.alloc (.cells #[fv 233] 226) = w1 := ⟨_, rfl⟩
    have HG : Keep (w.grownBy w1 none) := ⟨by rw [← hw1]; exact World.grownBy_alloc _ _ _⟩
    have hc0 : w1.cell? ⟨w.heap.size, 0, none⟩ = some (fv 233) := by rw [← hw1]; exact (Has.newA w #[fv 233] 226).cellv 0 _ rfl
    rw [hw1]
    clear hw1
    generalize w.heap.size = kb at *
    go_quiet (first | (go_at_call 231; exact Calls.quiet_of_same (HC.out _)) | (go_at_call 232; exact Calls.quiet_of_same (spare_c size _ HS.out)) | (go_at_call 233; exact Calls.quiet_of_same (HW.out _)))
    go_wp2
    go_ret
    refine ⟨?_, HG.out.trans (gr_drewN _ _ _)⟩
    by_cases e : y = x
    · subst e; simp
    · rw [decide_eq_false e]
      have : ((y : Int) == (x : Int)) = false := by simp; omega
      simp [this]
  · have HC : Keep (∀ W : World, Calls Tryz.prog 231 #[.int .i64 size] W fun e w' => e = .returned (.bool false) ∧ w' = W) := ⟨fun W => by
      have := sized_c size W
      rwa [decide_eq_false hs] at this⟩
    have hd : decide (sized size ∧ (sx x size.toNat) = x) = false := by simp [hs]
    rw [hd]
    clear hd hs
    go_wp2_with fail
    obtain ⟨w1, hw1⟩ : ∃ w1, w.alloc (.cells #[fv 233] 226) = w1 := ⟨_, rfl⟩
    have HG : Keep (w.grownBy w1 none) := ⟨by rw [← hw1]; exact World.grownBy_alloc _ _ _⟩
    rw [hw1]
    clear hw1
    generalize w.heap.size = kb at *
    go_quiet ((go_at_call 231; exact Calls.quiet_of_same (HC.out _)))
    go_wp2
    go_ret
    exact ⟨rfl, HG.out.trans (gr_drewN _ _ _)⟩

set_option maxRecDepth 100000 in
theorem fitsU_iff (x : Nat) (size : Int) : (sized size ∧ x % 256 ^ size.toNat = x) ↔ fitsU x size := by
  unfold fitsU
  refine and_congr_right fun _ => ⟨fun h => ?_, fun h => Nat.mod_eq_of_lt h⟩
  rw [← h]
  exact Nat.mod_lt _ (Nat.pos_of_ne_zero (by simp))
end Go.Proofs.YtldnpebnpbahjaaGreatDoor.Pk

namespace Go.Proofs.YtldnpebnpbahjaaGreatDoor.Pk
open Go Go.RowKit

abbrev bv (x : UInt8) : Value := .int .u8 x.toNat
/-- a string's bytes -/
def sl (s : ByteArray) : List UInt8 := s.data.toList
set_option maxRecDepth 100000 in
theorem sl_len (s : ByteArray) : (sl s).length = s.size := Array.length_toList
set_option maxRecDepth 100000 in
theorem sl_mk (l : List UInt8) : sl ⟨l.toArray⟩ = l := by simp [sl]
set_option maxRecDepth 100000 in
theorem sl_app (a b : ByteArray) : sl (a ++ b) = sl a ++ sl b := by simp [sl]
set_option maxRecDepth 100000 in
theorem sl_inj {a b : ByteArray} (h : sl a = sl b) : a = b := by
  apply ByteArray.ext
  exact Array.toList_inj.1 h
set_option maxRecDepth 100000 in
theorem sl_back (s : ByteArray) : (⟨(sl s).toArray⟩ : ByteArray) = s := by
  apply ByteArray.ext; simp [sl]
set_option maxRecDepth 100000 in
theorem sl_cells (s : ByteArray) : Lib.strCells s = (sl s).map bv := by
  simp [Lib.strCells, sl]

set_option maxRecDepth 100000 in
theorem under53 : Tryz.prog.underlying 60 = some (.slice 5) := by kernel_rfl
set_option maxRecDepth 100000 in
theorem under5 : Tryz.prog.underlying 5 = some (.int .u8) := by kernel_rfl
set_option maxRecDepth 100000 in
theorem under9 : Tryz.prog.underlying 9 = some .string := by kernel_rfl
set_option maxRecDepth 100000 in
theorem info5 : ∃ i, Tryz.prog.info? 5 = some i ∧ i.size = 1 ∧ i.bytes = 1 ∧ i.zero = some (.int .u8 0) := ⟨_, rfl, by kernel_rfl, by kernel_rfl, by kernel_rfl⟩

/-- a row of bytes -/
abbrev Row (w : World) (v : Value) (xs : List UInt8) : Prop := w.ownsRow 0 5 1 v xs.length (xs.map bv)
set_option maxRecDepth 100000 in
theorem Row.lt {w : World} {v : Value} {xs : List UInt8} (h : Row w v xs) {k : Nat} (e : v.ownBlock = some k) : k < w.heap.size := by
  obtain ⟨_, h2⟩ := h
  rcases h2 with ⟨rfl, _⟩ | ⟨g, cap, cur, rfl, a, b, c⟩
  · cases e
  · cases e; exact (Array.getElem?_eq_some_iff.1 b).1
set_option maxRecDepth 100000 in
theorem Row.fr {S : Nat → Prop} {w w' : World} {v : Value} {xs : List UInt8} (h : Row w v xs) (f : Fr S w w') (hs : ∀ k, v.ownBlock = some k → ¬ S k) : Row w' v xs := by
  have hl : ∀ k, v.ownBlock = some k → k < w.heap.size := fun k e => Row.lt h e
  obtain ⟨h1, h2⟩ := h
  refine ⟨h1, ?_⟩
  rcases h2 with h2 | ⟨g, cap, cur, rfl, a, b, c⟩
  · exact .inl h2
  · exact .inr ⟨g, cap, cur, rfl, a, by rw [f.block g (hl g rfl) (hs g rfl), b], c⟩
set_option maxRecDepth 100000 in
theorem Row.shape {w : World} {v : Value} {xs : List UInt8} (h : Row w v xs) : ∃ a c, v = .slice a xs.length c ∧ (a = none → xs = []) ∧ ∀ ad, a = some ad → ∀ j x, xs[j]? = some x → w.cell? (ad.add j) = some (bv x) := by
  have hc := fun g (hv : v.ownBlock = some g) => World.ownsRow.cells (w := w) h (g := g) hv
  obtain ⟨h1, h2⟩ := h
  rcases h2 with ⟨rfl, h0⟩ | ⟨g, cap, cur, rfl, hb, hheap, h1, h2, h3, h4⟩
  · exact ⟨none, 0, by rw [h0], fun _ => List.eq_nil_of_length_eq_zero h0, fun _ e => (by cases e)⟩
  · refine ⟨_, cap, rfl, fun e => (by cases e), fun ad e j x hx => ?_⟩
    cases e
    exact hc g rfl j _ (by rw [List.getElem?_map, hx]; rfl)
/-- append of a byte that was built -/
theorem app_byte {w : World} {v : Value} {xs : List UInt8} (h : Row w v xs) (b : UInt8) (hsz : xs.length + 1 ≤ 140737488355328) :
    ∃ v' w', (Builtin.append_ #[60, 60] 60 #[v, .slice (some ⟨w.heap.size, 0, none⟩) 1 1]).run Tryz.prog (w.alloc (.cells #[.int .u8 b.toNat] 5)) = .ok v' w' ∧ Row w' v' (xs ++ [b]) ∧ w.grownBy w' v.ownBlock ∧ (v'.ownBlock = v.ownBlock ∨ ∃ k, v'.ownBlock = some k ∧ w.heap.size ≤ k) := by
  obtain ⟨i, h1, h2, h3, h4⟩ := info5
  have ga := World.grownBy_alloc w (.cells #[.int .u8 b.toNat] 5) none
  have h' : Row (w.alloc (.cells #[.int .u8 b.toNat] 5)) v xs := h.fr (S := fun _ => False) (Fr.ofNone ga) (fun _ _ e => e)
  obtain ⟨v', w', r1, r2, r3, _, r5⟩ := run_append_own_at (P := Tryz.prog) _ 0 60 60 5 i (.int .u8 0) 1 1 under53 h1 h4 h2 h3 rfl (by decide) v xs.length _ h' ⟨w.heap.size, 0, none⟩ 1 1 [.int .u8 b.toNat] rfl (fun j u hu => by
      rw [Addr.add_mid, Nat.zero_add]
      exact (Has.newA w #[.int .u8 b.toNat] 5).cellv j _ hu) (fun u hu => by simp at hu; subst hu; rfl) (by unfold maxLen; omega) (by omega) (Nat.zero_le _)
  refine ⟨v', w', r1, ?_, ?_, ?_⟩
  · have e : xs.map bv ++ [.int .u8 b.toNat] = (xs ++ [b]).map bv := by simp
    have el : (xs ++ [b]).length = xs.length + 1 := by simp
    rw [e] at r2
    unfold Row; rw [el]; exact r2
  · exact ⟨r3.os.trans ga.os, r3.tape.trans ga.tape, r3.output.trans ga.output, Nat.le_trans ga.size r3.size, fun k hk hne => by rw [r3.block k (by have := ga.size; omega) hne, ga.block k hk (by simp)]⟩
  · rcases r5 with e | e
    · exact .inl e
    · exact .inr ⟨_, e, by rw [World.size_alloc]; omega⟩
/-- append of a string -/
theorem app_str {w : World} {v : Value} {xs : List UInt8} (h : Row w v xs) (s : ByteArray) (hsz : xs.length + s.size ≤ 140737488355328) :
    ∃ v' w', (Builtin.append_ #[60, 9] 60 #[v, .string s]).run Tryz.prog w = .ok v' w' ∧ Row w' v' (xs ++ sl s) ∧ w.grownBy w' v.ownBlock ∧ (v'.ownBlock = v.ownBlock ∨ ∃ k, v'.ownBlock = some k ∧ w.heap.size ≤ k) := by
  obtain ⟨i, h1, h2, h3, h4⟩ := info5
  obtain ⟨v', w', r1, r2, r3, r4⟩ := Lib.run_append_own_string (P := Tryz.prog) w 0 60 9 60 5 i under53 under9 h1 h4 h2 h3 v xs.length _ h s (by unfold maxLen; omega) hsz (Nat.zero_le _)
  refine ⟨v', w', r1, ?_, r3, ?_⟩
  · rw [sl_cells, ← List.map_append] at r2
    have el : (xs ++ sl s).length = xs.length + s.size := by simp [sl_len]
    unfold Row; rw [el]; exact r2
  · obtain ⟨hl, h5⟩ := h
    rcases h5 with ⟨rfl, h0⟩ | ⟨g, cap, cur, rfl, hbg, hg, hnc, hcm, hcs, htake⟩
    · obtain ⟨v2, w2, q1, q2, _⟩ := Lib.run_append_own_string (P := Tryz.prog) w w.heap.size 60 9 60 5 i under53 under9 h1 h4 h2 h3 (.slice none 0 0) 0 [] (World.ownsRow_nil _ _ _ _) s (by unfold maxLen; omega) (by omega) (Nat.le_refl _)
      have e : (Result.ok v2 w2 : Result Value) = .ok v' w' := by rw [← q1, r1]
      injection e with e1 e2
      subst e1 e2
      obtain ⟨_, q2⟩ := q2
      rcases q2 with ⟨rfl, _⟩ | ⟨g, cap, cur, rfl, hbg, _⟩
      · exact .inl rfl
      · exact .inr ⟨g, rfl, hbg⟩
    · by_cases hroom : xs.length + s.size ≤ cap
      · have hcs' : cur.size = cap := by simpa using hcs
        have hr := Lib.run_append_room_string (P := Tryz.prog) w 60 9 60 5 i under53 under9 h1 h2 g xs.length cap cur hg s hroom (by omega)
        rw [hr] at r1
        injection r1 with e1 e2
        subst e1
        exact .inl rfl
      · have holds : ∀ j u, (xs.map bv)[j]? = some u → w.cell? ((⟨g, 0, none⟩ : Addr).add j) = some u := World.ownsRow.cells (w := w) (base := 0) (e := 5) (size := 1) ⟨hl, .inr ⟨g, cap, cur, rfl, hbg, hg, hnc, hcm, hcs, htake⟩⟩ (g := g) rfl
        have hr := Lib.run_append_grow_string (P := Tryz.prog) w 60 9 60 5 i (.int .u8 0) under53 under9 h1 h4 ⟨g, 0, none⟩ xs.length cap (xs.map bv) (by rw [h2]; simp) holds s (by omega) (by omega) (by rw [h3]; exact growslice_fits (by omega) (by omega))
        rw [hr] at r1
        injection r1 with e1 e2
        subst e1
        exact .inr ⟨_, rfl, Nat.le_refl _⟩

/-- where a Writer stands -/
structure WAt (w : World) (wb : Nat) (v : Value) (st : WS) : Prop where
  h : Has w wb [v, .int .i64 (if st = none then 51 else 0)] 198
  r : Row w v (st.getD [])
  ne : v.ownBlock ≠ some wb
def WF (wb : Nat) (v : Value) (i : Nat) : Prop := i = wb ∨ v.ownBlock = some i
set_option maxRecDepth 100000 in
theorem WAt.lt {w : World} {wb : Nat} {v : Value} {st : WS} (h : WAt w wb v st) : ∀ i, WF wb v i → i < w.heap.size := fun i hi => by
  rcases hi with rfl | e
  · exact h.h.lt
  · exact Row.lt h.r e
set_option maxRecDepth 100000 in
theorem WAt.fr {S : Nat → Prop} {w w' : World} {wb : Nat} {v : Value} {st : WS} (h : WAt w wb v st) (f : Fr S w w') (hs : ∀ i, WF wb v i → ¬ S i) : WAt w' wb v st :=
  ⟨h.h.fr f (hs _ (.inl rfl)), h.r.fr f (fun k e => hs k (.inr e)), h.ne⟩
set_option maxRecDepth 100000 in
theorem WAt.kept {w w' : World} {wb : Nat} {v : Value} {st : WS} (h : WAt w wb v st) (hg : w.grownBy w' none) : WAt w' wb v st :=
  h.fr (S := fun _ => False) (Fr.ofNone hg) (fun _ _ e => e)
/-- what became of it -/
structure WDid (w w' : World) (wb : Nat) (v : Value) (st : WS) (v' : Value) : Prop where
  a : WAt w' wb v' st
  f : Fr (WF wb v) w w'
  n : ∀ k, v'.ownBlock = some k → v.ownBlock = some k ∨ w.heap.size ≤ k
set_option maxRecDepth 100000 in
theorem WDid.refl {w : World} {wb : Nat} {v : Value} {st : WS} (h : WAt w wb v st) : WDid w w wb v st v := ⟨h, Fr.refl _ _, fun _ e => .inl e⟩
set_option maxRecDepth 100000 in
theorem WDid.trans {w w1 w2 : World} {wb : Nat} {v v1 v2 : Value} {st st2 : WS} (h : WDid w w1 wb v st v1) (k : WDid w1 w2 wb v1 st2 v2) : WDid w w2 wb v st2 v2 := by
  have hs := h.f.size
  refine ⟨k.a, h.f.then k.f (fun i hi => ?_), fun i e => ?_⟩
  · rcases hi with e | e
    · exact .inl (.inl e)
    · exact (h.n i e).imp_left .inr
  · rcases k.n i e with q | q
    · exact h.n i q
    · exact .inr (by omega)
set_option maxRecDepth 100000 in
theorem WDid.grown {w w1 w2 : World} {wb : Nat} {v v1 : Value} {st : WS} (h : WDid w w1 wb v st v1) (hg : w1.grownBy w2 none) : WDid w w2 wb v st v1 :=
  ⟨h.a.kept hg, h.f.trans (Fr.ofNone hg), h.n⟩
set_option maxRecDepth 100000 in
theorem WDid.ahead {w w1 w2 : World} {wb : Nat} {v v1 : Value} {st : WS} (hg : w.grownBy w1 none) (h : WDid w1 w2 wb v st v1) : WDid w w2 wb v st v1 :=
  ⟨h.a, (Fr.ofNone hg).trans h.f, fun k e => (h.n k e).imp_right (fun q => Nat.le_trans hg.size q)⟩
/-- the row was set -/
theorem WAt.set {w w1 : World} {wb : Nat} {v v' : Value} {xs ys : List UInt8} (h : WAt w wb v (some xs)) (r : Row w1 v' ys) (g : w.grownBy w1 v.ownBlock) (hn : v'.ownBlock = v.ownBlock ∨ ∃ k, v'.ownBlock = some k ∧ w.heap.size ≤ k) : WDid w (w1.setCell ⟨wb, 0, none⟩ v') wb v (some ys) v' := by
  have hw := h.h.lt
  have hne : v'.ownBlock ≠ some wb := fun e => by
    rcases hn with q | ⟨k, q1, q2⟩
    · rw [q] at e; exact h.ne e
    · rw [q1] at e; cases e; omega
  have hh : Has w1 wb [v, .int .i64 0] 198 := (show Has w wb [v, .int .i64 0] 198 from h.h).kept g (fun e => h.ne e.symm)
  have f1 : Fr (WF wb v) w w1 := (Fr.of g).mono (fun i e => .inl (.inr e))
  refine ⟨⟨hh.setCell 0 v', ?_, hne⟩, f1.then (Fr.of (gr_set w1 wb 0 v')) (fun i e => by cases e; exact .inl (.inl rfl)), fun k e => ?_⟩
  · exact r.fr (Fr.of (gr_set w1 wb 0 v')) (fun k e q => hne (by rw [e, q]))
  · rcases hn with q | ⟨k', q1, q2⟩
    · rw [q] at e; exact .inl e
    · rw [q1] at e; cases e; exact .inr q2
end Go.Proofs.YtldnpebnpbahjaaGreatDoor.Pk

namespace Go.Proofs.YtldnpebnpbahjaaGreatDoor.Pk
open Go Go.RowKit

set_option maxRecDepth 100000 in
theorem row_nil (w : World) : Row w (.slice none 0 0) [] := World.ownsRow_nil _ _ _ _
set_option maxRecDepth 100000 in
theorem wfail_c (wb : Nat) (v : Value) (st : WS) (w : World) (h : WAt w wb v st) :
    Calls Tryz.prog 214 #[.pointer (some ⟨wb, 0, none⟩)] w fun e w' => e = .returned (.tuple #[]) ∧ ∃ v', WDid w w' wb v none v' := by
  have HH : Keep (WAt w wb v st) := ⟨h⟩
  have h0 : w.cell? ⟨wb, 0, none⟩ = some v := h.h.cellv 0 _ rfl
  have h1 : w.cell? ⟨wb, 1, none⟩ = some (.int .i64 (if st = none then 51 else 0)) := h.h.cellv 1 _ rfl
  have f0 := h.h.frozen 0
  have f1 := h.h.frozen 1
  clear h
  generalize (if st = none then (51 : Int) else 0) = e1 at *
  go_enter Tryz.func214, Tryz.ntmps214
  go_wp2
  go_end0
  refine ⟨rfl, .slice none 0 0, ⟨(HH.out.h.setCell 0 _).setCell 1 _, row_nil _, by simp [Value.ownBlock]⟩, ?_, fun k e => by cases e⟩
  exact ((Fr.ofSome (gr_set _ _ _ _) (.inl rfl))).trans (Fr.ofSome (gr_set _ _ _ _) (.inl rfl))
end Go.Proofs.YtldnpebnpbahjaaGreatDoor.Pk

namespace Go.Proofs.YtldnpebnpbahjaaGreatDoor.Pk
open Go Go.RowKit

/-- there was room -/
theorem row_room {w : World} {g n cap m : Nat} {cur : Array Value} {xs news : List UInt8} (hg : w.heap[g]? = some (.cells cur 5 (0, 0))) (hcm : cap ≤ maxLen) (hcs : cur.size = cap) (htake : cur.toList.take n = xs.map bv) (hn : xs.length = n) (hm : news.length = m) (hroom : n + m ≤ cap) :
    Row (w.setRow g (cur.toList.take n ++ news.map bv ++ cur.toList.drop (n + m)).toArray) (.slice (some ⟨g, 0, none⟩) (n + m) cap) (xs ++ news) ∧ w.grownBy (w.setRow g (cur.toList.take n ++ news.map bv ++ cur.toList.drop (n + m)).toArray) (some g) := by
  have hlen : (xs ++ news).length = n + m := by rw [List.length_append, hn, hm]
  refine ⟨⟨by simp, .inr ⟨g, cap, _, by rw [hlen], Nat.zero_le _, setRow_heap w g cur _ 5 _ hg, by omega, hcm, ?_, ?_⟩⟩, ⟨rfl, rfl, rfl, by simp, fun k _ hk => setRow_other w g k _ (fun e => hk (by rw [e]))⟩⟩
  · simp only [List.size_toArray, List.length_append, List.length_take, List.length_drop, List.length_map, Array.length_toList]
    omega
  · rw [htake, ← List.map_append, hlen, Nat.mul_one]
    refine (List.take_append_of_le_length ?_).trans (List.take_of_length_le ?_) <;> rw [List.length_map, hlen] <;> exact Nat.le_refl _
/-- it has grown -/
theorem row_grown (w : World) (n m old : Nat) (xs news : List UInt8) (hn : xs.length = n) (hm : news.length = m) (h63 : n + m ≤ maxLen) (row : Option Nat) :
    Row (w.drew.alloc (.cells ((xs.map bv).toArray ++ (news.map bv).toArray ++ Builtin.zeroCells (Value.int .u8 0).cells (grownCap w (n + m) old 5 - (n + m))) 5)) (.slice (some ⟨w.heap.size, 0, none⟩) (n + m) (grownCap w (n + m) old 5)) (xs ++ news) ∧
    w.grownBy (w.drew.alloc (.cells ((xs.map bv).toArray ++ (news.map bv).toArray ++ Builtin.zeroCells (Value.int .u8 0).cells (grownCap w (n + m) old 5 - (n + m))) 5)) row := by
  have hlen : (xs ++ news).length = n + m := by rw [List.length_append, hn, hm]
  have hge := grownCap_ge w (n + m) old 5
  refine ⟨⟨by simp, .inr ⟨w.heap.size, _, _, by rw [hlen], Nat.zero_le _, heap_alloc_last w.drew _, by omega, grownCap_le_maxLen w (n + m) old 5 h63, ?_, ?_⟩⟩, (gr_drew w row).trans (World.grownBy_alloc _ _ _)⟩
  · have hz : (Value.int .u8 0).cells.size = 1 := rfl
    simp only [Array.size_append, List.size_toArray, List.length_map, size_zeroCells, hn, hm, hz]
    omega
  · simp only [Array.toList_append, hlen, Nat.mul_one]
    rw [← List.map_append]
    refine (List.take_append_of_le_length ?_).trans (List.take_of_length_le ?_) <;> rw [List.length_map, hlen] <;> exact Nat.le_refl _
set_option maxRecDepth 100000 in
theorem app_byte_w {w : World} {v : Value} {xs : List UInt8} (h : Row w v xs) (b : UInt8) (hsz : xs.length + 1 ≤ 180000000000000) :
    ∃ v' w', (Builtin.append_ #[60, 60] 60 #[v, .slice (some ⟨w.heap.size, 0, none⟩) 1 1]).run Tryz.prog (w.alloc (.cells #[.int .u8 b.toNat] 5)) = .ok v' w' ∧ Row w' v' (xs ++ [b]) ∧ w.grownBy w' v.ownBlock ∧ (v'.ownBlock = v.ownBlock ∨ ∃ k, v'.ownBlock = some k ∧ w.heap.size ≤ k) := by
  by_cases hsm : xs.length + 1 ≤ 140737488355328
  · exact app_byte h b hsm
  obtain ⟨i, h1, h2, h3, h4⟩ := info5
  have ga := World.grownBy_alloc w (.cells #[.int .u8 b.toNat] 5) none
  have h' : Row (w.alloc (.cells #[.int .u8 b.toNat] 5)) v xs := h.fr (S := fun _ => False) (Fr.ofNone ga) (fun _ _ e => e)
  have hnews : ∀ j u, ([b].map bv)[j]? = some u → (w.alloc (.cells #[.int .u8 b.toNat] 5)).cell? ((⟨w.heap.size, 0, none⟩ : Addr).add j) = some u := fun j u hu => by
    rw [Addr.add_mid, Nat.zero_add]
    exact (Has.newA w #[.int .u8 b.toNat] 5).cellv j _ hu
  have fin : ∀ w' : World, (w.alloc (.cells #[.int .u8 b.toNat] 5)).grownBy w' v.ownBlock → w.grownBy w' v.ownBlock := fun w' r3 =>
    ⟨r3.os.trans ga.os, r3.tape.trans ga.tape, r3.output.trans ga.output, Nat.le_trans ga.size r3.size, fun k hk hne => by rw [r3.block k (by have := ga.size; omega) hne, ga.block k hk (by simp)]⟩
  obtain ⟨hl, h5⟩ := h'
  rcases h5 with ⟨rfl, h0⟩ | ⟨g, cap, cur, rfl, hbg, hg, hnc, hcm, hcs, htake⟩
  · omega
  · have hcs' : cur.size = cap := by simpa using hcs
    have htk : cur.toList.take xs.length = xs.map bv := by simpa using htake
    by_cases hroom : xs.length + 1 ≤ cap
    · have hr := run_append_room (P := Tryz.prog) (w.alloc (.cells #[.int .u8 b.toNat] 5)) 60 60 5 i under53 h1 g xs.length cap cur hg ⟨w.heap.size, 0, none⟩ 1 1 ([b].map bv) (by rw [h2]; rfl) hnews (fun u hu => by simp at hu; subst hu; rfl) hroom (by rw [h2]; simp; omega)
      rw [h2, Nat.mul_one] at hr
      obtain ⟨r2, r3⟩ := row_room (news := [b]) (m := 1) hg hcm hcs' htk rfl rfl hroom
      exact ⟨_, _, hr, r2, fin _ r3, .inl rfl⟩
    · have holds : ∀ j u, (xs.map bv)[j]? = some u → (w.alloc (.cells #[.int .u8 b.toNat] 5)).cell? ((⟨g, 0, none⟩ : Addr).add j) = some u := World.ownsRow.cells (base := 0) (e := 5) (size := 1) ⟨hl, .inr ⟨g, cap, cur, rfl, hbg, hg, hnc, hcm, hcs, htake⟩⟩ (g := g) rfl
      have hr := run_append_grow (P := Tryz.prog) (w.alloc (.cells #[.int .u8 b.toNat] 5)) 60 60 5 i (.int .u8 0) under53 h1 h4 ⟨g, 0, none⟩ xs.length cap (xs.map bv) (by rw [h2]; simp) holds ⟨w.heap.size, 0, none⟩ 1 1 ([b].map bv) (by rw [h2]; rfl) hnews (by omega) (by omega) (by rw [h3]; exact growslice_fits_wide (by omega) (by omega))
      obtain ⟨r2, r3⟩ := row_grown (w.alloc (.cells #[.int .u8 b.toNat] 5)) xs.length 1 cap xs [b] rfl rfl (by unfold maxLen; omega) (some g)
      exact ⟨_, _, hr, r2, fin _ r3, .inr ⟨w.heap.size + 1, by simp [Value.ownBlock, World.size_alloc], by omega⟩⟩
set_option maxRecDepth 100000 in
theorem app_str_w {w : World} {v : Value} {xs : List UInt8} (h : Row w v xs) (s : ByteArray) (hsz : xs.length + s.size ≤ 180000000000000) (hs : s.size ≤ 140737488355328) :
    ∃ v' w', (Builtin.append_ #[60, 9] 60 #[v, .string s]).run Tryz.prog w = .ok v' w' ∧ Row w' v' (xs ++ sl s) ∧ w.grownBy w' v.ownBlock ∧ (v'.ownBlock = v.ownBlock ∨ ∃ k, v'.ownBlock = some k ∧ w.heap.size ≤ k) := by
  by_cases hsm : xs.length + s.size ≤ 140737488355328
  · exact app_str h s hsm
  obtain ⟨i, h1, h2, h3, h4⟩ := info5
  obtain ⟨hl, h5⟩ := h
  rcases h5 with ⟨rfl, h0⟩ | ⟨g, cap, cur, rfl, hbg, hg, hnc, hcm, hcs, htake⟩
  · omega
  · have hcs' : cur.size = cap := by simpa using hcs
    have htk : cur.toList.take xs.length = xs.map bv := by simpa using htake
    by_cases hroom : xs.length + s.size ≤ cap
    · have hr := Lib.run_append_room_string (P := Tryz.prog) w 60 9 60 5 i under53 under9 h1 h2 g xs.length cap cur hg s hroom (by omega)
      rw [sl_cells] at hr
      obtain ⟨r2, r3⟩ := row_room (news := sl s) (m := s.size) hg hcm hcs' htk rfl (sl_len s) hroom
      exact ⟨_, _, hr, r2, r3, .inl rfl⟩
    · have holds : ∀ j u, (xs.map bv)[j]? = some u → w.cell? ((⟨g, 0, none⟩ : Addr).add j) = some u := World.ownsRow.cells (w := w) (base := 0) (e := 5) (size := 1) ⟨hl, .inr ⟨g, cap, cur, rfl, hbg, hg, hnc, hcm, hcs, htake⟩⟩ (g := g) rfl
      have hr := Lib.run_append_grow_string (P := Tryz.prog) w 60 9 60 5 i (.int .u8 0) under53 under9 h1 h4 ⟨g, 0, none⟩ xs.length cap (xs.map bv) (by rw [h2]; simp) holds s (by omega) (by omega) (by rw [h3]; exact growslice_fits_wide (by omega) (by omega))
      rw [sl_cells] at hr
      obtain ⟨r2, r3⟩ := row_grown w xs.length s.size cap xs (sl s) rfl (sl_len s) (by unfold maxLen; omega) (some g)
      exact ⟨_, _, hr, r2, r3, .inr ⟨_, rfl, Nat.le_refl _⟩⟩
end Go.Proofs.YtldnpebnpbahjaaGreatDoor.Pk

