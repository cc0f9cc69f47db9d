/- gate: intents, and the map that they wait in. -/
import Derived.Test.YtjoodembmjooaaaS2
import Derived.Maps.OwnSet
import Derived.Maps.RangeWalk
namespace Go.Proofs.Ytjoodembmjooaaa
open Go Go.RowKit Go.Maps

structure Itn where
  pl : Int
  th : Int
  tu : Int
  fi : Bool
  bo : Bool
instance : Inhabited Itn := ⟨⟨0, 0, 0, false, false⟩⟩
def itv (x : Itn) : List Value := [iv x.pl, iv x.th, iv x.tu, .bool x.fi, .bool x.bo]
abbrev itw (x : Itn) : Value := .agg (itv x).toArray
def zI : Itn := ⟨0, 0, 0, false, false⟩
theorem itv_len (x : Itn) : (itv x).length = 5 := rfl
theorem itv_one (x : Itn) : ∀ u ∈ itv x, u.oneCell' = true := by
  intro u hu
  simp only [itv, List.mem_cons, List.not_mem_nil, or_false] at hu
  rcases hu with rfl | rfl | rfl | rfl | rfl <;> rfl
def dat (x : Itn) : DataW Unit := .agg [.lit (.int .i64 x.pl), .lit (.int .i64 x.th), .lit (.int .i64 x.tu), .lit (.bool x.fi), .lit (.bool x.bo)]
theorem dat_inj {x y : Itn} (h : dat x = dat y) : x = y := by
  obtain ⟨a1, a2, a3, a4, a5⟩ := x
  obtain ⟨b1, b2, b3, b4, b5⟩ := y
  simp only [dat, DataW.agg.injEq, List.cons.injEq, DataW.lit.injEq, Lit.int.injEq, Lit.bool.injEq, true_and, and_true] at h
  obtain ⟨rfl, rfl, rfl, rfl, rfl⟩ := h
  rfl
/-- how an intent reads -/
def ieL : List Value → Option (DataW Unit × List MemPlace)
  | [.int .i64 a, .int .i64 b, .int .i64 c, .bool d, .bool e] => some (dat ⟨a, b, c, d, e⟩, [])
  | _ => none
def ie : Value → Option (DataW Unit × List MemPlace)
  | .agg cs => ieL cs.toList
  | _ => none
theorem ie_mk (x : Itn) : ie (itw x) = some (dat x, []) := rfl
theorem ie_any {v : Value} {y : DataW Unit × List MemPlace} (h : ie v = some y) : ∃ x, v = itw x ∧ y = (dat x, []) := by
  unfold ie at h
  split at h
  · rename_i cs
    have hcs : cs = cs.toList.toArray := by simp
    generalize cs.toList = l at h hcs
    subst hcs
    unfold ieL at h
    split at h
    · cases h
      exact ⟨⟨_, _, _, _, _⟩, rfl, rfl⟩
    · cases h
  · cases h
theorem ie_inv {v : Value} {x : Itn} {ps : List MemPlace} (h : ie v = some (dat x, ps)) : v = itw x := by
  obtain ⟨y, rfl, e⟩ := ie_any h
  simp only [Prod.mk.injEq] at e
  rw [dat_inj e.1]

/-- who waits under a number -/
def look : List Itn → Int → Option Itn
  | [], _ => none
  | x :: r, k => if x.pl = k then some x else look r k
/-- laid in its place -/
def ins (x : Itn) : List Itn → List Itn
  | [] => [x]
  | y :: r => if x.pl < y.pl then x :: y :: r else y :: ins x r
def rmk (M : List Itn) (k : Int) : List Itn := M.filter (fun x => decide (x.pl ≠ k))
def Srt (M : List Itn) : Prop := M.Pairwise (fun a b => a.pl < b.pl)
theorem look_mem {M : List Itn} {k : Int} {x : Itn} (h : look M k = some x) : x ∈ M ∧ x.pl = k := by
  induction M with
  | nil => simp [look] at h
  | cons y r ih =>
    by_cases e : y.pl = k
    · simp only [look, e, if_true, Option.some.injEq] at h
      subst h
      exact ⟨List.mem_cons_self .., e⟩
    · simp only [look, e, if_false] at h
      exact ⟨List.mem_cons_of_mem _ (ih h).1, (ih h).2⟩
theorem look_none {M : List Itn} {k : Int} : look M k = none ↔ ∀ x ∈ M, x.pl ≠ k := by
  induction M with
  | nil => simp [look]
  | cons y r ih =>
    by_cases e : y.pl = k
    · simp [look, e]
    · simp only [look, e, if_false, ih, List.mem_cons, forall_eq_or_imp]
      exact ⟨fun q => ⟨e, q⟩, fun q => q.2⟩
theorem look_of {M : List Itn} (hs : M.Pairwise (fun a b => a.pl ≠ b.pl)) {x : Itn} (hx : x ∈ M) : look M x.pl = some x := by
  induction M with
  | nil => cases hx
  | cons y r ih =>
    obtain ⟨h1, h2⟩ := List.pairwise_cons.1 hs
    rcases List.mem_cons.1 hx with rfl | hx
    · simp [look]
    · have : y.pl ≠ x.pl := h1 x hx
      simp only [look, this, if_false]
      exact ih h2 hx
theorem look_ins (x : Itn) (k : Int) : ∀ (M : List Itn), look M x.pl = none → look (ins x M) k = if k = x.pl then some x else look M k
  | [], _ => by
    by_cases e : k = x.pl
    · simp [ins, look, e]
    · simp [ins, look, e, Ne.symm e]
  | y :: r, h => by
    have hy := (look_none.1 h) y (List.mem_cons_self ..)
    have hr : look r x.pl = none := by simpa [look, hy] using h
    unfold ins
    by_cases c : x.pl < y.pl
    · rw [if_pos c]
      by_cases e : k = x.pl
      · simp [look, e]
      · simp only [look, e, Ne.symm e, if_false]
    · rw [if_neg c]
      have ih := look_ins x k r hr
      by_cases e : y.pl = k
      · subst e
        simp only [look, if_true, hy, if_false]
      · simp only [look, e, if_false]
        exact ih
theorem len_ins (x : Itn) : ∀ (M : List Itn), (ins x M).length = M.length + 1
  | [] => rfl
  | y :: r => by
    unfold ins
    split
    · rfl
    · rw [List.length_cons, len_ins x r, List.length_cons]
theorem mem_ins {x y : Itn} : ∀ {M : List Itn}, y ∈ ins x M ↔ y = x ∨ y ∈ M
  | [] => by simp [ins]
  | z :: r => by
    unfold ins
    split
    · simp
    · simp only [List.mem_cons, mem_ins (M := r)]
      constructor
      · rintro (h | h | h)
        · exact .inr (.inl h)
        · exact .inl h
        · exact .inr (.inr h)
      · rintro (h | h | h)
        · exact .inr (.inl h)
        · exact .inl h
        · exact .inr (.inr h)
theorem Srt.ins {x : Itn} : ∀ {M : List Itn}, Srt M → look M x.pl = none → Srt (ins x M)
  | [], _, _ => List.pairwise_singleton _ _
  | y :: r, h, hn => by
    obtain ⟨h1, h2⟩ := List.pairwise_cons.1 h
    have hy := (look_none.1 hn) y (List.mem_cons_self ..)
    have hr : look r x.pl = none := by simpa [look, hy] using hn
    unfold Go.Proofs.Ytjoodembmjooaaa.ins
    by_cases c : x.pl < y.pl
    · rw [if_pos c]
      refine List.pairwise_cons.2 ⟨fun z hz => ?_, h⟩
      rcases List.mem_cons.1 hz with rfl | hz
      · exact c
      · have := h1 z hz
        omega
    · rw [if_neg c]
      refine List.pairwise_cons.2 ⟨fun z hz => ?_, Srt.ins h2 hr⟩
      rcases mem_ins.1 hz with rfl | hz
      · omega
      · exact h1 z hz
theorem Srt.rmk {M : List Itn} (h : Srt M) (k : Int) : Srt (rmk M k) := List.Pairwise.sublist List.filter_sublist h
theorem Srt.ne {M : List Itn} (h : Srt M) : M.Pairwise (fun a b => a.pl ≠ b.pl) := h.imp (fun hab => by omega)
theorem look_rmk (M : List Itn) (k k' : Int) : look (rmk M k) k' = if k' = k then none else look M k' := by
  induction M with
  | nil => simp [look, rmk]
  | cons y r ih =>
    unfold rmk at ih ⊢
    rw [List.filter_cons]
    by_cases h : y.pl = k
    · simp only [h, ne_eq, not_true_eq_false, decide_false, Bool.false_eq_true, if_false]
      rw [ih]
      by_cases e : k' = k
      · simp [e]
      · simp only [e, if_false, look, h, Ne.symm e]
    · simp only [ne_eq, h, not_false_eq_true, decide_true, if_true, look]
      rw [ih]
      by_cases e : k' = k
      · subst e
        simp [h]
      · simp only [e, if_false]
theorem rmk_none {M : List Itn} {k : Int} (h : look M k = none) : rmk M k = M := by
  refine List.filter_eq_self.2 fun x hx => ?_
  simpa using look_none.1 h x hx
theorem rmk_perm {M : List Itn} (hs : M.Pairwise (fun a b => a.pl ≠ b.pl)) {x : Itn} (hx : x ∈ M) : (x :: rmk M x.pl).Perm M := by
  obtain ⟨A, C, rfl⟩ := List.append_of_mem hx
  rw [List.pairwise_append] at hs
  obtain ⟨_, h2, h3⟩ := hs
  obtain ⟨h4, _⟩ := List.pairwise_cons.1 h2
  have e : rmk (A ++ x :: C) x.pl = A ++ C := by
    unfold rmk
    rw [List.filter_append, List.filter_cons]
    simp only [ne_eq, not_true_eq_false, decide_false, Bool.false_eq_true, if_false]
    rw [List.filter_eq_self.2 (fun y hy => by simpa using h3 y hy x (List.mem_cons_self ..)), List.filter_eq_self.2 (fun y hy => by simpa using (h4 y hy).symm)]
  rw [e]
  exact List.perm_middle.symm
theorem rmk_len {M : List Itn} (hs : M.Pairwise (fun a b => a.pl ≠ b.pl)) {k : Int} {x : Itn} (h : look M k = some x) : (rmk M k).length + 1 = M.length := by
  obtain ⟨hx, rfl⟩ := look_mem h
  have := (rmk_perm hs hx).length_eq
  simpa using this
theorem strict_ext : ∀ (A B : List Itn), Srt A → Srt B → (∀ s, s ∈ A ↔ s ∈ B) → A = B
  | [], [], _, _, _ => rfl
  | [], b :: B, _, _, h => by have := (h b).2 (List.mem_cons_self ..); cases this
  | a :: A, [], _, _, h => by have := (h a).1 (List.mem_cons_self ..); cases this
  | a :: A, b :: B, hA, hB, h => by
    obtain ⟨lA, gA⟩ := List.pairwise_cons.1 hA
    obtain ⟨lB, gB⟩ := List.pairwise_cons.1 hB
    clear hA hB
    have e : a = b := by
      rcases List.mem_cons.1 ((h a).1 (List.mem_cons_self ..)) with q | q
      · exact q
      · rcases List.mem_cons.1 ((h b).2 (List.mem_cons_self ..)) with z | z
        · exact z.symm
        · have := lB a q; have := lA b z; omega
    subst e
    rw [strict_ext A B gA gB fun s => ⟨fun hs => ?_, fun hs => ?_⟩]
    · rcases List.mem_cons.1 ((h s).1 (List.mem_cons_of_mem _ hs)) with q | q
      · subst q; have := lA _ hs; omega
      · exact q
    · rcases List.mem_cons.1 ((h s).2 (List.mem_cons_of_mem _ hs)) with q | q
      · subst q; have := lB _ hs; omega
      · exact q

abbrev ik (k : Int) : Lit := .int .i64 k
/-- a number of a player: any int -/
def I64 (k : Int) : Prop := -9223372036854775808 ≤ k ∧ k ≤ 9223372036854775807
theorem ownsMap_tight {k : TypeId} {R : Value → Option (DataW Unit × List MemPlace)} {w : World} {b n : Nat} {D : DataW Unit} (h : w.ownsMap Try.prog k R b n D) : w.ownsMap Try.prog k R b (Maps.size D) D := by
  obtain ⟨es, clock, h1, h2, h3, rfl⟩ := h
  exact ⟨es, clock, h1, h2, by simp [Maps.size, length_sorted], rfl⟩
structure MapIs (w : World) (mb : Nat) (M : List Itn) : Prop where
  o : ∃ D : DataW Unit, w.ownsMap Try.prog 3 ie mb M.length D ∧ Maps.size D = M.length ∧ (∀ k, Maps.has D (ik k) = (look M k).isSome) ∧ ∀ k z, D.atKey (ik k) z = match look M k with | some x => dat x | none => z
theorem law3 : Keyed Try.prog 3 := int_keyed Try.underlying3
theorem zero36 (w : World) : (zeroValue 36).run Try.prog w = .ok (itw zI) w := by
  simp [zeroValue]; rfl
theorem key3 (k : Int) (hk : I64 k) : keyOf Try.prog 3 (iv k) = some (ik k) := keyOf_int_mk Try.underlying3 (by
  unfold I64 at hk
  simp [Lit.wf, IntKind.min, IntKind.max, IntKind.bits, IntKind.signed]; omega)
def vOf : Option Itn → Value
  | none => itw zI
  | some x => itw x
theorem MapIs.look {w : World} {mb : Nat} {M : List Itn} (h : MapIs w mb M) (k : Int) (hk : I64 k) :
    (Instr.lookup 46 (.map (some mb)) (iv k) true).run Try.prog w = .ok (.tuple #[vOf (look M k), .bool (look M k).isSome]) w := by
  obtain ⟨D, o, _, h2, h3⟩ := h.o
  obtain ⟨v, ps, r1, r2⟩ := o.look_ok law3 Try.underlying46 (zero36 w) (ie_mk zI) (key3 k hk)
  rw [r1, h2]
  rw [h3] at r2
  congr 4
  cases hl : Go.Proofs.Ytjoodembmjooaaa.look M k with
  | none => rw [hl] at r2; exact ie_inv r2
  | some b => rw [hl] at r2; exact ie_inv r2
theorem MapIs.len {w : World} {mb : Nat} {M : List Itn} (h : MapIs w mb M) (ty : TypeId) : (Builtin.len_ #[46] ty #[.map (some mb)]).run Try.prog w = .ok (.int .i64 (M.length : Nat)) w := by
  obtain ⟨D, o, h1, _, _⟩ := h.o
  rw [o.len Try.underlying46, h1]
theorem key_ne {a b : Int} (h : a ≠ b) : ik a ≠ ik b := fun e => h (by injection e)
theorem MapIs.new (w : World) : MapIs (w.alloc (.map #[] 0)) w.heap.size [] := by
  refine ⟨_, World.ownsMap_made w _ _ _, rfl, fun k => rfl, fun k z => ?_⟩
  simp [Go.Proofs.Ytjoodembmjooaaa.look]; exact Maps.atKey_of_not_has rfl _
theorem MapIs.put {w : World} {mb : Nat} {M : List Itn} (h : MapIs w mb M) (x : Itn) (hk : I64 x.pl) (hn : Go.Proofs.Ytjoodembmjooaaa.look M x.pl = none) (hl : M.length < 9223372036854775807) :
    ∃ w', (Instr.mapUpdate 46 (.map (some mb)) (iv x.pl) (itw x)).run Try.prog w = .ok () w' ∧ MapIs w' mb (ins x M) ∧ w.grownBy w' (some mb) ∧ w'.heap.size = w.heap.size := by
  obtain ⟨D, o, h1, h2, h3⟩ := h.o
  obtain ⟨w', r1, r2, r3⟩ := o.store law3 Try.underlying46 (by unfold maxLen; omega) (key3 x.pl hk) (ie_mk x)
  have t := o.tidy law3
  have hh : Maps.has D (ik x.pl) = false := by rw [h2, hn]; rfl
  have hs : Maps.size (D.put (ik x.pl) (dat x)) = M.length + 1 := by
    rw [Maps.size_put t, hh, h1]; rfl
  refine ⟨w', r1, ⟨_, (ownsMap_tight r2).mono (by rw [hs, len_ins]; exact Nat.le_refl _), by rw [hs, len_ins], fun k' => ?_, fun k' z => ?_⟩, r3.grown, ?_⟩
  · rw [look_ins x k' M hn]
    by_cases e : k' = x.pl
    · subst e
      rw [Maps.has_put_same (k := ik x.pl) t.isMap trivial, if_pos rfl]; rfl
    · rw [Maps.has_put_other (key_ne e), h2, if_neg e]
  · rw [look_ins x k' M hn]
    by_cases e : k' = x.pl
    · subst e
      rw [Maps.atKey_put_same (k := ik x.pl) t.isMap trivial, if_pos rfl]
    · rw [Maps.atKey_put_other (key_ne e), h3, if_neg e]
  · obtain ⟨_, _, _, _, _, rfl⟩ := r3
    simp [ChangeMaps.setBlock]
theorem MapIs.drop {w : World} {mb : Nat} {M : List Itn} (h : MapIs w mb M) (k : Int) (hk : I64 k) (ty : TypeId) (hd : Srt M) :
    ∃ w', (Builtin.delete_ #[46, 3] ty #[.map (some mb), iv k]).run Try.prog w = .ok (.tuple #[]) w' ∧ MapIs w' mb (rmk M k) ∧ w.grownBy w' (some mb) ∧ w'.heap.size = w.heap.size := by
  obtain ⟨D, o, h1, h2, h3⟩ := h.o
  obtain ⟨w', r1, r2, r3⟩ := o.drop law3 Try.underlying46 (key3 k hk) ty
  have t := o.tidy law3
  have hs0 := Maps.size_del (k := ik k) t
  have hs : Maps.size (D.del (ik k)) = (rmk M k).length := by
    rw [h2, h1] at hs0
    cases hl : Go.Proofs.Ytjoodembmjooaaa.look M k with
    | none =>
      rw [hl] at hs0
      rw [rmk_none hl]
      simpa using hs0
    | some x =>
      rw [hl] at hs0
      have := rmk_len hd.ne hl
      simp at hs0
      omega
  refine ⟨w', r1, ⟨_, (ownsMap_tight r2).mono (by rw [hs]; exact Nat.le_refl _), hs, fun k' => ?_, fun k' z => ?_⟩, r3.grown, ?_⟩
  · rw [look_rmk]
    by_cases e : k' = k
    · subst e
      rw [Maps.has_del_same, if_pos rfl]; rfl
    · rw [Maps.has_del_other (key_ne e), h2, if_neg e]
  · rw [look_rmk]
    by_cases e : k' = k
    · subst e
      rw [Maps.atKey_del_same, if_pos rfl]
    · rw [Maps.atKey_del_other (key_ne e), h3, if_neg e]
  · obtain ⟨_, _, _, _, _, rfl⟩ := r3
    simp [ChangeMaps.setBlock]
theorem MapIs.lt {w : World} {mb : Nat} {M : List Itn} (h : MapIs w mb M) : mb < w.heap.size := by
  obtain ⟨D, o, h1⟩ := h.o
  exact o.lt
theorem MapIs.fr {S : Nat → Prop} {w w' : World} {mb : Nat} {M : List Itn} (h : MapIs w mb M) (f : Fr S w w') (hs : ¬ S mb) : MapIs w' mb M := by
  obtain ⟨D, o, h1⟩ := h.o
  have := o.lt
  obtain ⟨es, clock, q1, q2, q3, rfl⟩ := o
  exact ⟨_, ⟨es, clock, by rw [f.block mb this hs]; exact q1, q2, q3, rfl⟩, h1⟩
theorem MapIs.clear {w : World} {mb : Nat} {M : List Itn} (h : MapIs w mb M) (ty : TypeId) :
    ∃ w', (Builtin.clear_ #[46] ty #[.map (some mb)]).run Try.prog w = .ok (.tuple #[]) w' ∧ MapIs w' mb [] ∧ w.grownBy w' (some mb) ∧ w'.heap.size = w.heap.size := by
  obtain ⟨D, o, _⟩ := h.o
  obtain ⟨es, clock, q1, q2, q3, rfl⟩ := o
  have hlt := h.lt
  refine ⟨ChangeMaps.setBlock w mb (.map #[] clock), ?_, ?_, ?_, ?_⟩
  · simp [Builtin.clear_, run_underlying Try.underlying46, MapKept.run_getObj_map q1, MapKept.run_setObj_map _ q1, Result.andThen]
    rfl
  · refine ⟨.map [], ⟨#[], clock, ChangeMaps.heap_setBlock_same q1 _, ⟨by simp, MapKept.stamped_empty clock, by simp⟩, by simp, rfl⟩, rfl, fun k => rfl, fun k z => rfl⟩
  · exact ⟨rfl, rfl, rfl, by simp [ChangeMaps.setBlock], fun i _ hi => ChangeMaps.heap_setBlock_other q1 _ (fun e => hi (by rw [e]))⟩
  · simp [ChangeMaps.setBlock]
/-- the map, as a thing that lies apart -/
def mapA (mb : Nat) (M : List Itn) : As :=
  ⟨fun W F => MapIs W mb M ∧ F = fun i => i = mb, fun S W W' F h f hs => ⟨h.1.fr f (hs mb (by rw [h.2])), h.2⟩, fun W F h i hi => by rw [h.2] at hi; have hi : i = mb := hi; rw [hi]; exact h.1.lt⟩
theorem Sep.mapGet {w0 W : World} {l : List As} {mb : Nat} {M : List Itn} (h : Sep w0 W l) (hm : mapA mb M ∈ l) : MapIs W mb M := by
  obtain ⟨F, q, _⟩ := h.get hm
  exact q
theorem Sep.mapTo {w0 W W' : World} {l : List As} {mb : Nat} {M M' : List Itn} (h : Sep w0 W (mapA mb M :: l)) (m : MapIs W' mb M') (g : W.grownBy W' (some mb)) : Sep w0 W' (mapA mb M' :: l) := by
  obtain ⟨F, ⟨h1, rfl⟩, _, hu⟩ := h.use
  exact hu W' [_] (Fr.ofSome g rfl) (Loc.one (a := mapA _ _) _ ⟨m, rfl⟩ (fun i hi => .inl hi))
theorem Sep.mapNew {w0 W : World} {l : List As} (h : Sep w0 W l) : Sep w0 (W.alloc (.map #[] 0)) (mapA W.heap.size [] :: l) :=
  h.new (World.grownBy_alloc _ _ _) (Loc.one (a := mapA _ _) _ ⟨MapIs.new W, rfl⟩ (fun i hi => .inr (by rw [hi]; exact Nat.le_refl _)))

/-- the iterator in block r goes over the map in block mb, which holds M; L is still to come -/
structure Rng (w : World) (mb r : Nat) (M L : List Itn) : Prop where
  o : ∃ (D : DataW Unit) (left : Lit → Bool) (cnt : Nat), w.ranges Try.prog 3 ie mb r M.length D left cnt ∧ (∀ k z, D.atKey (ik k) z = match look M k with | some x => dat x | none => z) ∧ ∀ k, left (ik k) = (look L k).isSome
  sub : ∀ x ∈ L, look M x.pl = some x
  nd : L.Pairwise (fun a b => a.pl ≠ b.pl)
theorem wpList_range_s {ops : Array Oper} {rest : List Oper} {o : Oper} {a : Act} {Q : Exit → Act → World → Prop} (w : World) (hg : o.guard = none) (m : Operand) (hop : o.op = Op.range 46 m) (mb : Nat) (M : List Itn) (hm : a.eval m = .map (some mb)) (h : MapIs w mb M) (hd : Srt M)
    (hK : ∀ w', Rng w' mb w.heap.size M M → w.grownBy w' none → w'.heap.size = w.heap.size + 1 → wpList Try.prog ops Q rest (a.put o.dst (.pointer (some ⟨w.heap.size, 0, none⟩))) w') : wpList Try.prog ops Q (o :: rest) a w := by
  obtain ⟨D, ow, h1, h2, h3⟩ := h.o
  refine wpList_range_own w hg m 46 hop 3 36 law3 Try.underlying46 ie mb M.length D hm ow ?_
  intro w' hr g hs
  exact hK w' ⟨⟨D, _, _, hr, h3, fun k => h2 k⟩, fun x hx => look_of hd.ne hx, hd.ne⟩ g hs
theorem wpList_next_s {ops : Array Oper} {rest : List Oper} {o : Oper} {a : Act} {Q : Exit → Act → World → Prop} (w : World) (hg : o.guard = none) (it : Operand) (hop : o.op = Op.next it false) (mb r : Nat) (M L : List Itn) (hit : a.eval it = .pointer (some ⟨r, 0, none⟩)) (h : Rng w mb r M L)
    (hDone : L = [] → wpList Try.prog ops Q rest (a.put o.dst (.tuple #[.bool false])) w)
    (hMore : ∀ (x : Itn) (w' : World), x ∈ L → I64 x.pl → Rng w' mb r M (rmk L x.pl) → w'.rangeLeft mb r < w.rangeLeft mb r → w.grownBy w' (some r) → w'.heap.size = w.heap.size →
      (Instr.entry (.pointer (some ⟨r, 0, none⟩))).run Try.prog w' = .ok (.tuple #[iv x.pl, itw x]) w' → wpList Try.prog ops Q rest (a.put o.dst (.tuple #[.bool true, iv x.pl, itw x])) w') : wpList Try.prog ops Q (o :: rest) a w := by
  obtain ⟨D, left, cnt, hr, h3, h4⟩ := h.o
  refine wpList_next_ranges w hg it hop 3 law3 ie (Value.int .i64) itw (fun key kl hkey => by obtain ⟨x, rfl, _⟩ := Maps.keyOf_int_inv Try.underlying3 hkey; exact ⟨x, rfl⟩) (fun v y hv => by obtain ⟨x, e, _⟩ := ie_any hv; exact ⟨x, e⟩) mb r M.length D left cnt hit hr ?_ ?_
  · intro _ hl
    refine hDone ?_
    cases L with
    | nil => rfl
    | cons p q =>
      have := hl (ik p.pl)
      rw [h4] at this
      simp [look] at this
  · intro x c kl y w' cnt' hkey hlk hv hat hrg hlt hgr hsz hen
    obtain ⟨x', ex, rfl, hwx⟩ := Maps.keyOf_int_inv Try.underlying3 hkey
    cases ex
    have hwf : I64 x := by
      unfold I64
      simp [Lit.wf, IntKind.min, IntKind.max, IntKind.bits, IntKind.signed] at hwx
      omega
    have hkL : (look L x).isSome = true := by rw [← h4 x]; exact hlk
    obtain ⟨p, hp⟩ := Option.isSome_iff_exists.1 hkL
    obtain ⟨hpL, rfl⟩ := look_mem hp
    have hlook := h.sub p hpL
    have ha := hat (.lit (.int .i64 0))
    rw [h3, hlook] at ha
    have hc : itw c = itw p := by
      obtain ⟨yd, yp⟩ := y
      simp only at ha
      subst ha
      exact ie_inv hv
    rw [hc] at hen ⊢
    refine hMore p w' hpL hwf ⟨⟨D, _, cnt', hrg, h3, fun k' => ?_⟩, fun q hq => h.sub q (List.mem_filter.1 hq).1, List.Pairwise.sublist List.filter_sublist h.nd⟩ (by rw [hrg.left_eq, hr.left_eq]; exact hlt) hgr hsz hen
    rw [h4, look_rmk]
    by_cases e : k' = p.pl
    · subst e
      simp [Lit.sameKey]
    · have e2 : (ik k').sameKey (ik p.pl) = false := by
        simp [Lit.sameKey]
        omega
      rw [e2, if_neg e]
      simp only [Bool.not_false, Bool.and_true]
end Go.Proofs.Ytjoodembmjooaaa
