/- maps of the call's own, by what they hold; things that are seen -/
import Derived.Test.YtfhhneibdmjfgabL3
import Derived.Maps.OwnSet
import Derived.DeepKeys4
namespace Go.Proofs.Ytfhhneibdmjfgab
open Go Go.RowKit Go.Maps Sm

theorem ownsMap_tight {k : TypeId} {R : Value → Option (DataW Unit × List MemPlace)} {w : World} {b n : Nat} {D : DataW Unit} (h : w.ownsMap Try.prog k R b n D) : w.ownsMap Try.prog k R b (Maps.size D) D := by
  obtain ⟨es, clock, h1, h2, h3, rfl⟩ := h
  exact ⟨es, clock, h1, h2, by simp [Maps.size, length_sorted], rfl⟩
/-- a kind of maps: how keys and elements lie and read -/
structure MK (κ β : Type) where
  t : TypeId
  k : TypeId
  e : TypeId
  kv : κ → Value
  kl : κ → Lit
  ok : κ → Prop
  ev : β → Value
  ed : β → DataW Unit
  R : Value → Option (DataW Unit × List MemPlace)
  z : β
  law : Keyed Try.prog k
  und : Try.prog.underlying t = some (.map k e)
  key : ∀ x, ok x → keyOf Try.prog k (kv x) = some (kl x)
  lit : ∀ x, WideAt.IsKeyLit (kl x)
  kinj : ∀ x y, ok x → ok y → kl x = kl y → x = y
  rd : ∀ x, R (ev x) = some (ed x, [])
  rinv : ∀ v x ps, R v = some (ed x, ps) → v = ev x
  zero : ∀ w : World, (zeroValue e).run Try.prog w = .ok (ev z) w
section
variable {κ β : Type}
structure MapF (S : MK κ β) (w : World) (mb m : Nat) (f : κ → Option β) : Prop where
  o : ∃ D : DataW Unit, w.ownsMap Try.prog S.k S.R mb m D ∧ Maps.size D = m ∧ (∀ x, S.ok x → Maps.has D (S.kl x) = (f x).isSome) ∧ ∀ x, S.ok x → ∀ z, D.atKey (S.kl x) z = match f x with | some y => S.ed y | none => z
def upd [DecidableEq κ] (f : κ → Option β) (k : κ) (v : Option β) : κ → Option β := fun x => if x = k then v else f x
theorem upd_same [DecidableEq κ] (f : κ → Option β) (k : κ) (v : Option β) : upd f k v k = v := by simp [upd]
theorem upd_other [DecidableEq κ] (f : κ → Option β) {k x : κ} (v : Option β) (h : x ≠ k) : upd f k v x = f x := by simp [upd, h]
theorem MapF.look {S : MK κ β} {w : World} {mb m : Nat} {f : κ → Option β} (h : MapF S w mb m f) (x : κ) (hx : S.ok x) :
    (Instr.lookup S.t (.map (some mb)) (S.kv x) false).run Try.prog w = .ok (S.ev ((f x).getD S.z)) w := by
  obtain ⟨D, o, _, h2, h3⟩ := h.o
  obtain ⟨v, ps, r1, r2⟩ := o.lookup S.law S.und (S.zero w) (S.rd S.z) (S.key x hx)
  rw [r1]
  rw [h3 x hx] at r2
  cases hf : f x with
  | none => rw [hf] at r2; rw [S.rinv _ _ _ r2]; rfl
  | some y => rw [hf] at r2; rw [S.rinv _ _ _ r2]; rfl
theorem MapF.new (S : MK κ β) (w : World) : MapF S (w.alloc (.map #[] 0)) w.heap.size 0 (fun _ => none) := by
  refine ⟨_, World.ownsMap_made w _ _ _, rfl, fun k _ => rfl, fun k _ z => ?_⟩
  exact Maps.atKey_of_not_has rfl _
theorem kl_ne {S : MK κ β} {x y : κ} (hx : S.ok x) (hy : S.ok y) (h : x ≠ y) : S.kl x ≠ S.kl y := fun e => h (S.kinj x y hx hy e)
theorem MapF.put [DecidableEq κ] {S : MK κ β} {w : World} {mb m : Nat} {f : κ → Option β} (h : MapF S w mb m f) (x : κ) (hx : S.ok x) (y : β) (hl : m < 9223372036854775807) :
    ∃ w', (Instr.mapUpdate S.t (.map (some mb)) (S.kv x) (S.ev y)).run Try.prog w = .ok () w' ∧ MapF S w' mb (if (f x).isSome then m else m + 1) (upd f x (some y)) ∧ w.grownBy w' (some mb) ∧ w'.heap.size = w.heap.size := by
  obtain ⟨D, o, h1, h2, h3⟩ := h.o
  obtain ⟨w', r1, r2, r3⟩ := o.store S.law S.und (by unfold maxLen; omega) (S.key x hx) (S.rd y)
  have t := o.tidy S.law
  have hs : Maps.size (D.put (S.kl x) (S.ed y)) = if (f x).isSome then m else m + 1 := by
    rw [Maps.size_put t, h2 x hx, h1]
    
  refine ⟨w', r1, ⟨_, (ownsMap_tight r2).mono (by rw [hs]; exact Nat.le_refl _), hs, fun k' hk' => ?_, fun k' hk' z => ?_⟩, r3.grown, ?_⟩
  · by_cases e : k' = x
    · subst e
      rw [Maps.has_put_same t.isMap (S.lit _), upd_same]; rfl
    · rw [Maps.has_put_other (kl_ne hk' hx e), h2 _ hk', upd_other _ _ e]
  · by_cases e : k' = x
    · subst e
      rw [Maps.atKey_put_same t.isMap (S.lit _), upd_same]
    · rw [Maps.atKey_put_other (kl_ne hk' hx e), h3 _ hk', upd_other _ _ e]
  · obtain ⟨_, _, _, _, _, rfl⟩ := r3
    simp [ChangeMaps.setBlock]
theorem MapF.drop [DecidableEq κ] {S : MK κ β} {w : World} {mb m : Nat} {f : κ → Option β} (h : MapF S w mb m f) (x : κ) (hx : S.ok x) (ty : TypeId) :
    ∃ w', (Builtin.delete_ #[S.t, S.k] ty #[.map (some mb), S.kv x]).run Try.prog w = .ok (.tuple #[]) w' ∧ MapF S w' mb (if (f x).isSome then m - 1 else m) (upd f x none) ∧ w.grownBy w' (some mb) ∧ w'.heap.size = w.heap.size := by
  obtain ⟨D, o, h1, h2, h3⟩ := h.o
  obtain ⟨w', r1, r2, r3⟩ := o.drop S.law S.und (S.key x hx) ty
  have t := o.tidy S.law
  have hs : Maps.size (D.del (S.kl x)) = if (f x).isSome then m - 1 else m := by
    have hs0 := Maps.size_del (k := S.kl x) t
    rw [h2 x hx, h1] at hs0
    cases hf : f x <;> simp [hf] at hs0 ⊢ <;> omega
  refine ⟨w', r1, ⟨_, (ownsMap_tight r2).mono (by rw [hs]; exact Nat.le_refl _), hs, fun k' hk' => ?_, fun k' hk' z => ?_⟩, r3.grown, ?_⟩
  · by_cases e : k' = x
    · subst e
      rw [Maps.has_del_same, upd_same]; rfl
    · rw [Maps.has_del_other (kl_ne hk' hx e), h2 _ hk', upd_other _ _ e]
  · by_cases e : k' = x
    · subst e
      rw [Maps.atKey_del_same, upd_same]
    · rw [Maps.atKey_del_other (kl_ne hk' hx e), h3 _ hk', upd_other _ _ e]
  · obtain ⟨_, _, _, _, _, rfl⟩ := r3
    simp [ChangeMaps.setBlock]
theorem MapF.lt {S : MK κ β} {w : World} {mb m : Nat} {f : κ → Option β} (h : MapF S w mb m f) : mb < w.heap.size := by
  obtain ⟨D, o, h1⟩ := h.o
  exact o.lt
theorem MapF.fr {S : MK κ β} {T : Nat → Prop} {w w' : World} {mb m : Nat} {f : κ → Option β} (h : MapF S w mb m f) (fr : Fr T w w') (hs : ¬ T mb) : MapF S w' mb m f := by
  obtain ⟨D, o, h1⟩ := h.o
  have := o.lt
  obtain ⟨es, clock, q1, q2, q3, rfl⟩ := o
  exact ⟨_, ⟨es, clock, by rw [fr.block mb this hs]; exact q1, q2, q3, rfl⟩, h1⟩
/-- the map, as a thing that lies apart -/
def mapA (S : MK κ β) (mb m : Nat) (f : κ → Option β) : As :=
  ⟨fun W F => MapF S W mb m f ∧ F = fun i => i = mb, fun T W W' F h fr hs => ⟨h.1.fr fr (hs mb (by rw [h.2])), h.2⟩, fun W F h i hi => by rw [h.2] at hi; have hi : i = mb := hi; rw [hi]; exact h.1.lt⟩
theorem Sep.mapGet {S : MK κ β} {w0 W : World} {l : List As} {mb m : Nat} {f : κ → Option β} (h : Sep w0 W l) (hm : mapA S mb m f ∈ l) : MapF S W mb m f := by
  obtain ⟨F, q, _⟩ := h.get hm
  exact q
theorem Sep.mapTo {S : MK κ β} {w0 W W' : World} {l : List As} {mb m m' : Nat} {f f' : κ → Option β} (h : Sep w0 W (mapA S mb m f :: l)) (q : MapF S W' mb m' f') (g : W.grownBy W' (some mb)) : Sep w0 W' (mapA S mb m' f' :: l) := by
  obtain ⟨F, ⟨h1, rfl⟩, _, hu⟩ := h.use
  exact hu W' [_] (Fr.ofSome g rfl) (Loc.one (a := mapA _ _ _ _) _ ⟨q, rfl⟩ (fun i hi => .inl hi))
theorem Sep.mapNew (S : MK κ β) {w0 W : World} {l : List As} (h : Sep w0 W l) : Sep w0 (W.alloc (.map #[] 0)) (mapA S W.heap.size 0 (fun _ => none) :: l) :=
  h.new (World.grownBy_alloc _ _ _) (Loc.one (a := mapA _ _ _ _) _ ⟨MapF.new S W, rfl⟩ (fun i hi => .inr (by rw [hi]; exact Nat.le_refl _)))
theorem MapF.look2 {S : MK κ β} {w : World} {mb m : Nat} {f : κ → Option β} (h : MapF S w mb m f) (x : κ) (hx : S.ok x) :
    (Instr.lookup S.t (.map (some mb)) (S.kv x) true).run Try.prog w = .ok (.tuple #[S.ev ((f x).getD S.z), .bool (f x).isSome]) w := by
  obtain ⟨D, o, _, h2, h3⟩ := h.o
  obtain ⟨v, ps, r1, r2⟩ := o.look_ok S.law S.und (S.zero w) (S.rd S.z) (S.key x hx)
  rw [r1, h2 x hx]
  rw [h3 x hx] at r2
  cases hf : f x with
  | none => rw [hf] at r2; rw [S.rinv _ _ _ r2]; rfl
  | some y => rw [hf] at r2; rw [S.rinv _ _ _ r2]; rfl
end
def I64 (k : Int) : Prop := -9223372036854775808 ≤ k ∧ k ≤ 9223372036854775807
abbrev ik (k : Int) : Lit := .int .i64 k
theorem wf_i {k : Int} (hk : I64 k) : (Lit.int .i64 k).wf = true := by
  unfold I64 at hk
  simp [Lit.wf, IntKind.min, IntKind.max, IntKind.bits, IntKind.signed]; omega
abbrev ce (k : Int × Int) : Value := .agg #[iv k.1, iv k.2]
set_option maxRecDepth 100000 in
theorem laidOutM : laidOutB Try.prog = true := by kernel_rfl
theorem row61 : (52 : TypeId) < Try.prog.types.size := of_decide_eq_true (by kernel_rfl)
set_option maxRecDepth 100000 in
theorem wide61 : (match Try.prog.underlying 52 with | some (.array _ _) | some (.struct _) => true | _ => false) = true := by rw [Try.underlying52]
set_option maxRecDepth 100000 in
theorem law61 : WideMaps.KeyLaw Try.prog 52 := deep_law_laid laidOutM (m := 3) (by omega) row61 (by kernel_rfl) wide61
def ckl (k : Int × Int) : Lit := .string (keyBytes [ik k.1, ik k.2])
def I64p (k : Int × Int) : Prop := I64 k.1 ∧ I64 k.2
theorem key61 (k : Int × Int) (hk : I64p k) : keyOf Try.prog 52 (ce k) = some (ckl k) := by
  have h1 := wf_i hk.1
  have h2 := wf_i hk.2
  obtain ⟨n, hn⟩ : ∃ n, Try.prog.types.size = n + 1 := ⟨Try.prog.types.size - 1, by kernel_rfl⟩
  have hkt : Try.prog.keyType 52 = true := by kernel_rfl
  have hc : Try.prog.cellsOf 52 = 2 := by kernel_rfl
  have hc2 : Try.prog.cellsOf 3 = 1 := by kernel_rfl
  have hf : (Value.agg #[iv k.1, iv k.2]).formed Try.prog 52 = true := by simp [Value.formed, Try.underlying52, hc]
  unfold keyOf
  rw [Try.underlying52]
  simp only [hkt, hf, Bool.and_self, if_true]
  rw [hn]
  simp [Program.keyLits, Try.underlying52, hc, hc2, Value.cells, Try.underlying3, h1, h2, ckl]
/-- what is seen -/
structure Sn where
  k : Int
  i : Int
  x : Int
  y : Int
  h : Int
def snv (s : Sn) : List Value := [iv s.k, iv s.i, iv s.x, iv s.y, iv s.h]
abbrev snA (s : Sn) : Value := .agg #[iv s.k, iv s.i, iv s.x, iv s.y, iv s.h]
def zN : Sn := ⟨0, 0, 0, 0, 0⟩
def dat (x : Sn) : DataW Unit := .agg [.lit (.int .i64 x.k), .lit (.int .i64 x.i), .lit (.int .i64 x.x), .lit (.int .i64 x.y), .lit (.int .i64 x.h)]
theorem dat_inj {x y : Sn} (h : dat x = dat y) : x = y := by
  obtain ⟨a1, a2, a3, a4, a5⟩ := x
  obtain ⟨b1, b2, b3, b4, b5⟩ := y
  simp only [dat, DataW.agg.injEq, List.cons.injEq, DataW.lit.injEq, Lit.int.injEq, true_and, and_true] at h
  obtain ⟨rfl, rfl, rfl, rfl, rfl⟩ := h
  rfl
def ieL : List Value → Option (DataW Unit × List MemPlace)
  | [.int .i64 a, .int .i64 b, .int .i64 c, .int .i64 d, .int .i64 e] => some (dat ⟨a, b, c, d, e⟩, [])
  | _ => none
def ie : Value → Option (DataW Unit × List MemPlace)
  | .agg cs => ieL cs.toList
  | _ => none
theorem ie_mk (x : Sn) : ie (snA x) = some (dat x, []) := rfl
theorem ie_any {v : Value} {y : DataW Unit × List MemPlace} (h : ie v = some y) : ∃ x, v = snA x ∧ y = (dat x, []) := by
  unfold ie at h
  split at h
  · rename_i cs
    have hcs : cs = cs.toList.toArray := by simp
    generalize cs.toList = l at h hcs
    subst hcs
    unfold ieL at h
    split at h
    · cases h
      exact ⟨⟨_, _, _, _, _⟩, rfl, rfl⟩
    · cases h
  · cases h
theorem ie_inv (v : Value) (x : Sn) (ps : List MemPlace) (h : ie v = some (dat x, ps)) : v = snA x := by
  obtain ⟨y, rfl, e⟩ := ie_any h
  simp only [Prod.mk.injEq] at e
  rw [dat_inj e.1]
theorem zero33 (w : World) : (zeroValue 39).run Try.prog w = .ok (snA zN) w := by
  have h : (Try.prog.info? 39).map (·.zero) = some (some (snA zN)) := by kernel_rfl
  simp [zeroValue]
  rfl
def thM : MK (Int × Int) Sn where
  t := 48
  k := 52
  e := 39
  kv := ce
  kl := ckl
  ok := I64p
  ev := snA
  ed := dat
  R := ie
  z := zN
  law := Keyed.of_law law61
  und := Try.underlying48
  key := key61
  lit := fun _ => trivial
  kinj := fun x y hx hy h => by
    have h1 := law61.inj (key61 x hx) (by rw [h]; exact key61 y hy)
    obtain ⟨x1, x2⟩ := x
    obtain ⟨y1, y2⟩ := y
    simp only [ce, Value.agg.injEq, Array.mk.injEq, List.cons.injEq, Value.int.injEq, true_and, and_true] at h1
    rw [h1.1, h1.2]
  rd := ie_mk
  rinv := ie_inv
  zero := zero33
/-- the first of a kind and an id -/
def fst1 (L : List Sn) (k : Int × Int) : Option Sn := L.find? (fun s => decide (s.k = k.1 ∧ s.i = k.2))
theorem fst1_put {L : List Sn} {j : Nat} {s : Sn} (h : L[j]? = some s) (hn : fst1 (L.take j) (s.k, s.i) = none) : upd (fst1 (L.take j)) (s.k, s.i) (some s) = fst1 (L.take (j + 1)) := by
  obtain ⟨hj, rfl⟩ := List.getElem?_eq_some_iff.1 h
  funext k
  unfold fst1 upd
  rw [List.take_add_one, List.getElem?_eq_getElem hj, List.find?_append]
  by_cases e : k = (L[j].k, L[j].i)
  · subst e
    rw [if_pos rfl]
    unfold fst1 at hn
    rw [hn]
    simp
  · rw [if_neg e]
    have : ¬ (L[j].k = k.1 ∧ L[j].i = k.2) := fun q => e (by rw [q.1, q.2])
    simp [this]
theorem fst1_keep {L : List Sn} {j : Nat} {s u : Sn} (h : L[j]? = some s) (hn : fst1 (L.take j) (s.k, s.i) = some u) : fst1 (L.take j) = fst1 (L.take (j + 1)) := by
  obtain ⟨hj, rfl⟩ := List.getElem?_eq_some_iff.1 h
  funext k
  unfold fst1
  rw [List.take_add_one, List.getElem?_eq_getElem hj, List.find?_append]
  by_cases e : k = (L[j].k, L[j].i)
  · subst e
    unfold fst1 at hn
    rw [hn]
    rfl
  · have : ¬ (L[j].k = k.1 ∧ L[j].i = k.2) := fun q => e (by rw [q.1, q.2])
    simp [this]
end Go.Proofs.Ytfhhneibdmjfgab
