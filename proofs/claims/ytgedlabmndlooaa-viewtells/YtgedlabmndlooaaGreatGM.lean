/- grid: maps of the call's own, by what they hold. -/
import Derived.Test.YtgedlabmndlooaaGreatR4
import Derived.Maps.OwnSet
import Derived.DeepKeys4
namespace Go.Proofs.YtgedlabmndlooaaGreat
open Go Go.RowKit Go.Maps

set_option maxRecDepth 100000 in
theorem ownsMap_tight {k : TypeId} {R : Value → Option (DataW Unit × List MemPlace)} {w : World} {b n : Nat} {D : DataW Unit} (h : w.ownsMap Tryz.prog k R b n D) : w.ownsMap Tryz.prog k R b (Maps.size D) D := by
  obtain ⟨es, clock, h1, h2, h3, rfl⟩ := h
  exact ⟨es, clock, h1, h2, by simp [Maps.size, length_sorted], rfl⟩
/-- a kind of maps: how keys and elements lie and read -/
structure MK (κ β : Type) where
  t : TypeId
  k : TypeId
  e : TypeId
  kv : κ → Value
  kl : κ → Lit
  ok : κ → Prop
  ev : β → Value
  ed : β → DataW Unit
  R : Value → Option (DataW Unit × List MemPlace)
  z : β
  law : Keyed Tryz.prog k
  und : Tryz.prog.underlying t = some (.map k e)
  key : ∀ x, ok x → keyOf Tryz.prog k (kv x) = some (kl x)
  lit : ∀ x, WideAt.IsKeyLit (kl x)
  kinj : ∀ x y, ok x → ok y → kl x = kl y → x = y
  rd : ∀ x, R (ev x) = some (ed x, [])
  rinv : ∀ v x ps, R v = some (ed x, ps) → v = ev x
  zero : ∀ w : World, (zeroValue e).run Tryz.prog w = .ok (ev z) w
section
variable {κ β : Type}
structure MapF (S : MK κ β) (w : World) (mb m : Nat) (f : κ → Option β) : Prop where
  o : ∃ D : DataW Unit, w.ownsMap Tryz.prog S.k S.R mb m D ∧ Maps.size D = m ∧ (∀ x, S.ok x → Maps.has D (S.kl x) = (f x).isSome) ∧ ∀ x, S.ok x → ∀ z, D.atKey (S.kl x) z = match f x with | some y => S.ed y | none => z
def upd [DecidableEq κ] (f : κ → Option β) (k : κ) (v : Option β) : κ → Option β := fun x => if x = k then v else f x
set_option maxRecDepth 100000 in
theorem upd_same [DecidableEq κ] (f : κ → Option β) (k : κ) (v : Option β) : upd f k v k = v := by simp [upd]
set_option maxRecDepth 100000 in
theorem upd_other [DecidableEq κ] (f : κ → Option β) {k x : κ} (v : Option β) (h : x ≠ k) : upd f k v x = f x := by simp [upd, h]
set_option maxRecDepth 100000 in
theorem MapF.look {S : MK κ β} {w : World} {mb m : Nat} {f : κ → Option β} (h : MapF S w mb m f) (x : κ) (hx : S.ok x) :
    (Instr.lookup S.t (.map (some mb)) (S.kv x) false).run Tryz.prog w = .ok (S.ev ((f x).getD S.z)) w := by
  obtain ⟨D, o, _, h2, h3⟩ := h.o
  obtain ⟨v, ps, r1, r2⟩ := o.lookup S.law S.und (S.zero w) (S.rd S.z) (S.key x hx)
  rw [r1]
  rw [h3 x hx] at r2
  cases hf : f x with
  | none => rw [hf] at r2; rw [S.rinv _ _ _ r2]; rfl
  | some y => rw [hf] at r2; rw [S.rinv _ _ _ r2]; rfl
set_option maxRecDepth 100000 in
theorem MapF.new (S : MK κ β) (w : World) : MapF S (w.alloc (.map #[] 0)) w.heap.size 0 (fun _ => none) := by
  refine ⟨_, World.ownsMap_made w _ _ _, rfl, fun k _ => rfl, fun k _ z => ?_⟩
  exact Maps.atKey_of_not_has rfl _
set_option maxRecDepth 100000 in
theorem kl_ne {S : MK κ β} {x y : κ} (hx : S.ok x) (hy : S.ok y) (h : x ≠ y) : S.kl x ≠ S.kl y := fun e => h (S.kinj x y hx hy e)
set_option maxRecDepth 100000 in
theorem MapF.put [DecidableEq κ] {S : MK κ β} {w : World} {mb m : Nat} {f : κ → Option β} (h : MapF S w mb m f) (x : κ) (hx : S.ok x) (y : β) (hl : m < 9223372036854775807) :
    ∃ w', (Instr.mapUpdate S.t (.map (some mb)) (S.kv x) (S.ev y)).run Tryz.prog w = .ok () w' ∧ MapF S w' mb (if (f x).isSome then m else m + 1) (upd f x (some y)) ∧ w.grownBy w' (some mb) ∧ w'.heap.size = w.heap.size := by
  obtain ⟨D, o, h1, h2, h3⟩ := h.o
  obtain ⟨w', r1, r2, r3⟩ := o.store S.law S.und (by unfold maxLen; omega) (S.key x hx) (S.rd y)
  have t := o.tidy S.law
  have hs : Maps.size (D.put (S.kl x) (S.ed y)) = if (f x).isSome then m else m + 1 := by
    rw [Maps.size_put t, h2 x hx, h1]
    
  refine ⟨w', r1, ⟨_, (ownsMap_tight r2).mono (by rw [hs]; exact Nat.le_refl _), hs, fun k' hk' => ?_, fun k' hk' z => ?_⟩, r3.grown, ?_⟩
  · by_cases e : k' = x
    · subst e
      rw [Maps.has_put_same t.isMap (S.lit _), upd_same]; rfl
    · rw [Maps.has_put_other (kl_ne hk' hx e), h2 _ hk', upd_other _ _ e]
  · by_cases e : k' = x
    · subst e
      rw [Maps.atKey_put_same t.isMap (S.lit _), upd_same]
    · rw [Maps.atKey_put_other (kl_ne hk' hx e), h3 _ hk', upd_other _ _ e]
  · obtain ⟨_, _, _, _, _, rfl⟩ := r3
    simp [ChangeMaps.setBlock]
set_option maxRecDepth 100000 in
theorem MapF.drop [DecidableEq κ] {S : MK κ β} {w : World} {mb m : Nat} {f : κ → Option β} (h : MapF S w mb m f) (x : κ) (hx : S.ok x) (ty : TypeId) :
    ∃ w', (Builtin.delete_ #[S.t, S.k] ty #[.map (some mb), S.kv x]).run Tryz.prog w = .ok (.tuple #[]) w' ∧ MapF S w' mb (if (f x).isSome then m - 1 else m) (upd f x none) ∧ w.grownBy w' (some mb) ∧ w'.heap.size = w.heap.size := by
  obtain ⟨D, o, h1, h2, h3⟩ := h.o
  obtain ⟨w', r1, r2, r3⟩ := o.drop S.law S.und (S.key x hx) ty
  have t := o.tidy S.law
  have hs : Maps.size (D.del (S.kl x)) = if (f x).isSome then m - 1 else m := by
    have hs0 := Maps.size_del (k := S.kl x) t
    rw [h2 x hx, h1] at hs0
    cases hf : f x <;> simp [hf] at hs0 ⊢ <;> omega
  refine ⟨w', r1, ⟨_, (ownsMap_tight r2).mono (by rw [hs]; exact Nat.le_refl _), hs, fun k' hk' => ?_, fun k' hk' z => ?_⟩, r3.grown, ?_⟩
  · by_cases e : k' = x
    · subst e
      rw [Maps.has_del_same, upd_same]; rfl
    · rw [Maps.has_del_other (kl_ne hk' hx e), h2 _ hk', upd_other _ _ e]
  · by_cases e : k' = x
    · subst e
      rw [Maps.atKey_del_same, upd_same]
    · rw [Maps.atKey_del_other (kl_ne hk' hx e), h3 _ hk', upd_other _ _ e]
  · obtain ⟨_, _, _, _, _, rfl⟩ := r3
    simp [ChangeMaps.setBlock]
set_option maxRecDepth 100000 in
theorem MapF.lt {S : MK κ β} {w : World} {mb m : Nat} {f : κ → Option β} (h : MapF S w mb m f) : mb < w.heap.size := by
  obtain ⟨D, o, h1⟩ := h.o
  exact o.lt
set_option maxRecDepth 100000 in
theorem MapF.fr {S : MK κ β} {T : Nat → Prop} {w w' : World} {mb m : Nat} {f : κ → Option β} (h : MapF S w mb m f) (fr : Fr T w w') (hs : ¬ T mb) : MapF S w' mb m f := by
  obtain ⟨D, o, h1⟩ := h.o
  have := o.lt
  obtain ⟨es, clock, q1, q2, q3, rfl⟩ := o
  exact ⟨_, ⟨es, clock, by rw [fr.block mb this hs]; exact q1, q2, q3, rfl⟩, h1⟩
/-- the map, as a thing that lies apart -/
def mapA (S : MK κ β) (mb m : Nat) (f : κ → Option β) : As :=
  ⟨fun W F => MapF S W mb m f ∧ F = fun i => i = mb, fun T W W' F h fr hs => ⟨h.1.fr fr (hs mb (by rw [h.2])), h.2⟩, fun W F h i hi => by rw [h.2] at hi; have hi : i = mb := hi; rw [hi]; exact h.1.lt⟩
set_option maxRecDepth 100000 in
theorem Sep.mapGet {S : MK κ β} {w0 W : World} {l : List As} {mb m : Nat} {f : κ → Option β} (h : Sep w0 W l) (hm : mapA S mb m f ∈ l) : MapF S W mb m f := by
  obtain ⟨F, q, _⟩ := h.get hm
  exact q
set_option maxRecDepth 100000 in
theorem Sep.mapTo {S : MK κ β} {w0 W W' : World} {l : List As} {mb m m' : Nat} {f f' : κ → Option β} (h : Sep w0 W (mapA S mb m f :: l)) (q : MapF S W' mb m' f') (g : W.grownBy W' (some mb)) : Sep w0 W' (mapA S mb m' f' :: l) := by
  obtain ⟨F, ⟨h1, rfl⟩, _, hu⟩ := h.use
  exact hu W' [_] (Fr.ofSome g rfl) (Loc.one (a := mapA _ _ _ _) _ ⟨q, rfl⟩ (fun i hi => .inl hi))
set_option maxRecDepth 100000 in
theorem Sep.mapNew (S : MK κ β) {w0 W : World} {l : List As} (h : Sep w0 W l) : Sep w0 (W.alloc (.map #[] 0)) (mapA S W.heap.size 0 (fun _ => none) :: l) :=
  h.new (World.grownBy_alloc _ _ _) (Loc.one (a := mapA _ _ _ _) _ ⟨MapF.new S W, rfl⟩ (fun i hi => .inr (by rw [hi]; exact Nat.le_refl _)))
end

/-! ### things by their ids -/
def I64 (k : Int) : Prop := -9223372036854775808 ≤ k ∧ k ≤ 9223372036854775807
abbrev ik (k : Int) : Lit := .int .i64 k
set_option maxRecDepth 100000 in
theorem wf_i {k : Int} (hk : I64 k) : (Lit.int .i64 k).wf = true := by
  unfold I64 at hk
  simp [Lit.wf, IntKind.min, IntKind.max, IntKind.bits, IntKind.signed]; omega
/-- a pointer, or none: 0 is none -/
def pO : Nat → Value
  | 0 => .pointer none
  | b + 1 => .pointer (some ⟨b, 0, none⟩)
def pR : Value → Option (DataW Unit × List MemPlace)
  | .pointer none => some (.lit (.int .i64 0), [])
  | .pointer (some ⟨b, 0, none⟩) => some (.lit (.int .i64 (b + 1 : Nat)), [])
  | _ => none
def pD (n : Nat) : DataW Unit := .lit (.int .i64 (n : Int))
set_option maxRecDepth 100000 in
theorem pR_mk (n : Nat) : pR (pO n) = some (pD n, []) := by cases n <;> rfl
set_option maxRecDepth 100000 in
theorem pR_inv (v : Value) (n : Nat) (ps : List MemPlace) (h : pR v = some (pD n, ps)) : v = pO n := by
  unfold pR at h
  split at h
  · simp only [pD, Option.some.injEq, Prod.mk.injEq, DataW.lit.injEq, Lit.int.injEq, true_and] at h
    obtain ⟨h, _⟩ := h
    have : n = 0 := by omega
    subst this; rfl
  · rename_i b
    simp only [pD, Option.some.injEq, Prod.mk.injEq, DataW.lit.injEq, Lit.int.injEq, true_and] at h
    obtain ⟨h, _⟩ := h
    have : n = b + 1 := by omega
    subst this; rfl
  · cases h
def idsM : MK Int Nat where
  t := 99
  k := 3
  e := 119
  kv := fun k => iv k
  kl := fun k => ik k
  ok := I64
  ev := pO
  ed := pD
  R := pR
  z := 0
  law := int_keyed Tryz.underlying3
  und := Tryz.underlying99
  key := fun x hx => keyOf_int_mk Tryz.underlying3 (wf_i hx)
  lit := fun _ => trivial
  kinj := fun x y _ _ h => by injection h
  rd := pR_mk
  rinv := pR_inv
  zero := fun w => by simp [zeroValue]; rfl

/-! ### lists of things by their cells -/
abbrev ce (k : Int × Int) : Value := .agg #[iv k.1, iv k.2]
set_option maxRecDepth 100000 in
theorem laidOut : laidOutB Tryz.prog = true := by kernel_rfl
set_option maxRecDepth 100000 in
theorem row77 : (138 : TypeId) < Tryz.prog.types.size := of_decide_eq_true (by kernel_rfl)
set_option maxRecDepth 100000 in
theorem wide77 : (match Tryz.prog.underlying 138 with | some (.array _ _) | some (.struct _) => true | _ => false) = true := by rw [Tryz.underlying138]
set_option maxRecDepth 100000 in
theorem law77 : WideMaps.KeyLaw Tryz.prog 138 := deep_law_laid laidOut (m := 3) (by omega) row77 (by kernel_rfl) wide77
/-- a list as it stands in a map: its block (0: none), its length, its room -/
abbrev Sl := Nat × Nat × Nat
def sO : Sl → Value
  | (0, n, c) => .slice none n c
  | (b + 1, n, c) => .slice (some ⟨b, 0, none⟩) n c
def sD (x : Sl) : DataW Unit := .agg [.lit (.int .i64 (x.1 : Int)), .lit (.int .i64 (x.2.1 : Int)), .lit (.int .i64 (x.2.2 : Int))]
def sR : Value → Option (DataW Unit × List MemPlace)
  | .slice none n c => some (sD (0, n, c), [])
  | .slice (some ⟨b, 0, none⟩) n c => some (sD (b + 1, n, c), [])
  | _ => none
set_option maxRecDepth 100000 in
theorem sD_inj {x y : Sl} (h : sD x = sD y) : x = y := by
  obtain ⟨a1, a2, a3⟩ := x
  obtain ⟨b1, b2, b3⟩ := y
  simp only [sD, DataW.agg.injEq, List.cons.injEq, DataW.lit.injEq, Lit.int.injEq, true_and, and_true] at h
  obtain ⟨h1, h2, h3⟩ := h
  have e1 : a1 = b1 := by omega
  have e2 : a2 = b2 := by omega
  have e3 : a3 = b3 := by omega
  subst e1; subst e2; subst e3; rfl
set_option maxRecDepth 100000 in
theorem sR_mk (x : Sl) : sR (sO x) = some (sD x, []) := by
  obtain ⟨a, n, c⟩ := x
  cases a <;> rfl
set_option maxRecDepth 100000 in
theorem sR_inv (v : Value) (x : Sl) (ps : List MemPlace) (h : sR v = some (sD x, ps)) : v = sO x := by
  unfold sR at h
  split at h
  · simp only [Option.some.injEq, Prod.mk.injEq] at h
    rw [← sD_inj h.1]; rfl
  · simp only [Option.some.injEq, Prod.mk.injEq] at h
    rw [← sD_inj h.1]; rfl
  · cases h
def ckl (k : Int × Int) : Lit := .string (keyBytes [ik k.1, ik k.2])
def I64p (k : Int × Int) : Prop := I64 k.1 ∧ I64 k.2
set_option maxRecDepth 100000 in
theorem key77 (k : Int × Int) (hk : I64p k) : keyOf Tryz.prog 138 (ce k) = some (ckl k) := by
  have h1 := wf_i hk.1
  have h2 := wf_i hk.2
  obtain ⟨n, hn⟩ : ∃ n, Tryz.prog.types.size = n + 1 := ⟨203, by kernel_rfl⟩
  have hkt : Tryz.prog.keyType 138 = true := by kernel_rfl
  have hc : Tryz.prog.cellsOf 138 = 2 := by kernel_rfl
  have hc2 : Tryz.prog.cellsOf 2 = 1 := by kernel_rfl
  have hf : (Value.agg #[iv k.1, iv k.2]).formed Tryz.prog 138 = true := by simp [Value.formed, Tryz.underlying138, hc]
  unfold keyOf
  rw [Tryz.underlying138]
  simp only [hkt, hf, Bool.and_self, if_true]
  rw [hn]
  simp [Program.keyLits, Tryz.underlying138, hc, hc2, Value.cells, Tryz.underlying2, h1, h2, ckl]
def cellsM : MK (Int × Int) Sl where
  t := 100
  k := 138
  e := 101
  kv := ce
  kl := ckl
  ok := I64p
  ev := sO
  ed := sD
  R := sR
  z := (0, 0, 0)
  law := Keyed.of_law law77
  und := Tryz.underlying100
  key := key77
  lit := fun _ => trivial
  kinj := fun x y hx hy h => by
    have h1 := law77.inj (key77 x hx) (by rw [h]; exact key77 y hy)
    obtain ⟨x1, x2⟩ := x
    obtain ⟨y1, y2⟩ := y
    simp only [ce, Value.agg.injEq, Array.mk.injEq, List.cons.injEq, Value.int.injEq, true_and, and_true] at h1
    rw [h1.1, h1.2]
  rd := sR_mk
  rinv := sR_inv
  zero := fun w => by simp [zeroValue]; rfl
end Go.Proofs.YtgedlabmndlooaaGreat
