/- GM, P0, P1 -/
import Derived.Test.YtgedlabmndlooaaGreatR4
import Derived.Maps.OwnSet
import Derived.DeepKeys4
namespace Go.Proofs.YtgedlabmndlooaaGreat
open Go Go.RowKit Go.Maps

set_option maxRecDepth 100000 in
theorem ownsMap_tight {k : TypeId} {R : Value → Option (DataW Unit × List MemPlace)} {w : World} {b n : Nat} {D : DataW Unit} (h : w.ownsMap Tryz.prog k R b n D) : w.ownsMap Tryz.prog k R b (Maps.size D) D := by
  obtain ⟨es, clock, h1, h2, h3, rfl⟩ := h
  exact ⟨es, clock, h1, h2, by simp [Maps.size, length_sorted], rfl⟩
/-- a kind of maps: how keys and elements lie and read -/
structure MK (κ β : Type) where
  t : TypeId
  k : TypeId
  e : TypeId
  kv : κ → Value
  kl : κ → Lit
  ok : κ → Prop
  ev : β → Value
  ed : β → DataW Unit
  R : Value → Option (DataW Unit × List MemPlace)
  z : β
  law : Keyed Tryz.prog k
  und : Tryz.prog.underlying t = some (.map k e)
  key : ∀ x, ok x → keyOf Tryz.prog k (kv x) = some (kl x)
  lit : ∀ x, WideAt.IsKeyLit (kl x)
  kinj : ∀ x y, ok x → ok y → kl x = kl y → x = y
  rd : ∀ x, R (ev x) = some (ed x, [])
  rinv : ∀ v x ps, R v = some (ed x, ps) → v = ev x
  zero : ∀ w : World, (zeroValue e).run Tryz.prog w = .ok (ev z) w
section
variable {κ β : Type}
structure MapF (S : MK κ β) (w : World) (mb m : Nat) (f : κ → Option β) : Prop where
  o : ∃ D : DataW Unit, w.ownsMap Tryz.prog S.k S.R mb m D ∧ Maps.size D = m ∧ (∀ x, S.ok x → Maps.has D (S.kl x) = (f x).isSome) ∧ ∀ x, S.ok x → ∀ z, D.atKey (S.kl x) z = match f x with | some y => S.ed y | none => z
def upd [DecidableEq κ] (f : κ → Option β) (k : κ) (v : Option β) : κ → Option β := fun x => if x = k then v else f x
set_option maxRecDepth 100000 in
theorem upd_same [DecidableEq κ] (f : κ → Option β) (k : κ) (v : Option β) : upd f k v k = v := by simp [upd]
set_option maxRecDepth 100000 in
theorem upd_other [DecidableEq κ] (f : κ → Option β) {k x : κ} (v : Option β) (h : x ≠ k) : upd f k v x = f x := by simp [upd, h]
set_option maxRecDepth 100000 in
theorem MapF.look {S : MK κ β} {w : World} {mb m : Nat} {f : κ → Option β} (h : MapF S w mb m f) (x : κ) (hx : S.ok x) :
    (Instr.lookup S.t (.map (some mb)) (S.kv x) false).run Tryz.prog w = .ok (S.ev ((f x).getD S.z)) w := by
  obtain ⟨D, o, _, h2, h3⟩ := h.o
  obtain ⟨v, ps, r1, r2⟩ := o.lookup S.law S.und (S.zero w) (S.rd S.z) (S.key x hx)
  rw [r1]
  rw [h3 x hx] at r2
  cases hf : f x with
  | none => rw [hf] at r2; rw [S.rinv _ _ _ r2]; rfl
  | some y => rw [hf] at r2; rw [S.rinv _ _ _ r2]; rfl
set_option maxRecDepth 100000 in
theorem MapF.new (S : MK κ β) (w : World) : MapF S (w.alloc (.map #[] 0)) w.heap.size 0 (fun _ => none) := by
  refine ⟨_, World.ownsMap_made w _ _ _, rfl, fun k _ => rfl, fun k _ z => ?_⟩
  exact Maps.atKey_of_not_has rfl _
set_option maxRecDepth 100000 in
theorem kl_ne {S : MK κ β} {x y : κ} (hx : S.ok x) (hy : S.ok y) (h : x ≠ y) : S.kl x ≠ S.kl y := fun e => h (S.kinj x y hx hy e)
set_option maxRecDepth 100000 in
theorem MapF.put [DecidableEq κ] {S : MK κ β} {w : World} {mb m : Nat} {f : κ → Option β} (h : MapF S w mb m f) (x : κ) (hx : S.ok x) (y : β) (hl : m < 9223372036854775807) :
    ∃ w', (Instr.mapUpdate S.t (.map (some mb)) (S.kv x) (S.ev y)).run Tryz.prog w = .ok () w' ∧ MapF S w' mb (if (f x).isSome then m else m + 1) (upd f x (some y)) ∧ w.grownBy w' (some mb) ∧ w'.heap.size = w.heap.size := by
  obtain ⟨D, o, h1, h2, h3⟩ := h.o
  obtain ⟨w', r1, r2, r3⟩ := o.store S.law S.und (by unfold maxLen; omega) (S.key x hx) (S.rd y)
  have t := o.tidy S.law
  have hs : Maps.size (D.put (S.kl x) (S.ed y)) = if (f x).isSome then m else m + 1 := by
    rw [Maps.size_put t, h2 x hx, h1]
    
  refine ⟨w', r1, ⟨_, (ownsMap_tight r2).mono (by rw [hs]; exact Nat.le_refl _), hs, fun k' hk' => ?_, fun k' hk' z => ?_⟩, r3.grown, ?_⟩
  · by_cases e : k' = x
    · subst e
      rw [Maps.has_put_same t.isMap (S.lit _), upd_same]; rfl
    · rw [Maps.has_put_other (kl_ne hk' hx e), h2 _ hk', upd_other _ _ e]
  · by_cases e : k' = x
    · subst e
      rw [Maps.atKey_put_same t.isMap (S.lit _), upd_same]
    · rw [Maps.atKey_put_other (kl_ne hk' hx e), h3 _ hk', upd_other _ _ e]
  · obtain ⟨_, _, _, _, _, rfl⟩ := r3
    simp [ChangeMaps.setBlock]
set_option maxRecDepth 100000 in
theorem MapF.drop [DecidableEq κ] {S : MK κ β} {w : World} {mb m : Nat} {f : κ → Option β} (h : MapF S w mb m f) (x : κ) (hx : S.ok x) (ty : TypeId) :
    ∃ w', (Builtin.delete_ #[S.t, S.k] ty #[.map (some mb), S.kv x]).run Tryz.prog w = .ok (.tuple #[]) w' ∧ MapF S w' mb (if (f x).isSome then m - 1 else m) (upd f x none) ∧ w.grownBy w' (some mb) ∧ w'.heap.size = w.heap.size := by
  obtain ⟨D, o, h1, h2, h3⟩ := h.o
  obtain ⟨w', r1, r2, r3⟩ := o.drop S.law S.und (S.key x hx) ty
  have t := o.tidy S.law
  have hs : Maps.size (D.del (S.kl x)) = if (f x).isSome then m - 1 else m := by
    have hs0 := Maps.size_del (k := S.kl x) t
    rw [h2 x hx, h1] at hs0
    cases hf : f x <;> simp [hf] at hs0 ⊢ <;> omega
  refine ⟨w', r1, ⟨_, (ownsMap_tight r2).mono (by rw [hs]; exact Nat.le_refl _), hs, fun k' hk' => ?_, fun k' hk' z => ?_⟩, r3.grown, ?_⟩
  · by_cases e : k' = x
    · subst e
      rw [Maps.has_del_same, upd_same]; rfl
    · rw [Maps.has_del_other (kl_ne hk' hx e), h2 _ hk', upd_other _ _ e]
  · by_cases e : k' = x
    · subst e
      rw [Maps.atKey_del_same, upd_same]
    · rw [Maps.atKey_del_other (kl_ne hk' hx e), h3 _ hk', upd_other _ _ e]
  · obtain ⟨_, _, _, _, _, rfl⟩ := r3
    simp [ChangeMaps.setBlock]
set_option maxRecDepth 100000 in
theorem MapF.lt {S : MK κ β} {w : World} {mb m : Nat} {f : κ → Option β} (h : MapF S w mb m f) : mb < w.heap.size := by
  obtain ⟨D, o, h1⟩ := h.o
  exact o.lt
set_option maxRecDepth 100000 in
theorem MapF.fr {S : MK κ β} {T : Nat → Prop} {w w' : World} {mb m : Nat} {f : κ → Option β} (h : MapF S w mb m f) (fr : Fr T w w') (hs : ¬ T mb) : MapF S w' mb m f := by
  obtain ⟨D, o, h1⟩ := h.o
  have := o.lt
  obtain ⟨es, clock, q1, q2, q3, rfl⟩ := o
  exact ⟨_, ⟨es, clock, by rw [fr.block mb this hs]; exact q1, q2, q3, rfl⟩, h1⟩
/-- the map, as a thing that lies apart -/
def mapA (S : MK κ β) (mb m : Nat) (f : κ → Option β) : As :=
  ⟨fun W F => MapF S W mb m f ∧ F = fun i => i = mb, fun T W W' F h fr hs => ⟨h.1.fr fr (hs mb (by rw [h.2])), h.2⟩, fun W F h i hi => by rw [h.2] at hi; have hi : i = mb := hi; rw [hi]; exact h.1.lt⟩
set_option maxRecDepth 100000 in
theorem Sep.mapGet {S : MK κ β} {w0 W : World} {l : List As} {mb m : Nat} {f : κ → Option β} (h : Sep w0 W l) (hm : mapA S mb m f ∈ l) : MapF S W mb m f := by
  obtain ⟨F, q, _⟩ := h.get hm
  exact q
set_option maxRecDepth 100000 in
theorem Sep.mapTo {S : MK κ β} {w0 W W' : World} {l : List As} {mb m m' : Nat} {f f' : κ → Option β} (h : Sep w0 W (mapA S mb m f :: l)) (q : MapF S W' mb m' f') (g : W.grownBy W' (some mb)) : Sep w0 W' (mapA S mb m' f' :: l) := by
  obtain ⟨F, ⟨h1, rfl⟩, _, hu⟩ := h.use
  exact hu W' [_] (Fr.ofSome g rfl) (Loc.one (a := mapA _ _ _ _) _ ⟨q, rfl⟩ (fun i hi => .inl hi))
set_option maxRecDepth 100000 in
theorem Sep.mapNew (S : MK κ β) {w0 W : World} {l : List As} (h : Sep w0 W l) : Sep w0 (W.alloc (.map #[] 0)) (mapA S W.heap.size 0 (fun _ => none) :: l) :=
  h.new (World.grownBy_alloc _ _ _) (Loc.one (a := mapA _ _ _ _) _ ⟨MapF.new S W, rfl⟩ (fun i hi => .inr (by rw [hi]; exact Nat.le_refl _)))
end

/-! ### things by their ids -/
def I64 (k : Int) : Prop := -9223372036854775808 ≤ k ∧ k ≤ 9223372036854775807
abbrev ik (k : Int) : Lit := .int .i64 k
set_option maxRecDepth 100000 in
theorem wf_i {k : Int} (hk : I64 k) : (Lit.int .i64 k).wf = true := by
  unfold I64 at hk
  simp [Lit.wf, IntKind.min, IntKind.max, IntKind.bits, IntKind.signed]; omega
/-- a pointer, or none: 0 is none -/
def pO : Nat → Value
  | 0 => .pointer none
  | b + 1 => .pointer (some ⟨b, 0, none⟩)
def pR : Value → Option (DataW Unit × List MemPlace)
  | .pointer none => some (.lit (.int .i64 0), [])
  | .pointer (some ⟨b, 0, none⟩) => some (.lit (.int .i64 (b + 1 : Nat)), [])
  | _ => none
def pD (n : Nat) : DataW Unit := .lit (.int .i64 (n : Int))
set_option maxRecDepth 100000 in
theorem pR_mk (n : Nat) : pR (pO n) = some (pD n, []) := by cases n <;> rfl
set_option maxRecDepth 100000 in
theorem pR_inv (v : Value) (n : Nat) (ps : List MemPlace) (h : pR v = some (pD n, ps)) : v = pO n := by
  unfold pR at h
  split at h
  · simp only [pD, Option.some.injEq, Prod.mk.injEq, DataW.lit.injEq, Lit.int.injEq, true_and] at h
    obtain ⟨h, _⟩ := h
    have : n = 0 := by omega
    subst this; rfl
  · rename_i b
    simp only [pD, Option.some.injEq, Prod.mk.injEq, DataW.lit.injEq, Lit.int.injEq, true_and] at h
    obtain ⟨h, _⟩ := h
    have : n = b + 1 := by omega
    subst this; rfl
  · cases h
def idsM : MK Int Nat where
  t := 99
  k := 3
  e := 119
  kv := fun k => iv k
  kl := fun k => ik k
  ok := I64
  ev := pO
  ed := pD
  R := pR
  z := 0
  law := int_keyed Tryz.underlying3
  und := Tryz.underlying99
  key := fun x hx => keyOf_int_mk Tryz.underlying3 (wf_i hx)
  lit := fun _ => trivial
  kinj := fun x y _ _ h => by injection h
  rd := pR_mk
  rinv := pR_inv
  zero := fun w => by simp [zeroValue]; rfl

/-! ### lists of things by their cells -/
abbrev ce (k : Int × Int) : Value := .agg #[iv k.1, iv k.2]
set_option maxRecDepth 100000 in
theorem laidOut : laidOutB Tryz.prog = true := by kernel_rfl
set_option maxRecDepth 100000 in
theorem row77 : (138 : TypeId) < Tryz.prog.types.size := of_decide_eq_true (by kernel_rfl)
set_option maxRecDepth 100000 in
theorem wide77 : (match Tryz.prog.underlying 138 with | some (.array _ _) | some (.struct _) => true | _ => false) = true := by rw [Tryz.underlying138]
set_option maxRecDepth 100000 in
theorem law77 : WideMaps.KeyLaw Tryz.prog 138 := deep_law_laid laidOut (m := 3) (by omega) row77 (by kernel_rfl) wide77
/-- a list as it stands in a map: its block (0: none), its length, its room -/
abbrev Sl := Nat × Nat × Nat
def sO : Sl → Value
  | (0, n, c) => .slice none n c
  | (b + 1, n, c) => .slice (some ⟨b, 0, none⟩) n c
def sD (x : Sl) : DataW Unit := .agg [.lit (.int .i64 (x.1 : Int)), .lit (.int .i64 (x.2.1 : Int)), .lit (.int .i64 (x.2.2 : Int))]
def sR : Value → Option (DataW Unit × List MemPlace)
  | .slice none n c => some (sD (0, n, c), [])
  | .slice (some ⟨b, 0, none⟩) n c => some (sD (b + 1, n, c), [])
  | _ => none
set_option maxRecDepth 100000 in
theorem sD_inj {x y : Sl} (h : sD x = sD y) : x = y := by
  obtain ⟨a1, a2, a3⟩ := x
  obtain ⟨b1, b2, b3⟩ := y
  simp only [sD, DataW.agg.injEq, List.cons.injEq, DataW.lit.injEq, Lit.int.injEq, true_and, and_true] at h
  obtain ⟨h1, h2, h3⟩ := h
  have e1 : a1 = b1 := by omega
  have e2 : a2 = b2 := by omega
  have e3 : a3 = b3 := by omega
  subst e1; subst e2; subst e3; rfl
set_option maxRecDepth 100000 in
theorem sR_mk (x : Sl) : sR (sO x) = some (sD x, []) := by
  obtain ⟨a, n, c⟩ := x
  cases a <;> rfl
set_option maxRecDepth 100000 in
theorem sR_inv (v : Value) (x : Sl) (ps : List MemPlace) (h : sR v = some (sD x, ps)) : v = sO x := by
  unfold sR at h
  split at h
  · simp only [Option.some.injEq, Prod.mk.injEq] at h
    rw [← sD_inj h.1]; rfl
  · simp only [Option.some.injEq, Prod.mk.injEq] at h
    rw [← sD_inj h.1]; rfl
  · cases h
def ckl (k : Int × Int) : Lit := .string (keyBytes [ik k.1, ik k.2])
def I64p (k : Int × Int) : Prop := I64 k.1 ∧ I64 k.2
set_option maxRecDepth 100000 in
theorem key77 (k : Int × Int) (hk : I64p k) : keyOf Tryz.prog 138 (ce k) = some (ckl k) := by
  have h1 := wf_i hk.1
  have h2 := wf_i hk.2
  obtain ⟨n, hn⟩ : ∃ n, Tryz.prog.types.size = n + 1 := ⟨203, by kernel_rfl⟩
  have hkt : Tryz.prog.keyType 138 = true := by kernel_rfl
  have hc : Tryz.prog.cellsOf 138 = 2 := by kernel_rfl
  have hc2 : Tryz.prog.cellsOf 2 = 1 := by kernel_rfl
  have hf : (Value.agg #[iv k.1, iv k.2]).formed Tryz.prog 138 = true := by simp [Value.formed, Tryz.underlying138, hc]
  unfold keyOf
  rw [Tryz.underlying138]
  simp only [hkt, hf, Bool.and_self, if_true]
  rw [hn]
  simp [Program.keyLits, Tryz.underlying138, hc, hc2, Value.cells, Tryz.underlying2, h1, h2, ckl]
def cellsM : MK (Int × Int) Sl where
  t := 100
  k := 138
  e := 101
  kv := ce
  kl := ckl
  ok := I64p
  ev := sO
  ed := sD
  R := sR
  z := (0, 0, 0)
  law := Keyed.of_law law77
  und := Tryz.underlying100
  key := key77
  lit := fun _ => trivial
  kinj := fun x y hx hy h => by
    have h1 := law77.inj (key77 x hx) (by rw [h]; exact key77 y hy)
    obtain ⟨x1, x2⟩ := x
    obtain ⟨y1, y2⟩ := y
    simp only [ce, Value.agg.injEq, Array.mk.injEq, List.cons.injEq, Value.int.injEq, true_and, and_true] at h1
    rw [h1.1, h1.2]
  rd := sR_mk
  rinv := sR_inv
  zero := fun w => by simp [zeroValue]; rfl
end Go.Proofs.YtgedlabmndlooaaGreat

namespace Go.Proofs.YtgedlabmndlooaaGreat
open Go Go.RowKit

/-- a thing as it lies: its block, id, place, where it stands among all and in its cell -/
structure Tg where
  b : Nat
  id : Int
  x : Int
  y : Int
  s : Nat
  p : Nat
/-- a cell's list -/
structure Cl where
  k : Int × Int
  g : Nat
  c : Nat
  L : List Nat
def cel (sd : Int) (t : Tg) : Int × Int := (t.x / sd, t.y / sd)
def lens (C : List Cl) : Nat := (C.map (fun c => c.L.length)).sum
structure Jok (sd : Int) (A : List Tg) (C : List Cl) (o : Option Nat) : Prop where
  to : ∀ t ∈ A, some t.b ≠ o → ∃ c ∈ C, c.k = cel sd t ∧ c.L[t.p]? = some t.b
  fro : ∀ c ∈ C, ∀ i b, c.L[i]? = some b → ∃ t ∈ A, t.b = b ∧ t.p = i ∧ cel sd t = c.k ∧ some b ≠ o
  ne : ∀ c ∈ C, c.L ≠ []
  kd : C.Pairwise (fun a b => a.k ≠ b.k)
  bd : A.Pairwise (fun a b => a.b ≠ b.b)
  sz : lens C + (if o = none then 0 else 1) = A.length
set_option maxRecDepth 100000 in
theorem Jok.perm {sd : Int} {A A' : List Tg} {C C' : List Cl} {o : Option Nat} (h : Jok sd A C o) (hA : A.Perm A') (hC : C.Perm C') : Jok sd A' C' o where
  to t ht ho := by
    obtain ⟨c, hc, h1⟩ := h.to t (hA.mem_iff.2 ht) ho
    exact ⟨c, hC.mem_iff.1 hc, h1⟩
  fro c hc i b hb := by
    obtain ⟨t, ht, h1⟩ := h.fro c (hC.mem_iff.2 hc) i b hb
    exact ⟨t, hA.mem_iff.1 ht, h1⟩
  ne c hc := h.ne c (hC.mem_iff.2 hc)
  kd := (hC.pairwise_iff (fun {_ _} q => Ne.symm q)).1 h.kd
  bd := (hA.pairwise_iff (fun {_ _} q => Ne.symm q)).1 h.bd
  sz := by
    have h1 := h.sz
    rw [← hA.length_eq, ← h1]
    unfold lens
    rw [(hC.map (fun c => c.L.length)).sum_nat]
set_option maxRecDepth 100000 in
theorem lens_cons (c : Cl) (D : List Cl) : lens (c :: D) = c.L.length + lens D := by simp [lens]
/-- a thing comes into a cell that is there -/
theorem Jok.enter {sd : Int} {t t' : Tg} {R : List Tg} {c c' : Cl} {D : List Cl} (h : Jok sd (t :: R) (c :: D) (some t.b)) (hk : c.k = cel sd t)
    (hb : t'.b = t.b) (hp : t'.p = c.L.length) (hce : cel sd t' = cel sd t) (hk' : c'.k = c.k) (hL : c'.L = c.L ++ [t.b]) : Jok sd (t' :: R) (c' :: D) none where
  to u hu _ := by
    rcases List.mem_cons.1 hu with rfl | hu
    · exact ⟨c', List.mem_cons_self .., by rw [hk', hk, hce], by rw [hL, hp, hb]; simp⟩
    · have hn : t.b ≠ u.b := (List.pairwise_cons.1 h.bd).1 u hu
      obtain ⟨d, hd, h1, h2⟩ := h.to u (List.mem_cons_of_mem _ hu) (fun e => hn (Option.some.inj e).symm)
      rcases List.mem_cons.1 hd with rfl | hd
      · refine ⟨c', List.mem_cons_self .., by rw [hk', h1], ?_⟩
        rw [hL, List.getElem?_append_left (List.getElem?_eq_some_iff.1 h2).1, h2]
      · exact ⟨d, List.mem_cons_of_mem _ hd, h1, h2⟩
  fro d hd i b hib := by
    have old : ∀ d ∈ c :: D, d.L[i]? = some b → ∃ u ∈ R, u.b = b ∧ u.p = i ∧ cel sd u = d.k := by
      intro d hd hib
      obtain ⟨u, hu, h1, h2, h3, h4⟩ := h.fro d hd i b hib
      rcases List.mem_cons.1 hu with rfl | hu
      · exact absurd (by rw [h1]) h4
      · exact ⟨u, hu, h1, h2, h3⟩
    rcases List.mem_cons.1 hd with rfl | hd
    · rw [hL] at hib
      by_cases hi : i < c.L.length
      · rw [List.getElem?_append_left hi] at hib
        obtain ⟨u, hu, h1, h2, h3⟩ := old c (List.mem_cons_self ..) hib
        exact ⟨u, List.mem_cons_of_mem _ hu, h1, h2, by rw [h3, hk'], nofun⟩
      · rw [List.getElem?_append_right (by omega)] at hib
        have hi2 : i = c.L.length := by
          have := (List.getElem?_eq_some_iff.1 hib).1
          simp at this; omega
        subst hi2
        simp at hib
        exact ⟨t', List.mem_cons_self .., by rw [hb, hib], hp, by rw [hce, hk', hk], nofun⟩
    · obtain ⟨u, hu, h1, h2, h3⟩ := old d (List.mem_cons_of_mem _ hd) hib
      exact ⟨u, List.mem_cons_of_mem _ hu, h1, h2, h3, nofun⟩
  ne d hd := by
    rcases List.mem_cons.1 hd with rfl | hd
    · rw [hL]; simp
    · exact h.ne d (List.mem_cons_of_mem _ hd)
  kd := by
    obtain ⟨h1, h2⟩ := List.pairwise_cons.1 h.kd
    exact List.pairwise_cons.2 ⟨fun d hd => by rw [hk']; exact h1 d hd, h2⟩
  bd := by
    obtain ⟨h1, h2⟩ := List.pairwise_cons.1 h.bd
    exact List.pairwise_cons.2 ⟨fun d hd => by rw [hb]; exact h1 d hd, h2⟩
  sz := by
    have := h.sz
    rw [lens_cons] at this ⊢
    rw [hL]
    simp at this ⊢
    omega
/-- .. that is not -/
theorem Jok.enterNew {sd : Int} {t t' : Tg} {R : List Tg} {c' : Cl} {D : List Cl} (h : Jok sd (t :: R) D (some t.b)) (hk : ∀ c ∈ D, c.k ≠ cel sd t)
    (hb : t'.b = t.b) (hp : t'.p = 0) (hce : cel sd t' = cel sd t) (hk' : c'.k = cel sd t) (hL : c'.L = [t.b]) : Jok sd (t' :: R) (c' :: D) none where
  to u hu _ := by
    rcases List.mem_cons.1 hu with rfl | hu
    · exact ⟨c', List.mem_cons_self .., by rw [hk', hce], by rw [hL, hp, hb]; simp⟩
    · have hn : t.b ≠ u.b := (List.pairwise_cons.1 h.bd).1 u hu
      obtain ⟨d, hd, h1, h2⟩ := h.to u (List.mem_cons_of_mem _ hu) (fun e => hn (Option.some.inj e).symm)
      exact ⟨d, List.mem_cons_of_mem _ hd, h1, h2⟩
  fro d hd i b hib := by
    rcases List.mem_cons.1 hd with rfl | hd
    · rw [hL] at hib
      cases i with
      | zero =>
        simp at hib
        exact ⟨t', List.mem_cons_self .., by rw [hb, hib], hp, by rw [hce, hk'], nofun⟩
      | succ i => simp at hib
    · obtain ⟨u, hu, h1, h2, h3, h4⟩ := h.fro d hd i b hib
      rcases List.mem_cons.1 hu with rfl | hu
      · exact absurd (by rw [h1]) h4
      · exact ⟨u, List.mem_cons_of_mem _ hu, h1, h2, h3, nofun⟩
  ne d hd := by
    rcases List.mem_cons.1 hd with rfl | hd
    · rw [hL]; simp
    · exact h.ne d hd
  kd := List.pairwise_cons.2 ⟨fun d hd => by rw [hk']; exact (hk d hd).symm, h.kd⟩
  bd := by
    obtain ⟨h1, h2⟩ := List.pairwise_cons.1 h.bd
    exact List.pairwise_cons.2 ⟨fun d hd => by rw [hb]; exact h1 d hd, h2⟩
  sz := by
    have := h.sz
    rw [lens_cons, hL]
    simp at this ⊢
    omega
/-- two places of a cell have two things -/
theorem Jok.inj {sd : Int} {A : List Tg} {C : List Cl} {o : Option Nat} (h : Jok sd A C o) {c : Cl} (hc : c ∈ C) {i j b : Nat} (hi : c.L[i]? = some b) (hj : c.L[j]? = some b) : i = j := by
  obtain ⟨t, ht, h1, h2, _⟩ := h.fro c hc i b hi
  obtain ⟨u, hu, k1, k2, _⟩ := h.fro c hc j b hj
  by_cases e : t = u
  · rw [← h2, ← k2, e]
  · have : t.b ≠ u.b := by
      have hp := h.bd
      rcases List.mem_iff_getElem.1 ht with ⟨n, hn, rfl⟩
      rcases List.mem_iff_getElem.1 hu with ⟨m, hm, rfl⟩
      rw [List.pairwise_iff_getElem] at hp
      rcases Nat.lt_trichotomy n m with q | q | q
      · exact hp n m hn hm q
      · subst q; exact absurd rfl e
      · exact (hp m n hm hn q).symm
    omega
set_option maxRecDepth 100000 in
theorem Jok.uniq {sd : Int} {A : List Tg} {C : List Cl} {o : Option Nat} (h : Jok sd A C o) {t u : Tg} (ht : t ∈ A) (hu : u ∈ A) (e : t.b = u.b) : t = u := by
  have hp := h.bd
  rcases List.mem_iff_getElem.1 ht with ⟨n, hn, rfl⟩
  rcases List.mem_iff_getElem.1 hu with ⟨m, hm, rfl⟩
  rw [List.pairwise_iff_getElem] at hp
  rcases Nat.lt_trichotomy n m with q | q | q
  · exact absurd e (hp n m hn hm q)
  · subst q; rfl
  · exact absurd e.symm (hp m n hm hn q)
set_option maxRecDepth 100000 in
theorem Jok.cell {sd : Int} {A : List Tg} {C : List Cl} {o : Option Nat} (h : Jok sd A C o) {c d : Cl} (hc : c ∈ C) (hd : d ∈ C) (e : c.k = d.k) : c = d := by
  have hp := h.kd
  rcases List.mem_iff_getElem.1 hc with ⟨n, hn, rfl⟩
  rcases List.mem_iff_getElem.1 hd with ⟨m, hm, rfl⟩
  rw [List.pairwise_iff_getElem] at hp
  rcases Nat.lt_trichotomy n m with q | q | q
  · exact absurd e (hp n m hn hm q)
  · subst q; rfl
  · exact absurd e.symm (hp m n hm hn q)
/-- the last of a cell leaves it -/
theorem Jok.leaveLast {sd : Int} {t : Tg} {R : List Tg} {c c' : Cl} {D : List Cl} (h : Jok sd (t :: R) (c :: D) none) (hk : c.k = cel sd t) (hp : t.p + 1 = c.L.length) (hl : c.L[t.p]? = some t.b)
    (hk' : c'.k = c.k) (hL : c'.L = c.L.take t.p) (hne : c'.L ≠ []) : Jok sd (t :: R) (c' :: D) (some t.b) where
  to u hu ho := by
    rcases List.mem_cons.1 hu with rfl | hu
    · exact absurd rfl ho
    · obtain ⟨d, hd, h1, h2⟩ := h.to u (List.mem_cons_of_mem _ hu) nofun
      rcases List.mem_cons.1 hd with rfl | hd
      · refine ⟨c', List.mem_cons_self .., by rw [hk', h1], ?_⟩
        have hlt := (List.getElem?_eq_some_iff.1 h2).1
        have hne2 : u.p ≠ t.p := by
          intro e
          rw [e, hl] at h2
          exact ho (by rw [Option.some.inj h2])
        rw [hL, List.getElem?_take, if_pos (by omega), h2]
      · exact ⟨d, List.mem_cons_of_mem _ hd, h1, h2⟩
  fro d hd i b hib := by
    rcases List.mem_cons.1 hd with rfl | hd
    · rw [hL, List.getElem?_take] at hib
      split at hib
      · rename_i hi
        obtain ⟨u, hu, h1, h2, h3, _⟩ := h.fro c (List.mem_cons_self ..) i b hib
        refine ⟨u, hu, h1, h2, by rw [h3, hk'], fun e => ?_⟩
        have e := Option.some.inj e
        subst e
        have := h.inj (List.mem_cons_self ..) hib hl
        omega
      · cases hib
    · obtain ⟨u, hu, h1, h2, h3, _⟩ := h.fro d (List.mem_cons_of_mem _ hd) i b hib
      refine ⟨u, hu, h1, h2, h3, fun e => ?_⟩
      have e := Option.some.inj e
      subst e
      have e2 := h.uniq hu (List.mem_cons_self ..) h1
      subst e2
      exact (List.pairwise_cons.1 h.kd).1 d hd (by rw [hk, h3])
  ne d hd := by
    rcases List.mem_cons.1 hd with rfl | hd
    · exact hne
    · exact h.ne d (List.mem_cons_of_mem _ hd)
  kd := by
    obtain ⟨h1, h2⟩ := List.pairwise_cons.1 h.kd
    exact List.pairwise_cons.2 ⟨fun d hd => by rw [hk']; exact h1 d hd, h2⟩
  bd := h.bd
  sz := by
    have := h.sz
    rw [lens_cons] at this ⊢
    rw [hL, List.length_take]
    simp at this ⊢
    omega
/-- the only one of a cell leaves it -/
theorem Jok.leaveOnly {sd : Int} {t : Tg} {R : List Tg} {c : Cl} {D : List Cl} (h : Jok sd (t :: R) (c :: D) none) (hk : c.k = cel sd t) (hp : c.L.length = 1) (hl : c.L[t.p]? = some t.b) : Jok sd (t :: R) D (some t.b) where
  to u hu ho := by
    rcases List.mem_cons.1 hu with rfl | hu
    · exact absurd rfl ho
    · obtain ⟨d, hd, h1, h2⟩ := h.to u (List.mem_cons_of_mem _ hu) nofun
      rcases List.mem_cons.1 hd with rfl | hd
      · have hlt := (List.getElem?_eq_some_iff.1 h2).1
        have hlt2 := (List.getElem?_eq_some_iff.1 hl).1
        have e : u.p = t.p := by omega
        rw [e, hl] at h2
        exact absurd (by rw [Option.some.inj h2]) ho
      · exact ⟨d, hd, h1, h2⟩
  fro d hd i b hib := by
    obtain ⟨u, hu, h1, h2, h3, _⟩ := h.fro d (List.mem_cons_of_mem _ hd) i b hib
    refine ⟨u, hu, h1, h2, h3, fun e => ?_⟩
    have e := Option.some.inj e
    subst e
    have e2 := h.uniq hu (List.mem_cons_self ..) h1
    subst e2
    exact (List.pairwise_cons.1 h.kd).1 d hd (by rw [hk, h3])
  ne d hd := h.ne d (List.mem_cons_of_mem _ hd)
  kd := (List.pairwise_cons.1 h.kd).2
  bd := h.bd
  sz := by
    have := h.sz
    rw [lens_cons] at this
    simp at this ⊢
    omega
/-- one of a cell leaves it, and the last one comes to stand there -/
theorem Jok.leaveMid {sd : Int} {t u u' : Tg} {R : List Tg} {c c' : Cl} {D : List Cl} (h : Jok sd (t :: u :: R) (c :: D) none) (hk : c.k = cel sd t) (hl : c.L[t.p]? = some t.b) (hu : c.L[u.p]? = some u.b) (hp : u.p + 1 = c.L.length) (hn : t.b ≠ u.b)
    (hb : u'.b = u.b) (hp' : u'.p = t.p) (hce : cel sd u' = cel sd u) (hk' : c'.k = c.k) (hL : c'.L = (c.L.set t.p u.b).take u.p) : Jok sd (t :: u' :: R) (c' :: D) (some t.b) ∧ c'.L ≠ [] := by
  have hlt := (List.getElem?_eq_some_iff.1 hl).1
  have hne : t.p ≠ u.p := fun e => by rw [e, hu] at hl; exact hn (Option.some.inj hl).symm
  have hcu : cel sd u = c.k := by
    obtain ⟨v, hv, h1, h2, h3, _⟩ := h.fro c (List.mem_cons_self ..) u.p u.b hu
    rw [h.uniq (t := u) (u := v) (List.mem_cons_of_mem _ (List.mem_cons_self ..)) hv h1.symm]; exact h3
  have hlen : c'.L.length = u.p := by rw [hL, List.length_take, List.length_set]; omega
  have hget : ∀ i, c'.L[i]? = if i < u.p then (if t.p = i then some u.b else c.L[i]?) else none := by
    intro i
    rw [hL, List.getElem?_take]
    by_cases hi : i < u.p
    · rw [if_pos hi, if_pos hi, List.getElem?_set]
      by_cases e : t.p = i
      · rw [if_pos e, if_pos e, if_pos (by omega)]
      · rw [if_neg e, if_neg e]
    · rw [if_neg hi, if_neg hi]
  have hne2 : c'.L ≠ [] := by
    intro e
    rw [e] at hlen
    simp at hlen
    omega
  obtain ⟨bt, bd1⟩ := List.pairwise_cons.1 h.bd
  obtain ⟨bu, bd2⟩ := List.pairwise_cons.1 bd1
  refine ⟨{ to := ?_, fro := ?_, ne := ?_, kd := ?_, bd := ?_, sz := ?_ }, hne2⟩
  · intro v hv ho
    rcases List.mem_cons.1 hv with rfl | hv
    · exact absurd rfl ho
    · rcases List.mem_cons.1 hv with rfl | hv
      · refine ⟨c', List.mem_cons_self .., by rw [hk', hce, hcu], ?_⟩
        rw [hget, hp', if_pos (by omega), if_pos rfl, hb]
      · obtain ⟨d, hd, h1, h2⟩ := h.to v (List.mem_cons_of_mem _ (List.mem_cons_of_mem _ hv)) nofun
        rcases List.mem_cons.1 hd with rfl | hd
        · refine ⟨c', List.mem_cons_self .., by rw [hk', h1], ?_⟩
          have hv1 := (List.getElem?_eq_some_iff.1 h2).1
          have hv2 : v.p ≠ t.p := fun e => by
            rw [e, hl] at h2
            exact bt v (List.mem_cons_of_mem _ hv) (Option.some.inj h2)
          have hv3 : v.p ≠ u.p := fun e => by
            rw [e, hu] at h2
            exact bu v hv (Option.some.inj h2)
          rw [hget, if_pos (by omega), if_neg (Ne.symm hv2), h2]
        · exact ⟨d, List.mem_cons_of_mem _ hd, h1, h2⟩
  · intro d hd i b hib
    rcases List.mem_cons.1 hd with rfl | hd
    · rw [hget] at hib
      split at hib
      · rename_i hi
        split at hib
        · rename_i hti
          have e := Option.some.inj hib
          exact ⟨u', List.mem_cons_of_mem _ (List.mem_cons_self ..), by rw [hb, e], by rw [hp', hti], by rw [hce, hcu, hk'], fun q => hn (by rw [e]; exact (Option.some.inj q).symm)⟩
        · rename_i hti
          obtain ⟨v, hv, h1, h2, h3, _⟩ := h.fro c (List.mem_cons_self ..) i b hib
          have hbt : b ≠ t.b := fun e => by
            subst e
            exact hti (h.inj (List.mem_cons_self ..) hl hib)
          rcases List.mem_cons.1 hv with rfl | hv
          · exact absurd h1.symm hbt
          · rcases List.mem_cons.1 hv with rfl | hv
            · omega
            · exact ⟨v, List.mem_cons_of_mem _ (List.mem_cons_of_mem _ hv), h1, h2, by rw [h3, hk'], fun q => hbt (Option.some.inj q)⟩
      · cases hib
    · obtain ⟨v, hv, h1, h2, h3, _⟩ := h.fro d (List.mem_cons_of_mem _ hd) i b hib
      have hkk : c.k ≠ d.k := (List.pairwise_cons.1 h.kd).1 d hd
      rcases List.mem_cons.1 hv with rfl | hv
      · exact absurd (by rw [hk, h3]) hkk
      · rcases List.mem_cons.1 hv with rfl | hv
        · exact absurd (by rw [← hcu, h3]) hkk
        · exact ⟨v, List.mem_cons_of_mem _ (List.mem_cons_of_mem _ hv), h1, h2, h3, fun q => bt v (List.mem_cons_of_mem _ hv) (by rw [h1]; exact (Option.some.inj q).symm)⟩
  · intro d hd
    rcases List.mem_cons.1 hd with rfl | hd
    · exact hne2
    · exact h.ne d (List.mem_cons_of_mem _ hd)
  · obtain ⟨h1, h2⟩ := List.pairwise_cons.1 h.kd
    exact List.pairwise_cons.2 ⟨fun d hd => by rw [hk']; exact h1 d hd, h2⟩
  · refine List.pairwise_cons.2 ⟨fun v hv => ?_, List.pairwise_cons.2 ⟨fun v hv => by rw [hb]; exact bu v hv, bd2⟩⟩
    rcases List.mem_cons.1 hv with rfl | hv
    · rw [hb]; exact hn
    · exact bt v (List.mem_cons_of_mem _ hv)
  · have := h.sz
    rw [lens_cons] at this ⊢
    rw [hlen]
    simp at this ⊢
    omega
/-- what is out of its cell may be moved -/
theorem Jok.move {sd : Int} {t t' : Tg} {R : List Tg} {C : List Cl} (h : Jok sd (t :: R) C (some t.b)) (hb : t'.b = t.b) : Jok sd (t' :: R) C (some t.b) where
  to u hu ho := by
    rcases List.mem_cons.1 hu with rfl | hu
    · rw [hb] at ho; exact absurd rfl ho
    · exact h.to u (List.mem_cons_of_mem _ hu) ho
  fro d hd i b hib := by
    obtain ⟨u, hu, h1, h2, h3, h4⟩ := h.fro d hd i b hib
    rcases List.mem_cons.1 hu with rfl | hu
    · exact absurd (by rw [h1]) h4
    · exact ⟨u, List.mem_cons_of_mem _ hu, h1, h2, h3, h4⟩
  ne := h.ne
  kd := h.kd
  bd := by
    obtain ⟨h1, h2⟩ := List.pairwise_cons.1 h.bd
    exact List.pairwise_cons.2 ⟨fun d hd => by rw [hb]; exact h1 d hd, h2⟩
  sz := by
    have := h.sz
    simpa using this
/-- a new one -/
theorem Jok.new {sd : Int} {t : Tg} {A : List Tg} {C : List Cl} (h : Jok sd A C none) (hf : ∀ u ∈ A, t.b ≠ u.b) : Jok sd (t :: A) C (some t.b) where
  to u hu ho := by
    rcases List.mem_cons.1 hu with rfl | hu
    · exact absurd rfl ho
    · exact h.to u hu nofun
  fro d hd i b hib := by
    obtain ⟨u, hu, h1, h2, h3, _⟩ := h.fro d hd i b hib
    exact ⟨u, List.mem_cons_of_mem _ hu, h1, h2, h3, fun e => hf u hu (by rw [h1]; exact (Option.some.inj e).symm)⟩
  ne := h.ne
  kd := h.kd
  bd := List.pairwise_cons.2 ⟨hf, h.bd⟩
  sz := by
    have := h.sz
    simp at this ⊢
    exact this
/-- .. is taken out -/
theorem Jok.gone {sd : Int} {t : Tg} {A : List Tg} {C : List Cl} (h : Jok sd (t :: A) C (some t.b)) : Jok sd A C none where
  to u hu _ := h.to u (List.mem_cons_of_mem _ hu) (fun e => (List.pairwise_cons.1 h.bd).1 u hu (Option.some.inj e).symm)
  fro d hd i b hib := by
    obtain ⟨u, hu, h1, h2, h3, h4⟩ := h.fro d hd i b hib
    rcases List.mem_cons.1 hu with rfl | hu
    · exact absurd (by rw [h1]) h4
    · exact ⟨u, hu, h1, h2, h3, nofun⟩
  ne := h.ne
  kd := h.kd
  bd := (List.pairwise_cons.1 h.bd).2
  sz := by
    have := h.sz
    simp at this ⊢
    exact this
set_option maxRecDepth 100000 in
theorem Jok.nil (sd : Int) : Jok sd [] [] none := ⟨nofun, nofun, nofun, List.Pairwise.nil, List.Pairwise.nil, rfl⟩
set_option maxRecDepth 100000 in
theorem lens_ge (C : List Cl) (h : ∀ c ∈ C, c.L ≠ []) : C.length ≤ lens C := by
  induction C with
  | nil => simp [lens]
  | cons c D ih =>
    rw [lens_cons, List.length_cons]
    have h1 := ih (fun d hd => h d (List.mem_cons_of_mem _ hd))
    have h2 : c.L.length ≠ 0 := fun e => h c (List.mem_cons_self ..) (List.eq_nil_of_length_eq_zero e)
    omega
set_option maxRecDepth 100000 in
theorem lens_mem {C : List Cl} {c : Cl} (h : c ∈ C) : c.L.length ≤ lens C := by
  induction C with
  | nil => cases h
  | cons d D ih =>
    rw [lens_cons]
    rcases List.mem_cons.1 h with rfl | h
    · omega
    · have := ih h; omega
set_option maxRecDepth 100000 in
theorem Jok.few {sd : Int} {A : List Tg} {C : List Cl} {o : Option Nat} (h : Jok sd A C o) : C.length ≤ A.length := by
  have h1 := lens_ge C h.ne
  have h2 := h.sz
  split at h2 <;> omega
set_option maxRecDepth 100000 in
theorem Jok.cellLen {sd : Int} {A : List Tg} {C : List Cl} {o : Option Nat} (h : Jok sd A C o) {c : Cl} (hc : c ∈ C) : c.L.length ≤ A.length := by
  have h1 := lens_mem hc
  have h2 := h.sz
  split at h2 <;> omega
end Go.Proofs.YtgedlabmndlooaaGreat

namespace Go.Proofs.YtgedlabmndlooaaGreat
open Go Go.RowKit

/-- a thing, as it is told -/
structure Pl where
  id : Int
  x : Int
  y : Int
instance : Inhabited Pl := ⟨⟨0, 0, 0⟩⟩
def plOf (t : Tg) : Pl := ⟨t.id, t.x, t.y⟩
/-- the thing of an id -/
def look : List Pl → Int → Option Pl
  | [], _ => none
  | x :: r, k => if x.id = k then some x else look r k
/-- laid in its place -/
def ins (x : Pl) : List Pl → List Pl
  | [] => [x]
  | y :: r => if x.id < y.id then x :: y :: r else y :: ins x r
def rmk (M : List Pl) (k : Int) : List Pl := M.filter (fun x => decide (x.id ≠ k))
def Srt (M : List Pl) : Prop := M.Pairwise (fun a b => a.id < b.id)
set_option maxRecDepth 100000 in
theorem look_mem {M : List Pl} {k : Int} {x : Pl} (h : look M k = some x) : x ∈ M ∧ x.id = k := by
  induction M with
  | nil => simp [look] at h
  | cons y r ih =>
    by_cases e : y.id = k
    · simp only [look, e, if_true, Option.some.injEq] at h
      subst h
      exact ⟨List.mem_cons_self .., e⟩
    · simp only [look, e, if_false] at h
      exact ⟨List.mem_cons_of_mem _ (ih h).1, (ih h).2⟩
set_option maxRecDepth 100000 in
theorem look_none {M : List Pl} {k : Int} : look M k = none ↔ ∀ x ∈ M, x.id ≠ k := by
  induction M with
  | nil => simp [look]
  | cons y r ih =>
    by_cases e : y.id = k
    · simp [look, e]
    · simp only [look, e, if_false, ih, List.mem_cons, forall_eq_or_imp]
      exact ⟨fun q => ⟨e, q⟩, fun q => q.2⟩
set_option maxRecDepth 100000 in
theorem look_of {M : List Pl} (hs : M.Pairwise (fun a b => a.id ≠ b.id)) {x : Pl} (hx : x ∈ M) : look M x.id = some x := by
  induction M with
  | nil => cases hx
  | cons y r ih =>
    obtain ⟨h1, h2⟩ := List.pairwise_cons.1 hs
    rcases List.mem_cons.1 hx with rfl | hx
    · simp [look]
    · have : y.id ≠ x.id := h1 x hx
      simp only [look, this, if_false]
      exact ih h2 hx
set_option maxRecDepth 100000 in
theorem look_ins (x : Pl) (k : Int) : ∀ (M : List Pl), look M x.id = none → look (ins x M) k = if k = x.id then some x else look M k
  | [], _ => by
    by_cases e : k = x.id
    · simp [ins, look, e]
    · simp [ins, look, e, Ne.symm e]
  | y :: r, h => by
    have hy := (look_none.1 h) y (List.mem_cons_self ..)
    have hr : look r x.id = none := by simpa [look, hy] using h
    unfold ins
    by_cases c : x.id < y.id
    · rw [if_pos c]
      by_cases e : k = x.id
      · simp [look, e]
      · simp only [look, e, Ne.symm e, if_false]
    · rw [if_neg c]
      have ih := look_ins x k r hr
      by_cases e : y.id = k
      · subst e
        simp only [look, if_true, hy, if_false]
      · simp only [look, e, if_false]
        exact ih
set_option maxRecDepth 100000 in
theorem len_ins (x : Pl) : ∀ (M : List Pl), (ins x M).length = M.length + 1
  | [] => rfl
  | y :: r => by
    unfold ins
    split
    · rfl
    · rw [List.length_cons, len_ins x r, List.length_cons]
set_option maxRecDepth 100000 in
theorem mem_ins {x y : Pl} : ∀ {M : List Pl}, y ∈ ins x M ↔ y = x ∨ y ∈ M
  | [] => by simp [ins]
  | z :: r => by
    unfold ins
    split
    · simp
    · simp only [List.mem_cons, mem_ins (M := r)]
      constructor
      · rintro (h | h | h)
        · exact .inr (.inl h)
        · exact .inl h
        · exact .inr (.inr h)
      · rintro (h | h | h)
        · exact .inr (.inl h)
        · exact .inl h
        · exact .inr (.inr h)
set_option maxRecDepth 100000 in
theorem Srt.ins {x : Pl} : ∀ {M : List Pl}, Srt M → look M x.id = none → Srt (ins x M)
  | [], _, _ => List.pairwise_singleton _ _
  | y :: r, h, hn => by
    obtain ⟨h1, h2⟩ := List.pairwise_cons.1 h
    have hy := (look_none.1 hn) y (List.mem_cons_self ..)
    have hr : look r x.id = none := by simpa [look, hy] using hn
    unfold Go.Proofs.YtgedlabmndlooaaGreat.ins
    by_cases c : x.id < y.id
    · rw [if_pos c]
      refine List.pairwise_cons.2 ⟨fun z hz => ?_, h⟩
      rcases List.mem_cons.1 hz with rfl | hz
      · exact c
      · have := h1 z hz
        omega
    · rw [if_neg c]
      refine List.pairwise_cons.2 ⟨fun z hz => ?_, Srt.ins h2 hr⟩
      rcases mem_ins.1 hz with rfl | hz
      · omega
      · exact h1 z hz
set_option maxRecDepth 100000 in
theorem Srt.rmk {M : List Pl} (h : Srt M) (k : Int) : Srt (rmk M k) := List.Pairwise.sublist List.filter_sublist h
set_option maxRecDepth 100000 in
theorem Srt.ne {M : List Pl} (h : Srt M) : M.Pairwise (fun a b => a.id ≠ b.id) := h.imp (fun hab => by omega)
set_option maxRecDepth 100000 in
theorem look_rmk (M : List Pl) (k k' : Int) : look (rmk M k) k' = if k' = k then none else look M k' := by
  induction M with
  | nil => simp [look, rmk]
  | cons y r ih =>
    unfold rmk at ih ⊢
    rw [List.filter_cons]
    by_cases h : y.id = k
    · simp only [h, ne_eq, not_true_eq_false, decide_false, Bool.false_eq_true, if_false]
      rw [ih]
      by_cases e : k' = k
      · simp [e]
      · simp only [e, if_false, look, h, Ne.symm e]
    · simp only [ne_eq, h, not_false_eq_true, decide_true, if_true, look]
      rw [ih]
      by_cases e : k' = k
      · subst e
        simp [h]
      · simp only [e, if_false]
set_option maxRecDepth 100000 in
theorem rmk_none {M : List Pl} {k : Int} (h : look M k = none) : rmk M k = M := by
  refine List.filter_eq_self.2 fun x hx => ?_
  simpa using look_none.1 h x hx
set_option maxRecDepth 100000 in
theorem rmk_perm {M : List Pl} (hs : M.Pairwise (fun a b => a.id ≠ b.id)) {x : Pl} (hx : x ∈ M) : (x :: rmk M x.id).Perm M := by
  obtain ⟨A, C, rfl⟩ := List.append_of_mem hx
  rw [List.pairwise_append] at hs
  obtain ⟨_, h2, h3⟩ := hs
  obtain ⟨h4, _⟩ := List.pairwise_cons.1 h2
  have e : rmk (A ++ x :: C) x.id = A ++ C := by
    unfold rmk
    rw [List.filter_append, List.filter_cons]
    simp only [ne_eq, not_true_eq_false, decide_false, Bool.false_eq_true, if_false]
    rw [List.filter_eq_self.2 (fun y hy => by simpa using h3 y hy x (List.mem_cons_self ..)), List.filter_eq_self.2 (fun y hy => by simpa using (h4 y hy).symm)]
  rw [e]
  exact List.perm_middle.symm
set_option maxRecDepth 100000 in
theorem rmk_len {M : List Pl} (hs : M.Pairwise (fun a b => a.id ≠ b.id)) {k : Int} {x : Pl} (h : look M k = some x) : (rmk M k).length + 1 = M.length := by
  obtain ⟨hx, rfl⟩ := look_mem h
  have := (rmk_perm hs hx).length_eq
  simpa using this
set_option maxRecDepth 100000 in
theorem strict_ext : ∀ (A B : List Pl), Srt A → Srt B → (∀ s, s ∈ A ↔ s ∈ B) → A = B
  | [], [], _, _, _ => rfl
  | [], b :: B, _, _, h => by have := (h b).2 (List.mem_cons_self ..); cases this
  | a :: A, [], _, _, h => by have := (h a).1 (List.mem_cons_self ..); cases this
  | a :: A, b :: B, hA, hB, h => by
    obtain ⟨lA, gA⟩ := List.pairwise_cons.1 hA
    obtain ⟨lB, gB⟩ := List.pairwise_cons.1 hB
    clear hA hB
    have e : a = b := by
      rcases List.mem_cons.1 ((h a).1 (List.mem_cons_self ..)) with q | q
      · exact q
      · rcases List.mem_cons.1 ((h b).2 (List.mem_cons_self ..)) with z | z
        · exact z.symm
        · have := lB a q; have := lA b z; omega
    subst e
    rw [strict_ext A B gA gB fun s => ⟨fun hs => ?_, fun hs => ?_⟩]
    · rcases List.mem_cons.1 ((h s).1 (List.mem_cons_of_mem _ hs)) with q | q
      · subst q; have := lA _ hs; omega
      · exact q
    · rcases List.mem_cons.1 ((h s).2 (List.mem_cons_of_mem _ hs)) with q | q
      · subst q; have := lB _ hs; omega
      · exact q

/-- two lists that rise by an order and have the same members are the same -/
theorem ext_of {α : Type} {lt : α → α → Prop} (asym : ∀ a b, lt a b → ¬ lt b a) : ∀ (A B : List α), A.Pairwise lt → B.Pairwise lt → (∀ s, s ∈ A ↔ s ∈ B) → A = B
  | [], [], _, _, _ => rfl
  | [], b :: B, _, _, h => by have := (h b).2 (List.mem_cons_self ..); cases this
  | a :: A, [], _, _, h => by have := (h a).1 (List.mem_cons_self ..); cases this
  | a :: A, b :: B, hA, hB, h => by
    obtain ⟨lA, gA⟩ := List.pairwise_cons.1 hA
    obtain ⟨lB, gB⟩ := List.pairwise_cons.1 hB
    clear hA hB
    have e : a = b := by
      rcases List.mem_cons.1 ((h a).1 (List.mem_cons_self ..)) with q | q
      · exact q
      · rcases List.mem_cons.1 ((h b).2 (List.mem_cons_self ..)) with z | z
        · exact z.symm
        · exact absurd (lA b z) (asym _ _ (lB a q))
    subst e
    rw [ext_of asym A B gA gB fun s => ⟨fun hs => ?_, fun hs => ?_⟩]
    · rcases List.mem_cons.1 ((h s).1 (List.mem_cons_of_mem _ hs)) with q | q
      · subst q; exact absurd (lA _ hs) (fun z => asym _ _ z z)
      · exact q
    · rcases List.mem_cons.1 ((h s).2 (List.mem_cons_of_mem _ hs)) with q | q
      · subst q; exact absurd (lB _ hs) (fun z => asym _ _ z z)
      · exact q

/-! ### distances -/
def kz (x lo hi : Int) : Int := max lo (min x hi)
def lz (a b m : Int) : Int := kz (a - b) (-m) m
def d2 (ax ay bx by' : Int) : Int := lz ax bx 2147483647 * lz ax bx 2147483647 + lz ay by' 2147483647 * lz ay by' 2147483647
def wn (d r : Int) : Bool := decide (0 ≤ r) && decide (d ≤ kz r 0 3037000499 * kz r 0 3037000499)
set_option maxRecDepth 100000 in
theorem sq0 (x : Int) : 0 ≤ x * x := by
  rcases Int.le_total 0 x with h | h
  · exact Int.mul_nonneg h h
  · have := Int.mul_nonneg (a := -x) (b := -x) (by omega) (by omega)
    grind
set_option maxRecDepth 100000 in
theorem lz_range (a b m : Int) (h : 0 ≤ m) : -m ≤ lz a b m ∧ lz a b m ≤ m := by unfold lz kz; omega
set_option maxRecDepth 100000 in
theorem sq_bd (x : Int) (hx : -2147483647 ≤ x ∧ x ≤ 2147483647) : 0 ≤ x * x ∧ x * x ≤ 4611686014132420609 := by
  constructor
  · exact sq0 x
  · have : 0 ≤ (2147483647 - x) * (2147483647 + x) := Int.mul_nonneg (by omega) (by omega)
    grind
set_option maxRecDepth 100000 in
theorem d2_range (ax ay bx by' : Int) : 0 ≤ d2 ax ay bx by' ∧ d2 ax ay bx by' ≤ 9223372028264841218 := by
  have h1 := sq_bd _ (lz_range ax bx 2147483647 (by omega))
  have h2 := sq_bd _ (lz_range ay by' 2147483647 (by omega))
  unfold d2
  omega
set_option maxRecDepth 100000 in
theorem kz_sq (r : Int) : 0 ≤ kz r 0 3037000499 * kz r 0 3037000499 ∧ kz r 0 3037000499 * kz r 0 3037000499 ≤ 9223372030926249001 := by
  have h : 0 ≤ kz r 0 3037000499 ∧ kz r 0 3037000499 ≤ 3037000499 := by unfold kz; omega
  generalize kz r 0 3037000499 = s at *
  constructor
  · exact sq0 s
  · have : 0 ≤ (3037000499 - s) * (3037000499 + s) := Int.mul_nonneg (by omega) (by omega)
    grind
set_option maxRecDepth 100000 in
theorem wn_big (d r : Int) (hd : d ≤ 9223372028264841218) (h : 3037000500 ≤ r) : wn d r = true := by
  have e : kz r 0 3037000499 = 3037000499 := by unfold kz; omega
  unfold wn
  rw [e, decide_eq_true (by omega), decide_eq_true (by omega)]
  rfl
set_option maxRecDepth 100000 in
theorem wn_small (d r : Int) (h0 : 0 ≤ r) (h : r < 3037000500) : wn d r = decide (d ≤ r * r) := by
  have e : kz r 0 3037000499 = r := by unfold kz; omega
  unfold wn
  rw [e, decide_eq_true h0, Bool.true_and]
set_option maxRecDepth 100000 in
theorem wn_neg (d r : Int) (h0 : r < 0) : wn d r = false := by
  unfold wn
  rw [decide_eq_false (by omega), Bool.false_and]
set_option maxRecDepth 100000 in
theorem d2_symm (ax ay bx by' : Int) : d2 ax ay bx by' = d2 bx by' ax ay := by
  have h : ∀ a b : Int, lz a b 2147483647 = - lz b a 2147483647 := fun a b => by unfold lz kz; omega
  unfold d2
  rw [h ax bx, h ay by', Int.neg_mul_neg, Int.neg_mul_neg]
set_option maxRecDepth 100000 in
theorem near_axis (u v r : Int) (h0 : 0 ≤ r) (h : r < 2147483647) (hw : lz u v 2147483647 * lz u v 2147483647 ≤ r * r) : -r ≤ u - v ∧ u - v ≤ r := by
  have hz : -r ≤ lz u v 2147483647 ∧ lz u v 2147483647 ≤ r := by
    generalize lz u v 2147483647 = z at *
    constructor
    · refine Int.not_lt.1 fun q => ?_
      have : 0 < (-z - r) * (-z + r) := Int.mul_pos (by omega) (by omega)
      grind
    · refine Int.not_lt.1 fun q => ?_
      have : 0 < (z - r) * (z + r) := Int.mul_pos (by omega) (by omega)
      grind
  unfold lz kz at hz
  omega
/-- what is near lies near in each part -/
theorem wn_axes (ax ay bx by' r : Int) (h : r < 2147483647) (hw : wn (d2 ax ay bx by') r = true) : 0 ≤ r ∧ (-r ≤ ax - bx ∧ ax - bx ≤ r) ∧ (-r ≤ ay - by' ∧ ay - by' ≤ r) := by
  have h0 : 0 ≤ r := by
    refine Int.not_lt.1 fun q => ?_
    rw [wn_neg _ _ q] at hw; cases hw
  rw [wn_small _ _ h0 (by omega)] at hw
  have hw := of_decide_eq_true hw
  unfold d2 at hw
  have s1 := sq0 (lz ax bx 2147483647)
  have s2 := sq0 (lz ay by' 2147483647)
  exact ⟨h0, near_axis _ _ _ h0 h (by omega), near_axis _ _ _ h0 h (by omega)⟩

/-! ### rows of cells -/
def lo (p r : Int) : Int := if p > -9223372036854775808 + r then p - r else -9223372036854775808
def hi (p r : Int) : Int := if p < 9223372036854775807 - r then p + r else 9223372036854775807
def rF (sd p r : Int) : Int := lo p r / sd
def rC (sd p r : Int) : Int := hi p r / sd - lo p r / sd + 1
set_option maxRecDepth 100000 in
theorem row_has (sd p r q : Int) (hs : 1 ≤ sd) (hq : I64 q) (h : -r ≤ p - q ∧ p - q ≤ r) : rF sd p r ≤ q / sd ∧ q / sd < rF sd p r + rC sd p r := by
  unfold I64 at hq
  have h1 : lo p r ≤ q := by unfold lo; split <;> omega
  have h2 : q ≤ hi p r := by unfold hi; split <;> omega
  have h3 := Int.ediv_le_ediv (by omega : 0 < sd) h1
  have h4 := Int.ediv_le_ediv (by omega : 0 < sd) h2
  unfold rF rC
  omega
set_option maxRecDepth 100000 in
theorem lohi (p r : Int) (hp : I64 p) (hr : 0 ≤ r ∧ r < 2147483647) : I64 (lo p r) ∧ I64 (hi p r) ∧ lo p r ≤ hi p r ∧ hi p r - lo p r ≤ 2 * r := by
  unfold I64 at *
  unfold lo hi
  split <;> split <;> omega
set_option maxRecDepth 100000 in
theorem div_I64 (sd q : Int) (hs : 1 ≤ sd) (hq : I64 q) : I64 (q / sd) := by
  unfold I64 at *
  constructor
  · have h1 := Int.ediv_le_ediv (by omega : 0 < sd) hq.1
    have h2 : -9223372036854775808 ≤ (-9223372036854775808 : Int) / sd := by
      refine (Int.le_ediv_iff_mul_le (by omega)).2 ?_
      have : 0 ≤ (sd - 1) * 9223372036854775808 := Int.mul_nonneg (by omega) (by omega)
      omega
    omega
  · have h1 := Int.ediv_le_ediv (by omega : 0 < sd) hq.2
    have h2 : (9223372036854775807 : Int) / sd ≤ 9223372036854775807 := Int.ediv_le_self _ (by omega)
    omega
set_option maxRecDepth 100000 in
theorem row_rng (sd p r : Int) (hs : 1 ≤ sd) (hp : I64 p) (hr : 0 ≤ r ∧ r < 2147483647) : I64 (rF sd p r) ∧ I64 (hi p r / sd) ∧ 1 ≤ rC sd p r ∧ rC sd p r ≤ 4294967296 ∧ I64 (rF sd p r + rC sd p r - 1) := by
  obtain ⟨h1, h2, h3, h4⟩ := lohi p r hp hr
  have k1 := div_I64 sd _ hs h1
  have k2 := div_I64 sd _ hs h2
  have k3 := Int.ediv_le_ediv (by omega : 0 < sd) h3
  have k4 : hi p r / sd - lo p r / sd ≤ 4294967295 := by
    have e1 := Int.mul_ediv_add_emod (hi p r) sd
    have e2 := Int.mul_ediv_add_emod (lo p r) sd
    have b1 := Int.emod_nonneg (hi p r) (by omega : sd ≠ 0)
    have b2 := Int.emod_lt_of_pos (lo p r) (by omega : 0 < sd)
    generalize hi p r / sd = u at *
    generalize lo p r / sd = v at *
    generalize hi p r % sd = m at *
    generalize lo p r % sd = n at *
    have e3 : sd * (u - v) < 4294967294 + sd := by rw [Int.mul_sub]; omega
    refine Int.not_lt.1 fun q => ?_
    have : 0 ≤ (sd - 1) * (u - v - 4294967295) := Int.mul_nonneg (by omega) (by omega)
    grind
  unfold rF rC
  refine ⟨k1, k2, by omega, by omega, ?_⟩
  have : lo p r / sd + (hi p r / sd - lo p r / sd + 1) - 1 = hi p r / sd := by omega
  rw [this]; exact k2

/-! ### near, nearest -/
def nr (M : List Pl) (x y r : Int) : List Pl := M.filter (fun q => wn (d2 x y q.x q.y) r)
def nrL (M : List Pl) (x y r : Int) : List Int := (nr M x y r).map (·.id)
/-- ahead of another: nearer, or as near and of a lesser id -/
def ahd (x y : Int) (a b : Pl) : Prop := d2 x y a.x a.y < d2 x y b.x b.y ∨ (d2 x y a.x a.y = d2 x y b.x b.y ∧ a.id < b.id)
instance (x y : Int) (a b : Pl) : Decidable (ahd x y a b) := by unfold ahd; infer_instance
set_option maxRecDepth 100000 in
theorem ahd_asym (x y : Int) (a b : Pl) (h : ahd x y a b) : ¬ ahd x y b a := by unfold ahd at *; omega
set_option maxRecDepth 100000 in
theorem ahd_trans (x y : Int) (a b c : Pl) (h : ahd x y a b) (k : ahd x y b c) : ahd x y a c := by unfold ahd at *; omega
set_option maxRecDepth 100000 in
theorem ahd_tot (x y : Int) (a b : Pl) (h : a.id ≠ b.id) : ahd x y a b ∨ ahd x y b a := by unfold ahd; omega
def insD (x y : Int) (a : Pl) : List Pl → List Pl
  | [] => [a]
  | b :: r => if ahd x y a b then a :: b :: r else b :: insD x y a r
def srtD (x y : Int) : List Pl → List Pl
  | [] => []
  | a :: r => insD x y a (srtD x y r)
set_option maxRecDepth 100000 in
theorem insD_perm (x y : Int) (a : Pl) : ∀ L : List Pl, (insD x y a L).Perm (a :: L)
  | [] => List.Perm.refl _
  | b :: r => by
    unfold insD
    split
    · exact List.Perm.refl _
    · exact ((insD_perm x y a r).cons b).trans (List.Perm.swap _ _ _)
set_option maxRecDepth 100000 in
theorem srtD_perm (x y : Int) : ∀ L : List Pl, (srtD x y L).Perm L
  | [] => List.Perm.refl _
  | a :: r => (insD_perm x y a _).trans ((srtD_perm x y r).cons a)
set_option maxRecDepth 100000 in
theorem insD_srt (x y : Int) (a : Pl) : ∀ L : List Pl, L.Pairwise (ahd x y) → (∀ b ∈ L, a.id ≠ b.id) → (insD x y a L).Pairwise (ahd x y)
  | [], _, _ => List.pairwise_singleton _ _
  | b :: r, h, hn => by
    obtain ⟨h1, h2⟩ := List.pairwise_cons.1 h
    unfold insD
    split
    · rename_i c
      refine List.pairwise_cons.2 ⟨fun z hz => ?_, h⟩
      rcases List.mem_cons.1 hz with rfl | hz
      · exact c
      · exact ahd_trans _ _ _ _ _ c (h1 z hz)
    · rename_i c
      refine List.pairwise_cons.2 ⟨fun z hz => ?_, insD_srt x y a r h2 (fun z hz => hn z (List.mem_cons_of_mem _ hz))⟩
      rcases List.mem_cons.1 ((insD_perm x y a r).mem_iff.1 hz) with rfl | hz
      · exact (ahd_tot x y _ _ (hn b (List.mem_cons_self ..))).resolve_left c
      · exact h1 z hz
set_option maxRecDepth 100000 in
theorem srtD_srt (x y : Int) : ∀ L : List Pl, L.Pairwise (fun a b => a.id ≠ b.id) → (srtD x y L).Pairwise (ahd x y)
  | [], _ => List.Pairwise.nil
  | a :: r, h => by
    obtain ⟨h1, h2⟩ := List.pairwise_cons.1 h
    exact insD_srt x y a _ (srtD_srt x y r h2) (fun b hb => h1 b ((srtD_perm x y r).mem_iff.1 hb))
set_option maxRecDepth 100000 in
theorem srtD_is {x y : Int} {L N : List Pl} (hn : L.Pairwise (fun a b => a.id ≠ b.id)) (hp : N.Perm L) (hs : N.Pairwise (ahd x y)) : N = srtD x y L :=
  ext_of (ahd_asym x y) _ _ hs (srtD_srt x y L hn) (fun _ => hp.mem_iff.trans (srtD_perm x y L).mem_iff.symm)
def nst (M : List Pl) (x y r n : Int) : List Pl := (srtD x y (nr M x y r)).take n.toNat
def nstL (M : List Pl) (x y r n : Int) : List Int := (nst M x y r n).map (·.id)
set_option maxRecDepth 100000 in
theorem nr_srt {M : List Pl} (h : Srt M) (x y r : Int) : Srt (nr M x y r) := List.Pairwise.sublist List.filter_sublist h
set_option maxRecDepth 100000 in
theorem nr_len (M : List Pl) (x y r : Int) : (nr M x y r).length ≤ M.length := List.length_filter_le _ _
/-- put: the thing is there, and only there -/
def putM (M : List Pl) (t : Pl) : List Pl := ins t (rmk M t.id)
set_option maxRecDepth 100000 in
theorem look_rmk_none (M : List Pl) (k : Int) : look (rmk M k) k = none := by rw [look_rmk, if_pos rfl]
set_option maxRecDepth 100000 in
theorem Srt.put {M : List Pl} (h : Srt M) (t : Pl) : Srt (putM M t) := Srt.ins (h.rmk _) (look_rmk_none _ _)
set_option maxRecDepth 100000 in
theorem look_put (M : List Pl) (t : Pl) (k : Int) : look (putM M t) k = if k = t.id then some t else look M k := by
  unfold putM
  rw [look_ins _ _ _ (look_rmk_none _ _), look_rmk]
  split <;> rfl
set_option maxRecDepth 100000 in
theorem len_put (M : List Pl) (t : Pl) : (putM M t).length ≤ M.length + 1 := by
  unfold putM
  rw [len_ins]
  have : (rmk M t.id).length ≤ M.length := List.length_filter_le _ _
  omega
set_option maxRecDepth 100000 in
theorem ins_perm (x : Pl) : ∀ M : List Pl, (ins x M).Perm (x :: M)
  | [] => List.Perm.refl _
  | y :: r => by
    unfold ins
    split
    · exact List.Perm.refl _
    · exact ((ins_perm x r).cons y).trans (List.Perm.swap _ _ _)
end Go.Proofs.YtgedlabmndlooaaGreat
