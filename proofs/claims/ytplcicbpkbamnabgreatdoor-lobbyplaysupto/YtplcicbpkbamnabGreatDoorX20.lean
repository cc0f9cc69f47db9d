import Derived.Test.YtplcicbpkbamnabGreatDoorX0
import Derived.Maps.OwnSet
import Derived.Maps.RangeWalk
import Derived.Test.YtplcicbpkbamnabGreatDoorX19
import Derived.Test.YtplcicbpkbamnabGreatDoorX1
/- lobby: the map of sessions. -/
namespace Go.Proofs.YtplcicbpkbamnabGreatDoor.Lo
open Go Go.RowKit Go.Maps
namespace Tb
variable {V : Type}
abbrev keys (L : List (Nat × V)) : List Nat := L.map (·.1)
/-- what is there under a key -/
def look : List (Nat × V) → Nat → Option V
  | [], _ => none
  | p :: r, k => if p.1 = k then some p.2 else look r k
/-- without a key -/
def rm (L : List (Nat × V)) (k : Nat) : List (Nat × V) := L.filter (fun p => decide (p.1 ≠ k))
set_option maxRecDepth 100000 in
theorem look_none {L : List (Nat × V)} {k : Nat} : look L k = none ↔ k ∉ keys L := by
  induction L with
  | nil => simp [look]
  | cons p r ih =>
    by_cases h : p.1 = k
    · simp [look, h]
    · simp only [look, h, if_false, ih, keys, List.map_cons, List.mem_cons, not_or]
      exact ⟨fun q => ⟨fun e => h e.symm, q⟩, fun q => q.2⟩
set_option maxRecDepth 100000 in
theorem look_split {L : List (Nat × V)} {k : Nat} {x : V} (h : look L k = some x) : ∃ A C, L = A ++ (k, x) :: C ∧ k ∉ keys A := by
  induction L with
  | nil => simp [look] at h
  | cons p r ih =>
    by_cases e : p.1 = k
    · simp only [look, e, if_true, Option.some.injEq] at h
      subst e; subst h
      exact ⟨[], r, rfl, by simp⟩
    · simp only [look, e, if_false] at h
      obtain ⟨A, C, rfl, hA⟩ := ih h
      refine ⟨p :: A, C, rfl, ?_⟩
      simp only [keys, List.map_cons, List.mem_cons, not_or]
      exact ⟨fun q => e q.symm, hA⟩
set_option maxRecDepth 100000 in
theorem look_mid {A C : List (Nat × V)} {k : Nat} {x : V} (h : k ∉ keys A) : look (A ++ (k, x) :: C) k = some x := by
  induction A with
  | nil => simp [look]
  | cons p r ih =>
    simp only [keys, List.map_cons, List.mem_cons, not_or] at h
    have e : ¬ p.1 = k := fun q => h.1 q.symm
    simp only [List.cons_append, look, e, if_false]
    exact ih h.2
set_option maxRecDepth 100000 in
theorem look_app {A C : List (Nat × V)} {k : Nat} (h : k ∉ keys A) : look (A ++ C) k = look C k := by
  induction A with
  | nil => rfl
  | cons p r ih =>
    simp only [keys, List.map_cons, List.mem_cons, not_or] at h
    have e : ¬ p.1 = k := fun q => h.1 q.symm
    simp only [List.cons_append, look, e, if_false]
    exact ih h.2
set_option maxRecDepth 100000 in
theorem look_app_of {A C : List (Nat × V)} {k : Nat} {x : V} (h : look A k = some x) : look (A ++ C) k = some x := by
  obtain ⟨B, D, rfl, hB⟩ := look_split h
  rw [List.append_assoc, List.cons_append]; exact look_mid hB
set_option maxRecDepth 100000 in
theorem rm_none {L : List (Nat × V)} {k : Nat} (h : k ∉ keys L) : rm L k = L := by
  refine List.filter_eq_self.2 fun p hp => ?_
  simp only [decide_eq_true_eq]
  exact fun e => h (e ▸ List.mem_map_of_mem hp)
set_option maxRecDepth 100000 in
theorem rm_mid {A C : List (Nat × V)} {k : Nat} {x : V} (hA : k ∉ keys A) (hC : k ∉ keys C) : rm (A ++ (k, x) :: C) k = A ++ C := by
  unfold rm
  rw [List.filter_append, List.filter_cons]
  simp only [ne_eq, not_true_eq_false, decide_false, Bool.false_eq_true, if_false]
  rw [show A.filter (fun p => decide (¬ p.1 = k)) = A from rm_none hA, show C.filter (fun p => decide (¬ p.1 = k)) = C from rm_none hC]
set_option maxRecDepth 100000 in
theorem nodup_mid {A C : List (Nat × V)} {k : Nat} {x : V} (h : (keys (A ++ (k, x) :: C)).Nodup) : k ∉ keys A ∧ k ∉ keys C ∧ (keys (A ++ C)).Nodup := by
  simp only [keys, List.map_append, List.map_cons] at h ⊢
  obtain ⟨h1, h2, h3⟩ := List.nodup_append.1 h
  obtain ⟨h4, h5⟩ := List.nodup_cons.1 h2
  exact ⟨fun q => h3 k q k (by simp) rfl, h4, List.nodup_append.2 ⟨h1, h5, fun a ha b hb => h3 a ha b (by simp [hb])⟩⟩
set_option maxRecDepth 100000 in
theorem rm_keys {L : List (Nat × V)} {k : Nat} : k ∉ keys (rm L k) := by
  intro h
  obtain ⟨p, hp, e⟩ := List.mem_map.1 h
  have := (List.mem_filter.1 hp).2
  simp only [decide_eq_true_eq] at this
  exact this e
set_option maxRecDepth 100000 in
theorem keys_rm_sub (L : List (Nat × V)) (k : Nat) : (keys (rm L k)).Sublist (keys L) := List.Sublist.map _ List.filter_sublist
set_option maxRecDepth 100000 in
theorem rm_len {L : List (Nat × V)} {k : Nat} (h : (keys L).Nodup) {x : V} (hk : look L k = some x) : (rm L k).length + 1 = L.length := by
  obtain ⟨A, C, rfl, hA⟩ := look_split hk
  obtain ⟨_, h2, _⟩ := nodup_mid h
  rw [rm_mid hA h2]; simp; omega
end Tb
abbrev uv (x : Nat) : Value := .int .u64 (x : Int)
abbrev pt (b : Nat) : Value := .pointer (some ⟨b, 0, none⟩)
abbrev np : Value := .pointer none
/-- how a pointer reads: as its block's number -/
def pe : Value → Option (DataW Unit × List MemPlace)
  | .pointer none => some (.nil, [])
  | .pointer (some ⟨b, 0, none⟩) => some (.lit (.int .i64 (b : Int)), [])
  | _ => none
set_option maxRecDepth 100000 in
theorem pe_pt (b : Nat) : pe (pt b) = some (.lit (.int .i64 (b : Int)), []) := rfl
set_option maxRecDepth 100000 in
theorem pe_np : pe np = some (.nil, []) := rfl
set_option maxRecDepth 100000 in
theorem pe_inv {v : Value} {b : Nat} {ps : List MemPlace} (h : pe v = some (.lit (.int .i64 (b : Int)), ps)) : v = pt b := by
  unfold pe at h
  split at h
  · simp at h
  · simp at h
    rw [Int.ofNat_inj.1 h.1]
  · cases h
set_option maxRecDepth 100000 in
theorem pe_inv0 {v : Value} {ps : List MemPlace} (h : pe v = some (.nil, ps)) : v = np := by
  unfold pe at h
  split at h
  · rfl
  · simp at h
  · cases h
set_option maxRecDepth 100000 in
theorem ownsMap_tight {k : TypeId} {R : Value → Option (DataW Unit × List MemPlace)} {w : World} {b n : Nat} {D : DataW Unit} (h : w.ownsMap Tryz.prog k R b n D) : w.ownsMap Tryz.prog k R b (Maps.size D) D := by
  obtain ⟨es, clock, h1, h2, h3, rfl⟩ := h
  exact ⟨es, clock, h1, h2, by simp [Maps.size, length_sorted], rfl⟩

/-- the map: keys and their entries' blocks -/
structure MapIs (w : World) (mb : Nat) (M : List (Nat × Nat)) : Prop where
  o : ∃ D : DataW Unit, w.ownsMap Tryz.prog 38 pe mb M.length D ∧ Maps.size D = M.length ∧ (∀ k, Maps.has D (.int .u64 ((k : Nat) : Int)) = (Tb.look M k).isSome) ∧ ∀ k z, D.atKey (.int .u64 ((k : Nat) : Int)) z = match Tb.look M k with | some b => .lit (.int .i64 ((b : Nat) : Int)) | none => z
set_option maxRecDepth 100000 in
theorem law40 : Keyed Tryz.prog 38 := int_keyed Tryz.underlying38
set_option maxRecDepth 100000 in
theorem zero90 (w : World) : (zeroValue 87).run Tryz.prog w = .ok np w := by
  simp [zeroValue]; rfl
set_option maxRecDepth 100000 in
theorem key40 (k : Nat) (hk : k < 18446744073709551616) : keyOf Tryz.prog 38 (uv k) = some (.int .u64 ((k : Nat) : Int)) := keyOf_int_mk Tryz.underlying38 (by simp [Lit.wf, IntKind.min, IntKind.max, IntKind.bits, IntKind.signed]; omega)
def pOf : Option Nat → Value
  | none => np
  | some b => pt b
set_option maxRecDepth 100000 in
theorem MapIs.look {w : World} {mb : Nat} {M : List (Nat × Nat)} (h : MapIs w mb M) (k : Nat) (hk : k < 18446744073709551616) :
    (Instr.lookup 68 (.map (some mb)) (uv k) true).run Tryz.prog w = .ok (.tuple #[pOf (Tb.look M k), .bool (Tb.look M k).isSome]) w := by
  obtain ⟨D, o, _, h2, h3⟩ := h.o
  obtain ⟨v, ps, r1, r2⟩ := o.look_ok law40 Tryz.underlying68 (zero90 w) pe_np (key40 k hk)
  rw [r1, h2]
  rw [h3] at r2
  congr 4
  cases hl : Tb.look M k with
  | none => rw [hl] at r2; exact pe_inv0 r2
  | some b => rw [hl] at r2; exact pe_inv r2
set_option maxRecDepth 100000 in
theorem MapIs.len {w : World} {mb : Nat} {M : List (Nat × Nat)} (h : MapIs w mb M) (ty : TypeId) : (Builtin.len_ #[68] ty #[.map (some mb)]).run Tryz.prog w = .ok (.int .i64 (M.length : Nat)) w := by
  obtain ⟨D, o, h1, _, _⟩ := h.o
  rw [o.len Tryz.underlying68, h1]
set_option maxRecDepth 100000 in
theorem key_ne {a b : Nat} (h : a ≠ b) : Lit.int .u64 ((a : Nat) : Int) ≠ Lit.int .u64 ((b : Nat) : Int) := fun e => h (by injection e with _ e; exact Int.ofNat_inj.1 e)
set_option maxRecDepth 100000 in
theorem MapIs.new (w : World) : MapIs (w.alloc (.map #[] 0)) w.heap.size [] := by
  refine ⟨_, World.ownsMap_made w _ _ _, rfl, fun k => rfl, fun k z => ?_⟩
  simp [Tb.look]; exact Maps.atKey_of_not_has rfl _
set_option maxRecDepth 100000 in
theorem MapIs.put {w : World} {mb : Nat} {M : List (Nat × Nat)} (h : MapIs w mb M) (k : Nat) (hk : k < 18446744073709551616) (b : Nat) (hn : Tb.look M k = none) (hl : M.length ≤ 4096) :
    ∃ w', (Instr.mapUpdate 68 (.map (some mb)) (uv k) (pt b)).run Tryz.prog w = .ok () w' ∧ MapIs w' mb (M ++ [(k, b)]) ∧ w.grownBy w' (some mb) ∧ w'.heap.size = w.heap.size := by
  obtain ⟨D, o, h1, h2, h3⟩ := h.o
  obtain ⟨w', r1, r2, r3⟩ := o.store law40 Tryz.underlying68 (by unfold maxLen; omega) (key40 k hk) (pe_pt b)
  have t := o.tidy law40
  have hh : Maps.has D (.int .u64 ((k : Nat) : Int)) = false := by rw [h2, hn]; rfl
  have hs : Maps.size (D.put (.int .u64 ((k : Nat) : Int)) (.lit (.int .i64 (b : Int)))) = M.length + 1 := by
    rw [Maps.size_put t, hh, h1]; rfl
  refine ⟨w', r1, ⟨_, (ownsMap_tight r2).mono (by rw [hs, List.length_append]; exact Nat.le_refl _), by rw [hs, List.length_append]; rfl, fun k' => ?_, fun k' z => ?_⟩, r3.grown, ?_⟩
  · by_cases e : k' = k
    · subst e
      rw [Maps.has_put_same (k := .int .u64 ((k' : Nat) : Int)) t.isMap trivial, Tb.look_app (Tb.look_none.1 hn)]; simp [Tb.look]
    · rw [Maps.has_put_other (key_ne e), h2]
      cases hq : Tb.look M k' with
      | none => rw [Tb.look_app (Tb.look_none.1 hq)]; simp [Tb.look, Ne.symm e]
      | some x => rw [Tb.look_app_of hq]
  · by_cases e : k' = k
    · subst e
      rw [Maps.atKey_put_same (k := .int .u64 ((k' : Nat) : Int)) t.isMap trivial, Tb.look_app (Tb.look_none.1 hn)]; simp [Tb.look]
    · rw [Maps.atKey_put_other (key_ne e), h3]
      cases hq : Tb.look M k' with
      | none => rw [Tb.look_app (Tb.look_none.1 hq)]; simp [Tb.look, Ne.symm e]
      | some x => rw [Tb.look_app_of hq]
  · obtain ⟨_, _, _, _, _, rfl⟩ := r3
    simp [ChangeMaps.setBlock]
set_option maxRecDepth 100000 in
theorem look_rm {V : Type} (M : List (Nat × V)) (k k' : Nat) : Tb.look (Tb.rm M k) k' = if k' = k then none else Tb.look M k' := by
  by_cases e : k' = k
  · subst e
    rw [if_pos rfl]; exact Tb.look_none.2 Tb.rm_keys
  · rw [if_neg e]
    induction M with
    | nil => rfl
    | cons p r ih =>
      unfold Tb.rm at ih ⊢
      rw [List.filter_cons]
      by_cases h : p.1 = k
      · simp only [h, ne_eq, not_true_eq_false, decide_false, Bool.false_eq_true, if_false]
        rw [ih]
        simp only [Tb.look, h, Ne.symm e, if_false]
      · simp only [ne_eq, h, not_false_eq_true, decide_true, if_true, Tb.look]
        rw [ih]
set_option maxRecDepth 100000 in
theorem MapIs.drop {w : World} {mb : Nat} {M : List (Nat × Nat)} (h : MapIs w mb M) (k : Nat) (hk : k < 18446744073709551616) (ty : TypeId) (hd : (Tb.keys M).Nodup) (b : Nat) (hb : Tb.look M k = some b) :
    ∃ w', (Builtin.delete_ #[68, 38] ty #[.map (some mb), uv k]).run Tryz.prog w = .ok (.tuple #[]) w' ∧ MapIs w' mb (Tb.rm M k) ∧ w.grownBy w' (some mb) ∧ w'.heap.size = w.heap.size := by
  obtain ⟨D, o, h1, h2, h3⟩ := h.o
  obtain ⟨w', r1, r2, r3⟩ := o.drop law40 Tryz.underlying68 (key40 k hk) ty
  have t := o.tidy law40
  have hh : Maps.has D (.int .u64 ((k : Nat) : Int)) = true := by rw [h2, hb]; rfl
  have hs := Maps.size_del (k := .int .u64 ((k : Nat) : Int)) t
  rw [hh, h1, ← Tb.rm_len hd hb] at hs
  have hs : Maps.size (D.del (.int .u64 ((k : Nat) : Int))) = (Tb.rm M k).length := by simpa using hs
  refine ⟨w', r1, ⟨_, (ownsMap_tight r2).mono (by rw [hs]; exact Nat.le_refl _), hs, fun k' => ?_, fun k' z => ?_⟩, r3.grown, ?_⟩
  · rw [look_rm]
    by_cases e : k' = k
    · subst e
      rw [Maps.has_del_same, if_pos rfl]; rfl
    · rw [Maps.has_del_other (key_ne e), h2, if_neg e]
  · rw [look_rm]
    by_cases e : k' = k
    · subst e
      rw [Maps.atKey_del_same, if_pos rfl]
    · rw [Maps.atKey_del_other (key_ne e), h3, if_neg e]
  · obtain ⟨_, _, _, _, _, rfl⟩ := r3
    simp [ChangeMaps.setBlock]
set_option maxRecDepth 100000 in
theorem MapIs.fr {S : Nat → Prop} {w w' : World} {mb : Nat} {M : List (Nat × Nat)} (h : MapIs w mb M) (f : Fr S w w') (hs : ¬ S mb) : MapIs w' mb M := by
  obtain ⟨D, o, h1⟩ := h.o
  have := o.lt
  obtain ⟨es, clock, q1, q2, q3, rfl⟩ := o
  exact ⟨_, ⟨es, clock, by rw [f.block mb this hs]; exact q1, q2, q3, rfl⟩, h1⟩
set_option maxRecDepth 100000 in
theorem MapIs.lt {w : World} {mb : Nat} {M : List (Nat × Nat)} (h : MapIs w mb M) : mb < w.heap.size := by
  obtain ⟨D, o, h1⟩ := h.o
  exact o.lt
/-- the order of the keys makes no difference -/
theorem MapIs.same {w : World} {mb : Nat} {M M' : List (Nat × Nat)} (h : MapIs w mb M) (hl : M'.length = M.length) (hk : ∀ k, Tb.look M' k = Tb.look M k) : MapIs w mb M' := by
  obtain ⟨D, o, h1, h2, h3⟩ := h.o
  exact ⟨D, by rw [hl]; exact o, by rw [hl]; exact h1, fun k => by rw [hk]; exact h2 k, fun k z => by rw [hk]; exact h3 k z⟩
/-- the map, as a thing that lies apart -/
def mapA (mb : Nat) (M : List (Nat × Nat)) : As :=
  ⟨fun W F => MapIs W mb M ∧ F = fun i => i = mb, fun S W W' F h f hs => ⟨h.1.fr f (hs mb (by rw [h.2])), h.2⟩, fun W F h i hi => by rw [h.2] at hi; have hi : i = mb := hi; rw [hi]; exact h.1.lt⟩
set_option maxRecDepth 100000 in
theorem Sep.mapGet {w0 W : World} {l : List As} {mb : Nat} {M : List (Nat × Nat)} (h : Sep w0 W l) (hm : mapA mb M ∈ l) : MapIs W mb M := by
  obtain ⟨F, q, _⟩ := h.get hm
  exact q
set_option maxRecDepth 100000 in
theorem Sep.mapPut {w0 W : World} {l : List As} {mb : Nat} {M : List (Nat × Nat)} (h : Sep w0 W (mapA mb M :: l)) (k : Nat) (hk : k < 18446744073709551616) (b : Nat) (hn : Tb.look M k = none) (hl : M.length ≤ 4096) :
    ∃ W', (Instr.mapUpdate 68 (.map (some mb)) (uv k) (pt b)).run Tryz.prog W = .ok () W' ∧ Sep w0 W' (mapA mb (M ++ [(k, b)]) :: l) := by
  obtain ⟨F, ⟨h1, rfl⟩, _, hu⟩ := h.use
  obtain ⟨W', r1, r2, r3, _⟩ := h1.put k hk b hn hl
  exact ⟨W', r1, hu W' [_] (Fr.ofSome r3 rfl) (Loc.one (a := mapA _ _) _ ⟨r2, rfl⟩ (fun i hi => .inl hi))⟩
set_option maxRecDepth 100000 in
theorem Sep.mapDrop {w0 W : World} {l : List As} {mb : Nat} {M : List (Nat × Nat)} (h : Sep w0 W (mapA mb M :: l)) (k : Nat) (hk : k < 18446744073709551616) (ty : TypeId) (hd : (Tb.keys M).Nodup) (b : Nat) (hb : Tb.look M k = some b) :
    ∃ W', (Builtin.delete_ #[68, 38] ty #[.map (some mb), uv k]).run Tryz.prog W = .ok (.tuple #[]) W' ∧ Sep w0 W' (mapA mb (Tb.rm M k) :: l) := by
  obtain ⟨F, ⟨h1, rfl⟩, _, hu⟩ := h.use
  obtain ⟨W', r1, r2, r3, _⟩ := h1.drop k hk ty hd b hb
  exact ⟨W', r1, hu W' [_] (Fr.ofSome r3 rfl) (Loc.one (a := mapA _ _) _ ⟨r2, rfl⟩ (fun i hi => .inl hi))⟩
set_option maxRecDepth 100000 in
theorem Sep.mapNew {w0 W : World} {l : List As} (h : Sep w0 W l) : Sep w0 (W.alloc (.map #[] 0)) (mapA W.heap.size [] :: l) :=
  h.new (World.grownBy_alloc _ _ _) (Loc.one (a := mapA _ _) _ ⟨MapIs.new W, rfl⟩ (fun i hi => .inr (by rw [hi]; exact Nat.le_refl _)))
end Go.Proofs.YtplcicbpkbamnabGreatDoor.Lo

/- lobby: a lobby as it lies; New. -/
namespace Go.Proofs.YtplcicbpkbamnabGreatDoor.Lo
open Go Go.RowKit Go.Maps

/-- a session -/
structure Se where
  num : Nat
  pl : Nat
  nm : ByteArray
  fr : ByteArray
  heard : Nat
  high : Nat
  sent : Nat
  acc : Nat
  key : List UInt8
  wh : Nat
  wb : Nat
  y : Int
/-- what is told of it -/
def lvc (s : Se) : List Value := [uv s.num, iv (s.pl : Nat), .string s.nm, .string s.fr, uv s.heard, uv s.high, uv s.sent]
/-- its cells -/
def sev (r u : Int) (s : Se) : List Value := lvc s ++ [iv (s.acc : Nat)] ++ s.key.map b8 ++ [uv s.wh, uv s.wb, iv r, iv u, iv s.y]
/-- a lobby -/
structure Lb where
  most : Nat
  idle : Nat
  r : Int
  u : Int
  A : List Ac
  next : Nat
  S : List Se
def lobL (lb : Nat) (X : Lb) (q : Value × Nat × List (Nat × Se)) : List As :=
  pureA (q.2.2.map (fun p => p.2) = X.S) :: boxA lb [iv (X.most : Nat), uv X.idle, iv X.r, iv X.u, iv (16 * X.u), q.1, uv X.next, .map (some q.2.1)] 70 :: rowV 104 33 q.1 X.A.length (acs X.A) :: mapA q.2.1 (q.2.2.map fun p => (p.2.num, p.1)) :: (q.2.2.map fun p => boxA p.1 (sev X.r X.u p.2) 109)
/-- a lobby, as a thing that lies apart -/
def lobA (lb : Nat) (X : Lb) : As := exA (lobL lb X)
/-- what is handed to New -/
structure Cf where
  ses : Int
  o1 : Int
  rate : Int
  burst : Int
  o4 : Int
  o5 : Int
  idle : Int
  o7 : Int
  o8 : Int
  o9 : Int
  seed : ByteArray
  board : ByteArray
def cfv (c : Cf) (v : Value) : Array Value := #[iv c.ses, iv c.o1, iv c.rate, iv c.burst, iv c.o4, iv c.o5, iv c.idle, iv c.o7, iv c.o8, iv c.o9, .string c.seed, .string c.board, v]
instance (r u : Int) : Decidable (Bu.okay r u) := by unfold Bu.okay; infer_instance
/-- the lobby that comes of it -/
def newL (c : Cf) (P : List Pr) : Option Lb :=
  if Bu.okay c.rate c.burst ∧ (1 ≤ c.ses ∧ c.ses ≤ 32) ∧ (1 ≤ c.idle ∧ c.idle ≤ 100000) then (cpyL P).map fun A => ⟨c.ses.toNat, c.idle.toNat, c.rate, c.burst, A, 1, []⟩ else none
def NwR (w : World) : Option Lb → Ending → World → Prop
  | none, e, w' => e = .returned (.tuple #[np, iv 230]) ∧ w.grownBy w' none
  | some X, e, w' => ∃ lb, e = .returned (.tuple #[pt lb, iv 0]) ∧ Sep w w' [lobA lb X]
set_option maxRecDepth 100000 in
set_option maxHeartbeats 8000000 in
theorem new_bad (w : World) (c : Cf) (v : Value) (h : ¬ Bu.okay c.rate c.burst) (hv : ∃ a n cap, v = .slice a n cap) :
    Calls Tryz.prog 5 #[.agg (cfv c v)] w fun e w' => e = .returned (.tuple #[np, iv 230]) ∧ w.grownBy w' none := by
  obtain ⟨ses, o1, rate, burst, o4, o5, idle, o7, o8, o9, seed, board⟩ := c
  obtain ⟨a, n, cap, rfl⟩ := hv
  simp only [cfv]
  obtain ⟨W1, hW1⟩ : ∃ W1, w.alloc (.cells #[iv ses, iv o1, iv rate, iv burst, iv o4, iv o5, iv idle, iv o7, iv o8, iv o9, .string seed, .string board, .slice a n cap] 24) = W1 := ⟨_, rfl⟩
  obtain ⟨cb, hcb⟩ : ∃ cb, w.heap.size = cb := ⟨_, rfl⟩
  have hH : Has W1 cb [iv ses, iv o1, iv rate, iv burst, iv o4, iv o5, iv idle, iv o7, iv o8, iv o9, .string seed, .string board, .slice a n cap] 24 := by rw [← hW1, ← hcb]; exact Has.newA _ _ _
  have c2 := hH.cellv 2 _ rfl
  have c3 := hH.cellv 3 _ rfl
  have HG : Keep (w.grownBy W1 none) := ⟨by rw [← hW1]; exact World.grownBy_alloc _ _ _⟩
  have hB := Bu.new_no rate burst W1 h
  clear h hH
  go_enter Tryz.func5, Tryz.ntmps5
  go_wp2_with fail
  refine hB.mono ?_
  rintro e w2 ⟨rfl, g2⟩
  have HG2 := Keep.mk (HG.out.trans g2)
  clear hB g2 HG
  have HG3 : Keep (∀ o, w.grownBy (w2.alloc o) none) := ⟨fun o => HG2.out.trans (World.grownBy_alloc _ _ _)⟩
  go_wp2_with fail
  go_ret2
  exact ⟨rfl, HG3.out _⟩
set_option maxRecDepth 100000 in
theorem Sep.ovr {w0 W W' : World} {l0 l : List As} (h : Sep w0 W l0) (k : Sep W W' l) : Sep w0 W' (l ++ l0) := by
  obtain ⟨m, e, q, d⟩ := k.ex
  exact h.new k.g ⟨m, e, fun p hp => ⟨(q p hp).1, fun i hi => .inr ((q p hp).2 i hi)⟩, d⟩
/-- what New has behind its first part -/
structure NwC (W : World) (cb fb : Nat) (ses rate burst idle : Int) (v : Value) : Prop where
  c0 : W.cell? ⟨cb, 0, none⟩ = some (iv ses)
  c6 : W.cell? ⟨cb, 6, none⟩ = some (iv idle)
  c12 : W.cell? ⟨cb, 12, none⟩ = some v
  f0 : W.cell? ⟨fb, 0, none⟩ = some (iv rate)
  f1 : W.cell? ⟨fb, 1, none⟩ = some (iv burst)
  f2 : W.cell? ⟨fb, 2, none⟩ = some (iv (16 * burst))
set_option maxRecDepth 100000 in
set_option maxHeartbeats 16000000 in
theorem new_go (w : World) (c : Cf) (v : Value) (P : List Pr) (h : Bu.okay c.rate c.burst) (hv : InR w v P) (hk : Na.Kc w) :
    Calls Tryz.prog 5 #[.agg (cfv c v)] w (NwR w (newL c P)) := by
  obtain ⟨ses, o1, rate, burst, o4, o5, idle, o7, o8, o9, seed, board⟩ := c
  obtain ⟨a, cap, hve, _⟩ := hv.o
  obtain ⟨n, hn⟩ : ∃ n, P.length = n := ⟨_, rfl⟩
  rw [hn] at hve
  subst hve
  simp only [cfv]
  have HNL : Keep (∀ e w', ((1 ≤ ses ∧ ses ≤ 32) → (1 ≤ idle ∧ idle ≤ 100000) → NwR w ((cpyL P).map fun A => ⟨ses.toNat, idle.toNat, rate, burst, A, 1, []⟩) e w') → (¬ ((1 ≤ ses ∧ ses ≤ 32) ∧ (1 ≤ idle ∧ idle ≤ 100000)) → NwR w none e w') → NwR w (newL ⟨ses, o1, rate, burst, o4, o5, idle, o7, o8, o9, seed, board⟩ P) e w') := ⟨fun e w' h1 h2 => by
    unfold newL
    by_cases q : (1 ≤ ses ∧ ses ≤ 32) ∧ (1 ≤ idle ∧ idle ≤ 100000)
    · rw [if_pos ⟨h, q⟩]; exact h1 q.1 q.2
    · rw [if_neg (fun z => q z.2)]; exact h2 q⟩
  obtain ⟨W1, hW1⟩ : ∃ W1, w.alloc (.cells #[iv ses, iv o1, iv rate, iv burst, iv o4, iv o5, iv idle, iv o7, iv o8, iv o9, .string seed, .string board, .slice a n cap] 24) = W1 := ⟨_, rfl⟩
  obtain ⟨cb, hcb⟩ : ∃ cb, w.heap.size = cb := ⟨_, rfl⟩
  have S1 := (Sep.nil w).newBox #[iv ses, iv o1, iv rate, iv burst, iv o4, iv o5, iv idle, iv o7, iv o8, iv o9, .string seed, .string board, .slice a n cap] 24
  rw [hW1, hcb] at S1
  have c2 : W1.cell? ⟨cb, 2, none⟩ = some (iv rate) := (S1.boxGet k0m).cellv 2 _ rfl
  have c3 : W1.cell? ⟨cb, 3, none⟩ = some (iv burst) := (S1.boxGet k0m).cellv 3 _ rfl
  have hB := Bu.new_yes rate burst W1 h
  have HS1 := Keep.mk S1
  have HV := Keep.mk (And.intro hv hk)
  clear h S1 hv hk hn
  go_enter Tryz.func5, Tryz.ntmps5
  go_wp2_with fail
  refine hB.mono ?_
  rintro e w2 ⟨rfl, g2⟩
  have S3 := (HS1.out.grown g2).newBox #[iv rate, iv burst, iv (16 * burst)] 60
  obtain ⟨W3, hW3⟩ : ∃ W3, w2.alloc (.cells #[iv rate, iv burst, iv (16 * burst)] 60) = W3 := ⟨_, rfl⟩
  obtain ⟨fb, hfb⟩ : ∃ fb, w2.heap.size = fb := ⟨_, rfl⟩
  rw [hW3, hfb] at S3
  have mkC : ∀ ww, W3.grownBy ww none → NwC ww cb fb ses rate burst idle (.slice a n cap) := fun ww g => by
    have S := S3.grown g
    exact ⟨(S.boxGet k1m).cellv 0 _ rfl, (S.boxGet k1m).cellv 6 _ rfl, (S.boxGet k1m).cellv 12 _ rfl, (S.boxGet k0m).cellv 0 _ rfl, (S.boxGet k0m).cellv 1 _ rfl, (S.boxGet k0m).cellv 2 _ rfl⟩
  have HMC := Keep.mk mkC
  obtain ⟨c0, c6, c12, f0, f1, f2⟩ := mkC W3 (World.grownBy.refl _ _)
  have hw1 := within_c ses 32 W3
  have hw2 := within_c idle 100000 W3
  have hcp := copy_c W3 _ P (HV.out.1.kept S3.g) (HV.out.2.kept S3.g)
  have HS3 := Keep.mk S3
  clear hB g2 HS1 HV c2 c3 S3 mkC hW1 hcb
  by_cases q1 : 1 ≤ ses ∧ ses ≤ 32
  · have e1 : (decide (1 ≤ ses) && decide (ses ≤ 32)) = true := by simp [q1]
    rw [e1] at hw1
    go_wp2_with fail
    refine hw1.mono ?_
    rintro e w4 ⟨rfl, hw⟩
    subst w4
    clear hw1 e1
    by_cases q2 : 1 ≤ idle ∧ idle ≤ 100000
    · have e2 : (decide (1 ≤ idle) && decide (idle ≤ 100000)) = true := by simp [q2]
      rw [e2] at hw2
      go_wp2_with fail
      refine hw2.mono ?_
      rintro e w4 ⟨rfl, hw⟩
      subst w4
      clear hw2 e2
      go_wp2_with fail
      refine hcp.mono ?_
      intro e w5 h5
      cases hA : cpyL P with
      | none =>
        rw [hA] at h5
        obtain ⟨rfl, g5⟩ := h5
        have HG := Keep.mk (HS3.out.g.trans g5)
        have HE : Keep (cpyL P = none) := ⟨hA⟩
        have HQ : Keep ((1 ≤ ses ∧ ses ≤ 32) ∧ (1 ≤ idle ∧ idle ≤ 100000)) := ⟨q1, q2⟩
        clear hcp g5 hA q1 q2 hW3 hfb c0 c6 c12 f0 f1 f2
        go_wp2_with fail
        go_ret2
        refine HNL.out _ _ (fun _ _ => ?_) (fun z => absurd HQ.out z)
        rw [HE.out]
        exact ⟨rfl, HG.out⟩
      | some A =>
        rw [hA] at h5
        obtain ⟨hA1, hA2, v5, rfl, S5⟩ := h5
        obtain ⟨va, vc, rfl⟩ := own_slice (S5.rowGet k0m)
        obtain ⟨c0, c6, c12, f0, f1, f2⟩ := HMC.out w5 S5.g
        have S6 := HS3.out.ovr S5
        obtain ⟨sn, rfl⟩ : ∃ sn : Nat, ses = (sn : Int) := ⟨ses.toNat, by omega⟩
        obtain ⟨dn, rfl⟩ : ∃ dn : Nat, idle = (dn : Int) := ⟨idle.toNat, by omega⟩
        obtain ⟨W6, hW6⟩ : ∃ W6, w5.alloc (.map #[] 0) = W6 := ⟨_, rfl⟩
        obtain ⟨mb, hmb⟩ : ∃ mb, w5.heap.size = mb := ⟨_, rfl⟩
        have S7 := S6.mapNew
        rw [hW6, hmb] at S7
        have S8 := S7.newBox #[iv (sn : Nat), uv dn, iv rate, iv burst, iv (16 * burst), .slice va A.length vc, .int .u64 1, .map (some mb)] 70
        obtain ⟨W7, hW7⟩ : ∃ W7, W6.alloc (.cells #[iv (sn : Nat), uv dn, iv rate, iv burst, iv (16 * burst), .slice va A.length vc, .int .u64 1, .map (some mb)] 70) = W7 := ⟨_, rfl⟩
        obtain ⟨lb, hlb⟩ : ∃ lb, W6.heap.size = lb := ⟨_, rfl⟩
        rw [hW7, hlb] at S8
        have HF : Keep (Sep w W7 [lobA lb ⟨sn, dn, rate, burst, A, 1, []⟩]) := ⟨Sep.cls (lobL lb ⟨sn, dn, rate, burst, A, 1, []⟩) (.slice va A.length vc, mb, []) (Sep.know (p := ([] : List (Nat × Se)).map (fun p => p.2) = []) (by
          have S9 := Sep.dropM [_, _, _] [_, _] S8
          exact S9.perm (List.Perm.cons _ (List.Perm.swap _ _ _))) rfl)⟩
        have hwu : IntKind.u64.wrap (dn : Int) = (dn : Int) := Wi.wu _ (by omega) (by omega)
        have HE : Keep (cpyL P = some A) := ⟨hA⟩
        have HQ : Keep ((1 ≤ (sn : Int) ∧ (sn : Int) ≤ 32) ∧ (1 ≤ (dn : Int) ∧ (dn : Int) ≤ 100000)) := ⟨q1, q2⟩
        have hmm := @run_makeMap Tryz.prog
        clear hcp hA q1 q2 hW3 hfb S5 S6 S7 S8 hA1 hA2
        go_wp2_with fail
        go_ret2
        refine HNL.out _ _ (fun _ _ => ?_) (fun z => absurd HQ.out z)
        rw [HE.out]
        refine ⟨lb, rfl, ?_⟩
        simp only [Int.toNat_natCast]
        exact HF.out
    · have e2 : (decide (1 ≤ idle) && decide (idle ≤ 100000)) = false := by
        rcases Int.lt_or_le idle 1 with z | z
        · rw [decide_eq_false (by omega)]; rfl
        · rw [decide_eq_false (p := idle ≤ 100000) (by omega), Bool.and_false]
      rw [e2] at hw2
      have HG := Keep.mk HS3.out.g
      have HQ : Keep (¬ (1 ≤ idle ∧ idle ≤ 100000)) := ⟨q2⟩
      clear q2 hcp
      go_wp2_with fail
      refine hw2.mono ?_
      rintro e w4 ⟨rfl, hw⟩
      subst w4
      clear hw2 e2 c0 c6 c12 f0 f1 f2 hW3
      go_wp2_with fail
      go_ret2
      exact HNL.out _ _ (fun _ z => absurd z HQ.out) (fun _ => ⟨rfl, HG.out⟩)
  · have e1 : (decide (1 ≤ ses) && decide (ses ≤ 32)) = false := by
      rcases Int.lt_or_le ses 1 with z | z
      · rw [decide_eq_false (by omega)]; rfl
      · rw [decide_eq_false (p := ses ≤ 32) (by omega), Bool.and_false]
    rw [e1] at hw1
    have HG := Keep.mk HS3.out.g
    have HQ : Keep (¬ (1 ≤ ses ∧ ses ≤ 32)) := ⟨q1⟩
    clear q1 hcp hw2
    go_wp2_with fail
    refine hw1.mono ?_
    rintro e w4 ⟨rfl, hw⟩
    subst w4
    clear hw1 e1 c0 c6 c12 f0 f1 f2 hW3
    go_wp2_with fail
    go_ret2
    exact HNL.out _ _ (fun z _ => absurd z HQ.out) (fun _ => ⟨rfl, HG.out⟩)
set_option maxRecDepth 100000 in
theorem new_c (w : World) (c : Cf) (v : Value) (P : List Pr) (hv : InR w v P) (hk : Na.Kc w) : Calls Tryz.prog 5 #[.agg (cfv c v)] w (NwR w (newL c P)) := by
  by_cases h : Bu.okay c.rate c.burst
  · exact new_go w c v P h hv hk
  · have e : newL c P = none := by unfold newL; rw [if_neg (fun z => h z.1)]
    rw [e]
    obtain ⟨a, cap, hve, _⟩ := hv.o
    exact new_bad w c v h ⟨a, _, cap, hve⟩
/-- what is known of a lobby -/
structure LbOk (X : Lb) : Prop where
  m1 : 1 ≤ X.most
  m2 : X.most ≤ 32
  r : Bu.okay X.r X.u
  a1 : ∀ a ∈ X.A, a.sc.length = 32
  a2 : X.A.length ≤ 64
  n1 : 1 ≤ X.next
  n2 : X.next ≤ 1000000
  nd : (X.S.map Se.num).Nodup
  s : ∀ s ∈ X.S, 1 ≤ s.num ∧ s.num < X.next ∧ s.pl < X.most ∧ s.key.length = 32 ∧ s.acc < X.A.length ∧ s.heard < 18446744073709551616 ∧ s.high < 18446744073709551616 ∧ s.sent < 18446744073709551616 ∧ s.wh < 18446744073709551616 ∧ s.wb < 18446744073709551616 ∧ 0 ≤ s.y ∧ s.y ≤ 16 * X.u ∧ s.nm.size ≤ 281474976710656 ∧ s.fr.size ≤ 281474976710656
  le : X.S.length ≤ X.most
/-- the secret that is told -/
def secS (X : Lb) (nm : ByteArray) : ByteArray := match fdI X.A nm with
  | some i => txt (((X.A[i]?).map Ac.sc).getD [])
  | none => ⟨#[]⟩
set_option maxRecDepth 100000 in
set_option maxHeartbeats 8000000 in
theorem secret_c (w0 W : World) (l : List As) (lb : Nat) (X : Lb) (nm : ByteArray) (h : Sep w0 W (lobA lb X :: l)) (ok : LbOk X) (hk : Na.Kc W) (hs : nm.size ≤ 281474976710656) :
    Calls Tryz.prog 43 #[pt lb, .string nm] W fun e W' => e = .returned (.tuple #[.string (secS X nm), .bool (fdI X.A nm).isSome]) ∧ Sep w0 W' (lobA lb X :: l) := by
  obtain ⟨⟨v, mb, P⟩, h⟩ := h.opn
  have c5 : W.cell? ⟨lb, 5, none⟩ = some v := (h.boxGet k1m).cellv 5 _ rfl
  have hA : AcR W v X.A := acr_of ok.a1 (h.rowGet k2m)
  have hF := find_c W v X.A nm hA hk hs ok.a2
  obtain ⟨a, cap, hve, _⟩ := hA.o
  subst hve
  have HS : Keep (∀ W', W.grownBy W' none → Sep w0 W' (lobA lb X :: l)) := ⟨fun W' g => Sep.cls (lobL lb X) (_, mb, P) (h.grown g)⟩
  have HC : Keep (∀ W', W.grownBy W' none → W'.cell? ⟨lb, 5, none⟩ = some (.slice a X.A.length cap) ∧ AcR W' (.slice a X.A.length cap) X.A) := ⟨fun W' g => ⟨((h.grown g).boxGet k1m).cellv 5 _ rfl, hA.kept g⟩⟩
  cases hfd : fdI X.A nm with
  | none =>
    have HR : Keep (secS X nm = ⟨#[]⟩) := ⟨by unfold secS; rw [hfd]⟩
    rw [hfd] at hF
    simp only [idv] at hF
    rw [HR.out, show (none : Option Nat).isSome = false from rfl]
    clear h hA hfd
    go_enter Tryz.func43, Tryz.ntmps43
    go_wp2_with fail
    refine hF.mono ?_
    rintro e w1 ⟨rfl, g1⟩
    have HF := Keep.mk (HS.out w1 g1)
    clear hF g1 HS HC c5
    go_wp2_with fail
    go_ret2
    exact ⟨rfl, HF.out⟩
  | some i =>
    rw [hfd] at hF
    simp only [idv] at hF
    obtain ⟨x, hx⟩ : ∃ x, X.A[i]? = some x := by
      unfold fdI at hfd
      split at hfd
      · obtain ⟨hi, _⟩ := List.findIdx?_eq_some_iff_getElem.1 hfd
        exact ⟨_, List.getElem?_eq_getElem hi⟩
      · cases hfd
    have HR : Keep (secS X nm = txt x.sc) := ⟨by unfold secS; rw [hfd]; simp [hx]⟩
    rw [HR.out, show (some i : Option Nat).isSome = true from rfl]
    obtain ⟨hi, _⟩ := List.getElem?_eq_some_iff.1 hx
    have hxl := ok.a1 x (List.mem_of_getElem? hx)
    obtain ⟨n, hn⟩ : ∃ n, X.A.length = n := ⟨_, rfl⟩
    rw [hn] at hi c5 hF
    have hi0 : (0 : Int) ≤ (i : Int) := by omega
    have hi1 : (i : Int) < (n : Nat) := by omega
    have hti : ((i : Nat) : Int).toNat = i := by omega
    have HX := Keep.mk (And.intro hx hn)
    have HXL := Keep.mk hxl
    clear h hA hfd hx hxl hn ok
    go_enter Tryz.func43, Tryz.ntmps43
    go_wp2_with fail
    refine hF.mono ?_
    rintro e w1 ⟨rfl, g1⟩
    obtain ⟨c5', hA1⟩ := HC.out w1 g1
    obtain ⟨a', cap', e1, hq⟩ := hA1.o
    injection e1 with e2 e3 e4
    obtain ⟨g, hg, hq⟩ := hq (by rw [HX.out.2]; omega)
    rw [← e2] at hg
    subst hg
    have hrg := hq i x HX.out.1
    have hrk : w1.rangeAt g (i * 33 + 1) (x.sc.map b8) := fun j v hv => by
      have := hrg (j + 1) v (by simpa [acv] using hv)
      rw [show i * 33 + 1 + j = i * 33 + (j + 1) by omega]
      exact this
    rw [HX.out.2] at c5'
    have HRK := Keep.mk hrk
    have hT := text_c x.sc w1 HXL.out
    have HF := Keep.mk (HS.out w1 g1)
    obtain ⟨du, hdu, hdr⟩ : ∃ d, Tryz.prog.underlying 102 = some d ∧ d.isRow = true := ⟨_, Tryz.underlying102, rfl⟩
    have HI85 : Keep ((Tryz.prog.info? 102).map (·.size) = some (x.sc.map b8).length) := ⟨by rw [List.length_map, HXL.out]; kernel_rfl⟩
    clear hF HC hA1 e2 e3 e4 hq hrg hrk c5
    obtain ⟨cs, hcs⟩ : ∃ cs, x.sc.map b8 = cs := ⟨_, rfl⟩
    rw [hcs] at HRK HI85 hT
    obtain ⟨tx, htx⟩ : ∃ tx, txt x.sc = tx := ⟨_, rfl⟩
    rw [htx] at hT
    have HTX := Keep.mk htx
    clear hcs htx HXL HX
    go_wp2_with (first
      | (show wpList _ _ _ ({ dst := _, op := Op.load 102 _, type := _, pos := _, after := _, guard := _ } :: _) _ _
         refine wpList_load_mid rfl 102 _ rfl _ _ rfl _ _ HRK.out hdu hdr HI85.out ?_))
    refine hT.mono ?_
    rintro e w2 ⟨rfl, g2⟩
    have HF2 := Keep.mk (HF.out.grown g2)
    clear hT g2 HF HS
    go_wp2_with fail
    go_ret2
    rw [HTX.out]
    exact ⟨rfl, HF2.out⟩
end Go.Proofs.YtplcicbpkbamnabGreatDoor.Lo

