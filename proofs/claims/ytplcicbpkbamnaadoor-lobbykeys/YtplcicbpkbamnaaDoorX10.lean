import Derived.Test.YtplcicbpkbamnaaDoorX8
import Derived.Test.YtplcicbpkbamnaaDoorX9
import Derived.Test.YtplcicbpkbamnaaDoorX0
import Derived.Maps.OwnSet
import Derived.Maps.RangeWalk
import Derived.Laws.BitsAllLaws
import Derived.Deep.RegionHeld
import Derived.RegionTactic
import Derived.ChangeAlike
/- lobby: keys as texts; within; New; Secret. -/
namespace Go.Proofs.YtplcicbpkbamnaaDoor.Lo
open Go Go.RowKit

/-- 32 bytes as a text -/
def txt (l : List UInt8) : ByteArray := ⟨l.toArray⟩
theorem cvt_has {w : World} {b n c : Nat} {l : List UInt8} {t : TypeId} (h : Has w b (l.map b8) t) (hn : l.length = n) : (convert 81 9 (.slice (some ⟨b, 0, none⟩) n c)).run Tryd.prog w = .ok (.string (txt l)) w := by
  have := run_convert_bytes_back (P := Tryd.prog) w 81 9 5 ⟨b, 0, none⟩ c l under28 under5 under9 (fun j hj => by
    rw [Addr.add_mid, Nat.zero_add]; exact h.cellv j _ (by rw [List.getElem?_map, List.getElem?_eq_getElem hj]; rfl))
  rw [hn] at this
  exact this
set_option maxRecDepth 100000 in
set_option maxHeartbeats 4000000 in
theorem text_c (l : List UInt8) (w : World) (hl : l.length = 32) : Calls Tryd.prog 36 #[.agg (l.map b8).toArray] w fun e w' => e = .returned (.string (txt l)) ∧ w.grownBy w' none := by
  obtain ⟨W1, hW1⟩ : ∃ W1, w.alloc (.cells (l.map b8).toArray 85) = W1 := ⟨_, rfl⟩
  obtain ⟨kb, hkb⟩ : ∃ kb, w.heap.size = kb := ⟨_, rfl⟩
  have hH : Has W1 kb (l.map b8) 85 := by rw [← hW1, ← hkb]; exact Has.newA w (l.map b8).toArray 85
  have hcv := cvt_has (c := 32) hH hl
  have HG : Keep (w.grownBy W1 none) := ⟨by rw [← hW1]; exact World.grownBy_alloc _ _ _⟩
  obtain ⟨cs, hcs⟩ : ∃ cs, (l.map b8).toArray = cs := ⟨_, rfl⟩
  rw [hcs] at hW1 ⊢
  obtain ⟨tx, htx⟩ : ∃ tx, txt l = tx := ⟨_, rfl⟩
  rw [htx] at hcv ⊢
  have hsz : cs.size = 32 := by rw [← hcs]; simp [hl]
  clear hH hcs htx hl
  go_enter Tryd.func36, Tryd.ntmps36
  go_wp2_with fail
  go_ret
  exact ⟨rfl, HG.out⟩
theorem within_c (n m : Int) (w : World) : Calls Tryd.prog 33 #[.int .i64 n, .int .i64 m] w fun e w' => e = .returned (.bool (decide (1 ≤ n) && decide (n ≤ m))) ∧ w' = w := by
  by_cases h1 : 1 ≤ n
  · have HE : Keep ((decide (1 ≤ n) && decide (n ≤ m)) = decide (n ≤ m)) := ⟨by rw [decide_eq_true h1]; rfl⟩
    go_enter Tryd.func33, Tryd.ntmps33
    go_wp2_with fail
    go_ret
    rw [HE.out]
    exact ⟨rfl, rfl⟩
  · have HE : Keep ((decide (1 ≤ n) && decide (n ≤ m)) = false) := ⟨by rw [decide_eq_false h1]; rfl⟩
    go_enter Tryd.func33, Tryd.ntmps33
    go_wp2_with fail
    go_ret
    rw [HE.out]
    exact ⟨rfl, rfl⟩
end Go.Proofs.YtplcicbpkbamnaaDoor.Lo

/- lobby: the map of sessions. -/
namespace Go.Proofs.YtplcicbpkbamnaaDoor.Lo
open Go Go.RowKit Go.Maps
namespace Tb
variable {V : Type}
abbrev keys (L : List (Nat × V)) : List Nat := L.map (·.1)
/-- what is there under a key -/
def look : List (Nat × V) → Nat → Option V
  | [], _ => none
  | p :: r, k => if p.1 = k then some p.2 else look r k
/-- without a key -/
def rm (L : List (Nat × V)) (k : Nat) : List (Nat × V) := L.filter (fun p => decide (p.1 ≠ k))
set_option maxRecDepth 100000 in
theorem look_none {L : List (Nat × V)} {k : Nat} : look L k = none ↔ k ∉ keys L := by
  induction L with
  | nil => simp [look]
  | cons p r ih =>
    by_cases h : p.1 = k
    · simp [look, h]
    · simp only [look, h, if_false, ih, keys, List.map_cons, List.mem_cons, not_or]
      exact ⟨fun q => ⟨fun e => h e.symm, q⟩, fun q => q.2⟩
set_option maxRecDepth 100000 in
theorem look_split {L : List (Nat × V)} {k : Nat} {x : V} (h : look L k = some x) : ∃ A C, L = A ++ (k, x) :: C ∧ k ∉ keys A := by
  induction L with
  | nil => simp [look] at h
  | cons p r ih =>
    by_cases e : p.1 = k
    · simp only [look, e, if_true, Option.some.injEq] at h
      subst e; subst h
      exact ⟨[], r, rfl, by simp⟩
    · simp only [look, e, if_false] at h
      obtain ⟨A, C, rfl, hA⟩ := ih h
      refine ⟨p :: A, C, rfl, ?_⟩
      simp only [keys, List.map_cons, List.mem_cons, not_or]
      exact ⟨fun q => e q.symm, hA⟩
set_option maxRecDepth 100000 in
theorem look_mid {A C : List (Nat × V)} {k : Nat} {x : V} (h : k ∉ keys A) : look (A ++ (k, x) :: C) k = some x := by
  induction A with
  | nil => simp [look]
  | cons p r ih =>
    simp only [keys, List.map_cons, List.mem_cons, not_or] at h
    have e : ¬ p.1 = k := fun q => h.1 q.symm
    simp only [List.cons_append, look, e, if_false]
    exact ih h.2
set_option maxRecDepth 100000 in
theorem look_app {A C : List (Nat × V)} {k : Nat} (h : k ∉ keys A) : look (A ++ C) k = look C k := by
  induction A with
  | nil => rfl
  | cons p r ih =>
    simp only [keys, List.map_cons, List.mem_cons, not_or] at h
    have e : ¬ p.1 = k := fun q => h.1 q.symm
    simp only [List.cons_append, look, e, if_false]
    exact ih h.2
set_option maxRecDepth 100000 in
theorem look_app_of {A C : List (Nat × V)} {k : Nat} {x : V} (h : look A k = some x) : look (A ++ C) k = some x := by
  obtain ⟨B, D, rfl, hB⟩ := look_split h
  rw [List.append_assoc, List.cons_append]; exact look_mid hB
set_option maxRecDepth 100000 in
theorem rm_none {L : List (Nat × V)} {k : Nat} (h : k ∉ keys L) : rm L k = L := by
  refine List.filter_eq_self.2 fun p hp => ?_
  simp only [decide_eq_true_eq]
  exact fun e => h (e ▸ List.mem_map_of_mem hp)
set_option maxRecDepth 100000 in
theorem rm_mid {A C : List (Nat × V)} {k : Nat} {x : V} (hA : k ∉ keys A) (hC : k ∉ keys C) : rm (A ++ (k, x) :: C) k = A ++ C := by
  unfold rm
  rw [List.filter_append, List.filter_cons]
  simp only [ne_eq, not_true_eq_false, decide_false, Bool.false_eq_true, if_false]
  rw [show A.filter (fun p => decide (¬ p.1 = k)) = A from rm_none hA, show C.filter (fun p => decide (¬ p.1 = k)) = C from rm_none hC]
set_option maxRecDepth 100000 in
theorem nodup_mid {A C : List (Nat × V)} {k : Nat} {x : V} (h : (keys (A ++ (k, x) :: C)).Nodup) : k ∉ keys A ∧ k ∉ keys C ∧ (keys (A ++ C)).Nodup := by
  simp only [keys, List.map_append, List.map_cons] at h ⊢
  obtain ⟨h1, h2, h3⟩ := List.nodup_append.1 h
  obtain ⟨h4, h5⟩ := List.nodup_cons.1 h2
  exact ⟨fun q => h3 k q k (by simp) rfl, h4, List.nodup_append.2 ⟨h1, h5, fun a ha b hb => h3 a ha b (by simp [hb])⟩⟩
set_option maxRecDepth 100000 in
theorem rm_keys {L : List (Nat × V)} {k : Nat} : k ∉ keys (rm L k) := by
  intro h
  obtain ⟨p, hp, e⟩ := List.mem_map.1 h
  have := (List.mem_filter.1 hp).2
  simp only [decide_eq_true_eq] at this
  exact this e
set_option maxRecDepth 100000 in
theorem keys_rm_sub (L : List (Nat × V)) (k : Nat) : (keys (rm L k)).Sublist (keys L) := List.Sublist.map _ List.filter_sublist
set_option maxRecDepth 100000 in
theorem rm_len {L : List (Nat × V)} {k : Nat} (h : (keys L).Nodup) {x : V} (hk : look L k = some x) : (rm L k).length + 1 = L.length := by
  obtain ⟨A, C, rfl, hA⟩ := look_split hk
  obtain ⟨_, h2, _⟩ := nodup_mid h
  rw [rm_mid hA h2]; simp; omega
end Tb
abbrev uv (x : Nat) : Value := .int .u64 (x : Int)
abbrev pt (b : Nat) : Value := .pointer (some ⟨b, 0, none⟩)
abbrev np : Value := .pointer none
/-- how a pointer reads: as its block's number -/
def pe : Value → Option (DataW Unit × List MemPlace)
  | .pointer none => some (.nil, [])
  | .pointer (some ⟨b, 0, none⟩) => some (.lit (.int .i64 (b : Int)), [])
  | _ => none
set_option maxRecDepth 100000 in
theorem pe_pt (b : Nat) : pe (pt b) = some (.lit (.int .i64 (b : Int)), []) := rfl
set_option maxRecDepth 100000 in
theorem pe_np : pe np = some (.nil, []) := rfl
set_option maxRecDepth 100000 in
theorem pe_inv {v : Value} {b : Nat} {ps : List MemPlace} (h : pe v = some (.lit (.int .i64 (b : Int)), ps)) : v = pt b := by
  unfold pe at h
  split at h
  · simp at h
  · simp at h
    rw [Int.ofNat_inj.1 h.1]
  · cases h
set_option maxRecDepth 100000 in
theorem pe_inv0 {v : Value} {ps : List MemPlace} (h : pe v = some (.nil, ps)) : v = np := by
  unfold pe at h
  split at h
  · rfl
  · simp at h
  · cases h
set_option maxRecDepth 100000 in
theorem ownsMap_tight {k : TypeId} {R : Value → Option (DataW Unit × List MemPlace)} {w : World} {b n : Nat} {D : DataW Unit} (h : w.ownsMap Tryd.prog k R b n D) : w.ownsMap Tryd.prog k R b (Maps.size D) D := by
  obtain ⟨es, clock, h1, h2, h3, rfl⟩ := h
  exact ⟨es, clock, h1, h2, by simp [Maps.size, length_sorted], rfl⟩

/-- the map: keys and their entries' blocks -/
structure MapIs (w : World) (mb : Nat) (M : List (Nat × Nat)) : Prop where
  o : ∃ D : DataW Unit, w.ownsMap Tryd.prog 40 pe mb M.length D ∧ Maps.size D = M.length ∧ (∀ k, Maps.has D (.int .u64 ((k : Nat) : Int)) = (Tb.look M k).isSome) ∧ ∀ k z, D.atKey (.int .u64 ((k : Nat) : Int)) z = match Tb.look M k with | some b => .lit (.int .i64 ((b : Nat) : Int)) | none => z
set_option maxRecDepth 100000 in
theorem law40 : Keyed Tryd.prog 40 := int_keyed Tryd.underlying40
set_option maxRecDepth 100000 in
theorem zero90 (w : World) : (zeroValue 90).run Tryd.prog w = .ok np w := by
  simp [zeroValue]; rfl
set_option maxRecDepth 100000 in
theorem key40 (k : Nat) (hk : k < 18446744073709551616) : keyOf Tryd.prog 40 (uv k) = some (.int .u64 ((k : Nat) : Int)) := keyOf_int_mk Tryd.underlying40 (by simp [Lit.wf, IntKind.min, IntKind.max, IntKind.bits, IntKind.signed]; omega)
def pOf : Option Nat → Value
  | none => np
  | some b => pt b
set_option maxRecDepth 100000 in
theorem MapIs.look {w : World} {mb : Nat} {M : List (Nat × Nat)} (h : MapIs w mb M) (k : Nat) (hk : k < 18446744073709551616) :
    (Instr.lookup 78 (.map (some mb)) (uv k) true).run Tryd.prog w = .ok (.tuple #[pOf (Tb.look M k), .bool (Tb.look M k).isSome]) w := by
  obtain ⟨D, o, _, h2, h3⟩ := h.o
  obtain ⟨v, ps, r1, r2⟩ := o.look_ok law40 Tryd.underlying78 (zero90 w) pe_np (key40 k hk)
  rw [r1, h2]
  rw [h3] at r2
  congr 4
  cases hl : Tb.look M k with
  | none => rw [hl] at r2; exact pe_inv0 r2
  | some b => rw [hl] at r2; exact pe_inv r2
set_option maxRecDepth 100000 in
theorem MapIs.len {w : World} {mb : Nat} {M : List (Nat × Nat)} (h : MapIs w mb M) (ty : TypeId) : (Builtin.len_ #[78] ty #[.map (some mb)]).run Tryd.prog w = .ok (.int .i64 (M.length : Nat)) w := by
  obtain ⟨D, o, h1, _, _⟩ := h.o
  rw [o.len Tryd.underlying78, h1]
set_option maxRecDepth 100000 in
theorem key_ne {a b : Nat} (h : a ≠ b) : Lit.int .u64 ((a : Nat) : Int) ≠ Lit.int .u64 ((b : Nat) : Int) := fun e => h (by injection e with _ e; exact Int.ofNat_inj.1 e)
set_option maxRecDepth 100000 in
theorem MapIs.new (w : World) : MapIs (w.alloc (.map #[] 0)) w.heap.size [] := by
  refine ⟨_, World.ownsMap_made w _ _ _, rfl, fun k => rfl, fun k z => ?_⟩
  simp [Tb.look]; exact Maps.atKey_of_not_has rfl _
set_option maxRecDepth 100000 in
theorem MapIs.put {w : World} {mb : Nat} {M : List (Nat × Nat)} (h : MapIs w mb M) (k : Nat) (hk : k < 18446744073709551616) (b : Nat) (hn : Tb.look M k = none) (hl : M.length ≤ 4096) :
    ∃ w', (Instr.mapUpdate 78 (.map (some mb)) (uv k) (pt b)).run Tryd.prog w = .ok () w' ∧ MapIs w' mb (M ++ [(k, b)]) ∧ w.grownBy w' (some mb) ∧ w'.heap.size = w.heap.size := by
  obtain ⟨D, o, h1, h2, h3⟩ := h.o
  obtain ⟨w', r1, r2, r3⟩ := o.store law40 Tryd.underlying78 (by unfold maxLen; omega) (key40 k hk) (pe_pt b)
  have t := o.tidy law40
  have hh : Maps.has D (.int .u64 ((k : Nat) : Int)) = false := by rw [h2, hn]; rfl
  have hs : Maps.size (D.put (.int .u64 ((k : Nat) : Int)) (.lit (.int .i64 (b : Int)))) = M.length + 1 := by
    rw [Maps.size_put t, hh, h1]; rfl
  refine ⟨w', r1, ⟨_, (ownsMap_tight r2).mono (by rw [hs, List.length_append]; exact Nat.le_refl _), by rw [hs, List.length_append]; rfl, fun k' => ?_, fun k' z => ?_⟩, r3.grown, ?_⟩
  · by_cases e : k' = k
    · subst e
      rw [Maps.has_put_same (k := .int .u64 ((k' : Nat) : Int)) t.isMap trivial, Tb.look_app (Tb.look_none.1 hn)]; simp [Tb.look]
    · rw [Maps.has_put_other (key_ne e), h2]
      cases hq : Tb.look M k' with
      | none => rw [Tb.look_app (Tb.look_none.1 hq)]; simp [Tb.look, Ne.symm e]
      | some x => rw [Tb.look_app_of hq]
  · by_cases e : k' = k
    · subst e
      rw [Maps.atKey_put_same (k := .int .u64 ((k' : Nat) : Int)) t.isMap trivial, Tb.look_app (Tb.look_none.1 hn)]; simp [Tb.look]
    · rw [Maps.atKey_put_other (key_ne e), h3]
      cases hq : Tb.look M k' with
      | none => rw [Tb.look_app (Tb.look_none.1 hq)]; simp [Tb.look, Ne.symm e]
      | some x => rw [Tb.look_app_of hq]
  · obtain ⟨_, _, _, _, _, rfl⟩ := r3
    simp [ChangeMaps.setBlock]
set_option maxRecDepth 100000 in
theorem look_rm {V : Type} (M : List (Nat × V)) (k k' : Nat) : Tb.look (Tb.rm M k) k' = if k' = k then none else Tb.look M k' := by
  by_cases e : k' = k
  · subst e
    rw [if_pos rfl]; exact Tb.look_none.2 Tb.rm_keys
  · rw [if_neg e]
    induction M with
    | nil => rfl
    | cons p r ih =>
      unfold Tb.rm at ih ⊢
      rw [List.filter_cons]
      by_cases h : p.1 = k
      · simp only [h, ne_eq, not_true_eq_false, decide_false, Bool.false_eq_true, if_false]
        rw [ih]
        simp only [Tb.look, h, Ne.symm e, if_false]
      · simp only [ne_eq, h, not_false_eq_true, decide_true, if_true, Tb.look]
        rw [ih]
set_option maxRecDepth 100000 in
theorem MapIs.drop {w : World} {mb : Nat} {M : List (Nat × Nat)} (h : MapIs w mb M) (k : Nat) (hk : k < 18446744073709551616) (ty : TypeId) (hd : (Tb.keys M).Nodup) (b : Nat) (hb : Tb.look M k = some b) :
    ∃ w', (Builtin.delete_ #[78, 40] ty #[.map (some mb), uv k]).run Tryd.prog w = .ok (.tuple #[]) w' ∧ MapIs w' mb (Tb.rm M k) ∧ w.grownBy w' (some mb) ∧ w'.heap.size = w.heap.size := by
  obtain ⟨D, o, h1, h2, h3⟩ := h.o
  obtain ⟨w', r1, r2, r3⟩ := o.drop law40 Tryd.underlying78 (key40 k hk) ty
  have t := o.tidy law40
  have hh : Maps.has D (.int .u64 ((k : Nat) : Int)) = true := by rw [h2, hb]; rfl
  have hs := Maps.size_del (k := .int .u64 ((k : Nat) : Int)) t
  rw [hh, h1, ← Tb.rm_len hd hb] at hs
  have hs : Maps.size (D.del (.int .u64 ((k : Nat) : Int))) = (Tb.rm M k).length := by simpa using hs
  refine ⟨w', r1, ⟨_, (ownsMap_tight r2).mono (by rw [hs]; exact Nat.le_refl _), hs, fun k' => ?_, fun k' z => ?_⟩, r3.grown, ?_⟩
  · rw [look_rm]
    by_cases e : k' = k
    · subst e
      rw [Maps.has_del_same, if_pos rfl]; rfl
    · rw [Maps.has_del_other (key_ne e), h2, if_neg e]
  · rw [look_rm]
    by_cases e : k' = k
    · subst e
      rw [Maps.atKey_del_same, if_pos rfl]
    · rw [Maps.atKey_del_other (key_ne e), h3, if_neg e]
  · obtain ⟨_, _, _, _, _, rfl⟩ := r3
    simp [ChangeMaps.setBlock]
set_option maxRecDepth 100000 in
theorem MapIs.fr {S : Nat → Prop} {w w' : World} {mb : Nat} {M : List (Nat × Nat)} (h : MapIs w mb M) (f : Fr S w w') (hs : ¬ S mb) : MapIs w' mb M := by
  obtain ⟨D, o, h1⟩ := h.o
  have := o.lt
  obtain ⟨es, clock, q1, q2, q3, rfl⟩ := o
  exact ⟨_, ⟨es, clock, by rw [f.block mb this hs]; exact q1, q2, q3, rfl⟩, h1⟩
set_option maxRecDepth 100000 in
theorem MapIs.lt {w : World} {mb : Nat} {M : List (Nat × Nat)} (h : MapIs w mb M) : mb < w.heap.size := by
  obtain ⟨D, o, h1⟩ := h.o
  exact o.lt
/-- the order of the keys makes no difference -/
theorem MapIs.same {w : World} {mb : Nat} {M M' : List (Nat × Nat)} (h : MapIs w mb M) (hl : M'.length = M.length) (hk : ∀ k, Tb.look M' k = Tb.look M k) : MapIs w mb M' := by
  obtain ⟨D, o, h1, h2, h3⟩ := h.o
  exact ⟨D, by rw [hl]; exact o, by rw [hl]; exact h1, fun k => by rw [hk]; exact h2 k, fun k z => by rw [hk]; exact h3 k z⟩
/-- the map, as a thing that lies apart -/
def mapA (mb : Nat) (M : List (Nat × Nat)) : As :=
  ⟨fun W F => MapIs W mb M ∧ F = fun i => i = mb, fun S W W' F h f hs => ⟨h.1.fr f (hs mb (by rw [h.2])), h.2⟩, fun W F h i hi => by rw [h.2] at hi; have hi : i = mb := hi; rw [hi]; exact h.1.lt⟩
set_option maxRecDepth 100000 in
theorem Sep.mapGet {w0 W : World} {l : List As} {mb : Nat} {M : List (Nat × Nat)} (h : Sep w0 W l) (hm : mapA mb M ∈ l) : MapIs W mb M := by
  obtain ⟨F, q, _⟩ := h.get hm
  exact q
set_option maxRecDepth 100000 in
theorem Sep.mapPut {w0 W : World} {l : List As} {mb : Nat} {M : List (Nat × Nat)} (h : Sep w0 W (mapA mb M :: l)) (k : Nat) (hk : k < 18446744073709551616) (b : Nat) (hn : Tb.look M k = none) (hl : M.length ≤ 4096) :
    ∃ W', (Instr.mapUpdate 78 (.map (some mb)) (uv k) (pt b)).run Tryd.prog W = .ok () W' ∧ Sep w0 W' (mapA mb (M ++ [(k, b)]) :: l) := by
  obtain ⟨F, ⟨h1, rfl⟩, _, hu⟩ := h.use
  obtain ⟨W', r1, r2, r3, _⟩ := h1.put k hk b hn hl
  exact ⟨W', r1, hu W' [_] (Fr.ofSome r3 rfl) (Loc.one (a := mapA _ _) _ ⟨r2, rfl⟩ (fun i hi => .inl hi))⟩
set_option maxRecDepth 100000 in
theorem Sep.mapDrop {w0 W : World} {l : List As} {mb : Nat} {M : List (Nat × Nat)} (h : Sep w0 W (mapA mb M :: l)) (k : Nat) (hk : k < 18446744073709551616) (ty : TypeId) (hd : (Tb.keys M).Nodup) (b : Nat) (hb : Tb.look M k = some b) :
    ∃ W', (Builtin.delete_ #[78, 40] ty #[.map (some mb), uv k]).run Tryd.prog W = .ok (.tuple #[]) W' ∧ Sep w0 W' (mapA mb (Tb.rm M k) :: l) := by
  obtain ⟨F, ⟨h1, rfl⟩, _, hu⟩ := h.use
  obtain ⟨W', r1, r2, r3, _⟩ := h1.drop k hk ty hd b hb
  exact ⟨W', r1, hu W' [_] (Fr.ofSome r3 rfl) (Loc.one (a := mapA _ _) _ ⟨r2, rfl⟩ (fun i hi => .inl hi))⟩
set_option maxRecDepth 100000 in
theorem Sep.mapNew {w0 W : World} {l : List As} (h : Sep w0 W l) : Sep w0 (W.alloc (.map #[] 0)) (mapA W.heap.size [] :: l) :=
  h.new (World.grownBy_alloc _ _ _) (Loc.one (a := mapA _ _) _ ⟨MapIs.new W, rfl⟩ (fun i hi => .inr (by rw [hi]; exact Nat.le_refl _)))
end Go.Proofs.YtplcicbpkbamnaaDoor.Lo

/- windows over numbers: which were marked. -/
namespace Go.Proofs.YtplcicbpkbamnaaDoor.Lo.Wi



/-- what Check answers -/
def chk (h B s : Nat) : Nat := if h < s then (if 64 < s - h then 92 else 0) else if s = 0 ∨ 64 ≤ h - s then 90 else if B.testBit (h - s) then 91 else 0
/-- the highest one behind a Mark -/
def mkH (h B s : Nat) : Nat := if chk h B s = 0 then max h s else h
/-- the bits behind a Mark -/
def mkB (h B s : Nat) : Nat := if chk h B s = 0 then (if h < s then (B * 2 ^ (s - h)) % 18446744073709551616 ||| 1 else B ||| 2 ^ (h - s)) else B

/-- M is what was marked, and h and B know it -/
structure Inv (h B : Nat) (M : List Nat) : Prop where
  bit : ∀ i, B.testBit i = true ↔ i < 64 ∧ i < h ∧ (h - i) ∈ M
  le : ∀ m ∈ M, 0 < m ∧ m ≤ h
  top : h ≠ 0 → h ∈ M
set_option maxRecDepth 100000 in
theorem Inv.lt {h B : Nat} {M : List Nat} (v : Inv h B M) : B < 18446744073709551616 := by
  apply Nat.lt_pow_two_of_testBit (n := 64)
  intro i hi
  have := v.bit i
  cases e : B.testBit i
  · rfl
  · have := this.1 e; omega
set_option maxRecDepth 100000 in
theorem Inv.zero : Inv 0 0 [] := ⟨fun i => by simp, fun m hm => by simp at hm, fun h => absurd rfl h⟩
set_option maxRecDepth 100000 in
theorem Inv.same {h B h' B' : Nat} {M M' : List Nat} (v : Inv h B M) (v' : Inv h' B' M') (e : ∀ x, x ∈ M ↔ x ∈ M') : h = h' ∧ B = B' := by
  have e1 : h = h' := by
    rcases Nat.eq_zero_or_pos h with q | q
    · rcases Nat.eq_zero_or_pos h' with q' | q'
      · omega
      · have := (v.le h' ((e _).2 (v'.top (by omega)))).2; omega
    · have a := (v'.le h ((e _).1 (v.top (by omega)))).2
      have b := (v.le h' ((e _).2 (v'.top (by omega)))).2
      omega
  subst e1
  refine ⟨rfl, Nat.eq_of_testBit_eq fun i => ?_⟩
  have a := v.bit i
  have b := v'.bit i
  rw [← e] at b
  cases x : B.testBit i <;> cases y : B'.testBit i <;> simp_all
/-- Check by what was marked -/
theorem Inv.chk_is {h B : Nat} {M : List Nat} (v : Inv h B M) (s : Nat) : chk h B s = if h < s then (if 64 < s - h then 92 else 0) else if s = 0 ∨ 64 ≤ h - s then 90 else if s ∈ M then 91 else 0 := by
  unfold chk
  by_cases h1 : h < s
  · rw [if_pos h1, if_pos h1]
  · rw [if_neg h1, if_neg h1]
    by_cases h2 : s = 0 ∨ 64 ≤ h - s
    · rw [if_pos h2, if_pos h2]
    · rw [if_neg h2, if_neg h2]
      have := v.bit (h - s)
      rw [show h - (h - s) = s by omega] at this
      by_cases h3 : s ∈ M
      · rw [if_pos h3, if_pos (this.2 ⟨by omega, by omega, h3⟩)]
      · rw [if_neg h3, if_neg (fun q => h3 (this.1 q).2.2)]
set_option maxRecDepth 100000 in
theorem Inv.chk_zero {h B : Nat} {M : List Nat} (v : Inv h B M) (s : Nat) : chk h B s = 0 ↔ (h < s ∧ s - h ≤ 64 ∨ s ≤ h ∧ 0 < s ∧ h - s < 64) ∧ s ∉ M := by
  rw [v.chk_is]
  constructor
  · intro q
    by_cases h1 : h < s
    · rw [if_pos h1] at q
      split at q
      · cases q
      · exact ⟨.inl ⟨h1, by omega⟩, fun e => by have := (v.le s e).2; omega⟩
    · rw [if_neg h1] at q
      split at q
      · cases q
      · split at q
        · cases q
        · exact ⟨.inr ⟨by omega, by omega, by omega⟩, by assumption⟩
  · rintro ⟨q, r⟩
    rcases q with ⟨a, b⟩ | ⟨a, b, c⟩
    · rw [if_pos a, if_neg (by omega)]
    · rw [if_neg (by omega), if_neg (by omega), if_neg r]
set_option maxRecDepth 100000 in
theorem Inv.yes {h B : Nat} {M : List Nat} (v : Inv h B M) {s : Nat} (hs : chk h B s = 0) : Inv (mkH h B s) (mkB h B s) (s :: M) := by
  have q := (v.chk_zero s).1 hs
  unfold mkH mkB
  rw [if_pos hs, if_pos hs]
  obtain ⟨q, r⟩ := q
  refine ⟨fun i => ?_, fun m hm => ?_, fun hh => ?_⟩
  · by_cases h1 : h < s
    · rw [if_pos h1, show max h s = s by omega, Nat.testBit_or, show 18446744073709551616 = 2 ^ 64 by rfl, Nat.testBit_mod_two_pow, ← Nat.shiftLeft_eq, Nat.testBit_shiftLeft]
      have hb := v.bit (i - (s - h))
      have h01 : Nat.testBit 1 i = true ↔ i = 0 := Nat.testBit_one_eq_true_iff_self_eq_zero
      simp only [Bool.or_eq_true, Bool.and_eq_true, decide_eq_true_eq, h01, hb, List.mem_cons]
      constructor
      · rintro (⟨a, b, c, d, e⟩ | rfl)
        · exact ⟨a, by omega, .inr (by rw [show s - i = h - (i - (s - h)) by omega]; exact e)⟩
        · exact ⟨by omega, by omega, .inl (by omega)⟩
      · rintro ⟨a, b, c⟩
        rcases c with c | c
        · exact .inr (by omega)
        · have := v.le _ c
          exact .inl ⟨a, by omega, by omega, by omega, by rw [show h - (i - (s - h)) = s - i by omega]; exact c⟩
    · rw [if_neg h1, show max h s = h by omega, Nat.testBit_or, Nat.testBit_two_pow]
      have hb := v.bit i
      simp only [Bool.or_eq_true, decide_eq_true_eq, hb, List.mem_cons]
      constructor
      · rintro (⟨a, b, c⟩ | rfl)
        · exact ⟨a, b, .inr c⟩
        · exact ⟨by omega, by omega, .inl (by omega)⟩
      · rintro ⟨a, b, c⟩
        rcases c with c | c
        · exact .inr (by omega)
        · exact .inl ⟨a, b, c⟩
  · rcases List.mem_cons.1 hm with rfl | hm
    · omega
    · have := v.le m hm; omega
  · by_cases h1 : h < s
    · rw [show max h s = s by omega]; exact List.mem_cons_self
    · rw [show max h s = h by omega]
      exact List.mem_cons_of_mem _ (v.top (by omega))
set_option maxRecDepth 100000 in
theorem mkH_no {h B s : Nat} (hs : chk h B s ≠ 0) : mkH h B s = h := by unfold mkH; rw [if_neg hs]
set_option maxRecDepth 100000 in
theorem mkB_no {h B s : Nat} (hs : chk h B s ≠ 0) : mkB h B s = B := by unfold mkB; rw [if_neg hs]
/-- the list behind a Mark -/
def mkM (h B s : Nat) (M : List Nat) : List Nat := if chk h B s = 0 then s :: M else M
set_option maxRecDepth 100000 in
theorem Inv.mark {h B : Nat} {M : List Nat} (v : Inv h B M) (s : Nat) : Inv (mkH h B s) (mkB h B s) (mkM h B s M) := by
  unfold mkM
  by_cases hs : chk h B s = 0
  · rw [if_pos hs]; exact v.yes hs
  · rw [if_neg hs, mkH_no hs, mkB_no hs]; exact v
set_option maxRecDepth 100000 in
theorem chk_cases (h B s : Nat) : chk h B s = 0 ∨ chk h B s = 90 ∨ chk h B s = 91 ∨ chk h B s = 92 := by
  unfold chk
  repeat' split
  all_goals omega
set_option maxRecDepth 100000 in
theorem mkH_lt {h B s : Nat} (hh : h < 18446744073709551616) (hs : s < 18446744073709551616) : mkH h B s < 18446744073709551616 := by unfold mkH; split <;> omega
set_option maxRecDepth 100000 in
theorem mkH_le {h B s : Nat} : h ≤ mkH h B s ∧ mkH h B s ≤ h + 64 := by
  unfold mkH
  split
  · rename_i q
    unfold chk at q
    by_cases h1 : h < s
    · rw [if_pos h1] at q
      split at q
      · cases q
      · omega
    · omega
  · omega
end Go.Proofs.YtplcicbpkbamnaaDoor.Lo.Wi

/- window: above, within, Check, High, Bits. -/
namespace Go.Proofs.YtplcicbpkbamnaaDoor.Lo.Wi
open Go Go.RowKit

abbrev uv (x : Nat) : Value := .int .u64 (x : Nat)
abbrev wv (h B : Nat) : List Value := [uv h, uv B]
set_option maxRecDepth 100000 in
theorem wu (x : Int) (h : 0 ≤ x) (h2 : x < 18446744073709551616) : IntKind.u64.wrap x = x := by
  simp [IntKind.wrap, IntKind.bits, IntKind.signed]; omega
set_option maxRecDepth 100000 in
theorem wi (x : Int) (h : -9223372036854775808 ≤ x) (h2 : x ≤ 9223372036854775807) : IntKind.i64.wrap x = x := by
  rw [IntKind.wrap_i64]; omega
set_option maxRecDepth 100000 in
theorem above_c (h B s : Nat) (w : World) (hs : s < 18446744073709551616) (h1 : h < s) :
    Calls Tryd.prog 66 #[.agg #[uv h, uv B], uv s] w fun e w' => e = .returned (.int .i64 (chk h B s : Nat)) ∧ w.grownBy w' none := by
  have hw : IntKind.u64.wrap ((s : Int) - (h : Int)) = ((s - h : Nat) : Int) := by rw [wu _ (by omega) (by omega)]; omega
  have HC : Keep (chk h B s = if 64 < s - h then 92 else 0) := ⟨by unfold chk; rw [if_pos h1]⟩
  generalize chk h B s = c at *
  obtain ⟨d, hd⟩ : ∃ d, s - h = d := ⟨_, rfl⟩
  rw [hd] at hw HC
  clear hd
  go_enter Tryd.func66, Tryd.ntmps66
  go_wp2_with fail
  · go_ret
    rename_i q
    exact ⟨by rw [HC.out, if_pos (by omega)]; rfl, World.grownBy_alloc _ _ _⟩
  · go_ret
    rename_i q
    exact ⟨by rw [HC.out, if_neg (by omega)]; rfl, World.grownBy_alloc _ _ _⟩
set_option maxRecDepth 100000 in
theorem bit_is (B d : Nat) (hB : B < 18446744073709551616) : (bits BinOp.and IntKind.u64 ((B : Int) / 2 ^ d) 1 == 1) = B.testBit d := by
  have e1 : ((B : Int) / 2 ^ d) = ((B / 2 ^ d : Nat) : Int) := by simp
  have e2 : B / 2 ^ d < 18446744073709551616 := Nat.lt_of_le_of_lt (Nat.div_le_self _ _) hB
  have := u64_and_nat (B / 2 ^ d) 1 e2 (by omega)
  rw [e1]
  rw [show ((1 : Nat) : Int) = 1 by rfl] at this
  rw [this, nat_mask1, Nat.testBit_eq_decide_div_mod_eq]
  rw [Bool.eq_iff_iff]
  simp only [beq_iff_eq, decide_eq_true_eq]
  omega
set_option maxRecDepth 100000 in
theorem within_c (h B s : Nat) (w : World) (hh : h < 18446744073709551616) (hB : B < 18446744073709551616) (h1 : ¬ h < s) :
    Calls Tryd.prog 67 #[.agg #[uv h, uv B], uv s] w fun e w' => e = .returned (.int .i64 (chk h B s : Nat)) ∧ w.grownBy w' none := by
  have hw : IntKind.u64.wrap ((h : Int) - (s : Int)) = ((h - s : Nat) : Int) := by rw [wu _ (by omega) (by omega)]; omega
  have HC : Keep (chk h B s = if s = 0 ∨ 64 ≤ h - s then 90 else if B.testBit (h - s) then 91 else 0) := ⟨by unfold chk; rw [if_neg h1]⟩
  generalize chk h B s = c at *
  obtain ⟨d, hd⟩ : ∃ d, h - s = d := ⟨_, rfl⟩
  rw [hd] at hw HC
  have HB := Keep.mk (bit_is B d hB)
  clear hd
  go_enter Tryd.func67, Tryd.ntmps67
  go_wp2_with fail
  · go_ret
    have q : ((s : Int) == 0) = true := by assumption
    exact ⟨by rw [HC.out, if_pos (by simp at q; omega)]; rfl, World.grownBy_alloc _ _ _⟩
  · go_ret
    have q : (64 : Int) ≤ (d : Int) := by assumption
    exact ⟨by rw [HC.out, if_pos (by omega)]; rfl, World.grownBy_alloc _ _ _⟩
  · have q1 : ((s : Int) == 0) = false := by assumption
    have q2 : (d : Int) < 64 := by assumption
    have q3 : (bits BinOp.and IntKind.u64 ((B : Int) / 2 ^ d) 1 == 1) = true := by assumption
    rw [HB.out] at q3
    go_ret
    exact ⟨by rw [HC.out, if_neg (by simp at q1; omega), if_pos q3]; rfl, World.grownBy_alloc _ _ _⟩
  · have q1 : ((s : Int) == 0) = false := by assumption
    have q2 : (d : Int) < 64 := by assumption
    have q3 : (bits BinOp.and IntKind.u64 ((B : Int) / 2 ^ d) 1 == 1) = false := by assumption
    rw [HB.out] at q3
    go_ret
    exact ⟨by rw [HC.out, if_neg (by simp at q1; omega), if_neg (by simp [q3])]; rfl, World.grownBy_alloc _ _ _⟩
set_option maxRecDepth 100000 in
theorem check_c (h B s : Nat) (w : World) (hh : h < 18446744073709551616) (hB : B < 18446744073709551616) (hs : s < 18446744073709551616) :
    Calls Tryd.prog 50 #[.agg #[uv h, uv B], uv s] w fun e w' => e = .returned (.int .i64 (chk h B s : Nat)) ∧ w.grownBy w' none := by
  have HA : Keep (h < s → ∀ w, Calls Tryd.prog 66 #[.agg #[uv h, uv B], uv s] w fun e w' => e = .returned (.int .i64 (chk h B s : Nat)) ∧ w.grownBy w' none) := ⟨fun q w => above_c h B s w hs q⟩
  have HW : Keep (¬ h < s → ∀ w, Calls Tryd.prog 67 #[.agg #[uv h, uv B], uv s] w fun e w' => e = .returned (.int .i64 (chk h B s : Nat)) ∧ w.grownBy w' none) := ⟨fun q w => within_c h B s w hh hB q⟩
  generalize chk h B s = c at *
  by_cases h1 : h < s
  · have h1i : (h : Int) < (s : Int) := by omega
    go_enter Tryd.func50, Tryd.ntmps50
    go_wp2_with fail
    refine (HA.out h1 _).mono ?_
    rintro e w1 ⟨rfl, g⟩
    go_wp2_with fail
    go_ret
    exact ⟨rfl, (World.grownBy_alloc _ _ _).trans g⟩
  · have h1i : ¬ (h : Int) < (s : Int) := by omega
    go_enter Tryd.func50, Tryd.ntmps50
    go_wp2_with fail
    refine (HW.out h1 _).mono ?_
    rintro e w1 ⟨rfl, g⟩
    go_wp2_with fail
    go_ret
    exact ⟨rfl, (World.grownBy_alloc _ _ _).trans g⟩
set_option maxRecDepth 100000 in
theorem high_c (h B : Nat) (w : World) : Calls Tryd.prog 70 #[.agg #[uv h, uv B]] w fun e w' => e = .returned (uv h) ∧ w.grownBy w' none := by
  go_enter Tryd.func70, Tryd.ntmps70
  go_wp2_with fail
  go_ret
  exact ⟨rfl, World.grownBy_alloc _ _ _⟩
end Go.Proofs.YtplcicbpkbamnaaDoor.Lo.Wi

/- window: Mark. -/
namespace Go.Proofs.YtplcicbpkbamnaaDoor.Lo.Wi
open Go Go.RowKit
/-- the window in block b -/
structure WK (w : World) (b : Nat) (h B : Nat) : Prop where
  has : Has w b (wv h B) 95
  h1 : h < 18446744073709551616
  b1 : B < 18446744073709551616
set_option maxRecDepth 100000 in
theorem mark_no (b h B s : Nat) (w : World) (k : WK w b h B) (hs : s < 18446744073709551616) (hc : chk h B s ≠ 0) :
    Calls Tryd.prog 69 #[.pointer (some ⟨b, 0, none⟩), uv s] w fun e w' => e = .returned (.int .i64 (chk h B s : Nat)) ∧ w.grownBy w' none := by
  have c0 := k.has.cellv 0 _ rfl
  have c1 := k.has.cellv 1 _ rfl
  have HC : Keep (∀ w, Calls Tryd.prog 50 #[.agg #[uv h, uv B], uv s] w fun e w' => e = .returned (.int .i64 (chk h B s : Nat)) ∧ w.grownBy w' none) := ⟨fun w => check_c h B s w k.h1 k.b1 hs⟩
  clear k
  generalize chk h B s = c at *
  have hci : ((c : Int) == 0) = false := by simp; omega
  go_enter Tryd.func69, Tryd.ntmps69
  go_wp2_with fail
  refine (HC.out _).mono ?_
  rintro e w1 ⟨rfl, g⟩
  clear HC
  go_wp2_with fail
  go_ret
  exact ⟨rfl, g⟩
set_option maxRecDepth 100000 in
theorem mark_up (b h B s : Nat) (w : World) (k : WK w b h B) (hs : s < 18446744073709551616) (hc : chk h B s = 0) (hu : h < s) :
    Calls Tryd.prog 69 #[.pointer (some ⟨b, 0, none⟩), uv s] w fun e w' => e = .returned (.int .i64 0) ∧ Has w' b (wv s ((B * 2 ^ (s - h)) % 18446744073709551616 ||| 1)) 95 ∧ w.grownBy w' (some b) := by
  have c0 := k.has.cellv 0 _ rfl
  have c1 := k.has.cellv 1 _ rfl
  have HC : Keep (∀ w, Calls Tryd.prog 50 #[.agg #[uv h, uv B], uv s] w fun e w' => e = .returned (.int .i64 (chk h B s : Nat)) ∧ w.grownBy w' none) := ⟨fun w => check_c h B s w k.h1 k.b1 hs⟩
  rw [hc] at HC
  have hd1 : s - h ≤ 64 := by
    unfold chk at hc
    rw [if_pos hu] at hc
    split at hc
    · cases hc
    · omega
  have hw : IntKind.u64.wrap ((s : Int) - (h : Int)) = ((s - h : Nat) : Int) := by rw [wu _ (by omega) (by omega)]; omega
  have HK := Keep.mk k.has
  have hh := k.h1
  clear k hc
  obtain ⟨d, hd⟩ : ∃ d, s - h = d := ⟨_, rfl⟩
  rw [hd] at hw hd1
  have HD := Keep.mk hd
  have hsi : (h : Int) < (s : Int) := by omega
  clear hd
  go_enter Tryd.func69, Tryd.ntmps69
  go_wp2_with fail
  refine (HC.out _).mono ?_
  rintro e w1 ⟨rfl, g⟩
  have HG := Keep.mk g
  replace HK := Keep.mk (HK.out.kept g (by simp))
  clear HC c0 c1 g
  have c0 := HK.out.cellv 0 _ rfl
  have c1 := HK.out.cellv 1 _ rfl
  have z1 := HK.out.frozen 1
  have z0 := HK.out.frozen 0
  go_wp2_with fail
  have hb1 : IntKind.u64.wrap ((B : Int) * 2 ^ d) = ((B * 2 ^ d % 18446744073709551616 : Nat) : Int) := by
    rw [show IntKind.u64.wrap ((B : Int) * 2 ^ d) = ((B : Int) * 2 ^ d) % 18446744073709551616 by simp [IntKind.wrap, IntKind.bits, IntKind.signed]]
    simp
  have HB1 : Keep (B * 2 ^ d % 18446744073709551616 < 18446744073709551616) := ⟨Nat.mod_lt _ (by omega)⟩
  have HBe : Keep (B * 2 ^ (s - h) % 18446744073709551616 = B * 2 ^ d % 18446744073709551616) := ⟨by rw [HD.out]⟩
  generalize B * 2 ^ d % 18446744073709551616 = B1 at *
  go_region
  clear hb1
  have H2 : Keep (Has (w1.setCell { block := b, off := 1 } (Value.int IntKind.u64 B1)).drew b (wv h B1) 95 ∧ w.grownBy (w1.setCell { block := b, off := 1 } (Value.int IntKind.u64 B1)).drew (some b)) := ⟨HK.out.setCell 1 (uv B1), ((HG.out.but _).trans (gr_set w1 b 1 (uv B1))).trans (gr_drew _ _)⟩
  clear HK HG c0 c1 z1 z0 hw HD hd1
  generalize (w1.setCell { block := b, off := 1 } (Value.int IntKind.u64 B1)).drew = w2 at *
  have z0 := H2.out.1.frozen 0
  have c0 := H2.out.1.cellv 0 _ rfl
  have H3 : Keep (Has (w2.setCell { block := b, off := 0 } (uv s)) b (wv s B1) 95 ∧ w.grownBy (w2.setCell { block := b, off := 0 } (uv s)) (some b)) := ⟨H2.out.1.setCell 0 (uv s), H2.out.2.trans (gr_set w2 b 0 (uv s))⟩
  clear H2
  have hws : IntKind.u64.wrap ((s : Int) - (s : Int)) = 0 := by rw [Int.sub_self]; rfl
  have hor : bits .or .u64 (B1 : Int) 1 = ((B1 ||| 1 : Nat) : Int) := u64_or_nat B1 1 HB1.out (by omega)
  go_wp2_with fail
  generalize w2.setCell { block := b, off := 0 } (uv s) = w3 at *
  clear z0 c0
  have c0 := H3.out.1.cellv 0 _ rfl
  have c1 := H3.out.1.cellv 1 _ rfl
  have z1 := H3.out.1.frozen 1
  have H4 : Keep (Has (w3.setCell { block := b, off := 1 } (Value.int IntKind.u64 (B1 ||| 1 : Nat))).drew b (wv s (B1 ||| 1)) 95 ∧ w.grownBy (w3.setCell { block := b, off := 1 } (Value.int IntKind.u64 (B1 ||| 1 : Nat))).drew (some b)) := ⟨H3.out.1.setCell 1 (uv (B1 ||| 1)), (H3.out.2.trans (gr_set w3 b 1 (uv (B1 ||| 1)))).trans (gr_drew _ _)⟩
  go_region
  go_wp2_with fail
  go_ret
  exact ⟨rfl, by rw [HBe.out]; exact H4.out.1, H4.out.2⟩
set_option maxRecDepth 100000 in
theorem mark_in (b h B s : Nat) (w : World) (k : WK w b h B) (hs : s < 18446744073709551616) (hc : chk h B s = 0) (hu : ¬ h < s) :
    Calls Tryd.prog 69 #[.pointer (some ⟨b, 0, none⟩), uv s] w fun e w' => e = .returned (.int .i64 0) ∧ Has w' b (wv h (B ||| 2 ^ (h - s))) 95 ∧ w.grownBy w' (some b) := by
  have c0 := k.has.cellv 0 _ rfl
  have c1 := k.has.cellv 1 _ rfl
  have HC : Keep (∀ w, Calls Tryd.prog 50 #[.agg #[uv h, uv B], uv s] w fun e w' => e = .returned (.int .i64 (chk h B s : Nat)) ∧ w.grownBy w' none) := ⟨fun w => check_c h B s w k.h1 k.b1 hs⟩
  rw [hc] at HC
  have hd1 : h - s < 64 := by
    unfold chk at hc
    rw [if_neg hu] at hc
    split at hc
    · cases hc
    · omega
  have hw : IntKind.u64.wrap ((h : Int) - (s : Int)) = ((h - s : Nat) : Int) := by have := k.h1; rw [wu _ (by omega) (by omega)]; omega
  have HK := Keep.mk k.has
  have hh := k.h1
  have hB := k.b1
  clear k hc
  obtain ⟨d, hd⟩ : ∃ d, h - s = d := ⟨_, rfl⟩
  rw [hd] at hw hd1
  have HD := Keep.mk hd
  have hsi : ¬ (h : Int) < (s : Int) := by omega
  clear hd
  have hp : 2 ^ d < 18446744073709551616 := by
    have := Nat.pow_le_pow_right (show 0 < 2 by omega) (show d ≤ 63 by omega)
    omega
  have hb1 : IntKind.u64.wrap (2 ^ d) = ((2 ^ d : Nat) : Int) := by
    have e : ((2 : Int) ^ d) = ((2 ^ d : Nat) : Int) := by simp
    rw [e]
    generalize 2 ^ d = P at *
    exact wu _ (by omega) (by omega)
  have hor : bits .or .u64 (B : Int) ((2 ^ d : Nat) : Int) = ((B ||| 2 ^ d : Nat) : Int) := u64_or_nat B _ hB hp
  have HBe : Keep (B ||| 2 ^ (h - s) = B ||| 2 ^ d) := ⟨by rw [HD.out]⟩
  generalize B ||| 2 ^ d = B2 at *
  generalize 2 ^ d = P at hb1 hor
  clear hp
  go_enter Tryd.func69, Tryd.ntmps69
  go_wp2_with fail
  refine (HC.out _).mono ?_
  rintro e w1 ⟨rfl, g⟩
  have HG := Keep.mk g
  replace HK := Keep.mk (HK.out.kept g (by simp))
  clear HC c0 c1 g
  have c0 := HK.out.cellv 0 _ rfl
  have c1 := HK.out.cellv 1 _ rfl
  have z1 := HK.out.frozen 1
  have H4 : Keep (Has (w1.setCell { block := b, off := 1 } (uv B2)).drew b (wv h B2) 95 ∧ w.grownBy (w1.setCell { block := b, off := 1 } (uv B2)).drew (some b)) := ⟨HK.out.setCell 1 (uv B2), ((HG.out.but _).trans (gr_set w1 b 1 (uv B2))).trans (gr_drew _ _)⟩
  go_wp2_with fail
  go_region
  go_wp2_with fail
  go_ret
  exact ⟨rfl, by rw [HBe.out]; exact H4.out.1, H4.out.2⟩
set_option maxRecDepth 100000 in
theorem mkB_lt {h B s : Nat} (hB : B < 18446744073709551616) : mkB h B s < 18446744073709551616 := by
  unfold mkB
  split
  · rename_i q
    split
    · have e : (18446744073709551616 : Nat) = 2 ^ 64 := by rfl
      rw [e]
      exact Nat.or_lt_two_pow (Nat.mod_lt _ (by omega)) (by omega)
    · rename_i hu
      have hd1 : h - s < 64 := by
        unfold chk at q
        rw [if_neg hu] at q
        split at q
        · cases q
        · omega
      have e : (18446744073709551616 : Nat) = 2 ^ 64 := by rfl
      rw [e] at hB ⊢
      exact Nat.or_lt_two_pow hB (Nat.pow_lt_pow_right (by omega) hd1)
  · exact hB
set_option maxRecDepth 100000 in
theorem mark_c (b h B s : Nat) (w : World) (k : WK w b h B) (hs : s < 18446744073709551616) :
    Calls Tryd.prog 69 #[.pointer (some ⟨b, 0, none⟩), uv s] w fun e w' => e = .returned (.int .i64 (chk h B s : Nat)) ∧ WK w' b (mkH h B s) (mkB h B s) ∧ w.grownBy w' (some b) := by
  by_cases hc : chk h B s = 0
  · by_cases hu : h < s
    · refine (mark_up b h B s w k hs hc hu).mono ?_
      rintro e w1 ⟨rfl, hh, g⟩
      refine ⟨by rw [hc]; rfl, ⟨?_, mkH_lt k.h1 hs, mkB_lt k.b1⟩, g⟩
      unfold mkH mkB
      rw [if_pos hc, if_pos hc, if_pos hu, show max h s = s by omega]
      exact hh
    · refine (mark_in b h B s w k hs hc hu).mono ?_
      rintro e w1 ⟨rfl, hh, g⟩
      refine ⟨by rw [hc]; rfl, ⟨?_, mkH_lt k.h1 hs, mkB_lt k.b1⟩, g⟩
      unfold mkH mkB
      rw [if_pos hc, if_pos hc, if_neg hu, show max h s = h by omega]
      exact hh
  · refine (mark_no b h B s w k hs hc).mono ?_
    rintro e w1 ⟨rfl, g⟩
    refine ⟨rfl, ?_, g.but _⟩
    rw [mkH_no hc, mkB_no hc]
    exact ⟨k.has.kept g (by simp), k.h1, k.b1⟩
end Go.Proofs.YtplcicbpkbamnaaDoor.Lo.Wi

