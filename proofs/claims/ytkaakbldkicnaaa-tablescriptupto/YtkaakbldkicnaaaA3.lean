/- table: the map of entries. -/
import Derived.Test.YtkaakbldkicnaaaA2
import Derived.Maps.OwnSet
import Derived.StringKeys
namespace Go.Proofs.Ytkaakbldkicnaaa
open Go Go.RowKit Go.Maps

/-- how a pointer reads: as its block's number -/
def pe : Value → Option (DataW Unit × List MemPlace)
  | .pointer none => some (.nil, [])
  | .pointer (some ⟨b, 0, none⟩) => some (.lit (.int .i64 (b : Int)), [])
  | _ => none
theorem pe_pt (b : Nat) : pe (pt b) = some (.lit (.int .i64 (b : Int)), []) := rfl
theorem pe_np : pe np = some (.nil, []) := rfl
theorem pe_inv {v : Value} {b : Nat} {ps : List MemPlace} (h : pe v = some (.lit (.int .i64 (b : Int)), ps)) : v = pt b := by
  unfold pe at h
  split at h
  · simp at h
  · simp at h
    rw [Int.ofNat_inj.1 h.1]
  · cases h
theorem pe_inv0 {v : Value} {ps : List MemPlace} (h : pe v = some (.nil, ps)) : v = np := by
  unfold pe at h
  split at h
  · rfl
  · simp at h
  · cases h
abbrev sl (s : ByteArray) : List UInt8 := s.data.toList
theorem sl_inj {a b : ByteArray} (h : sl a = sl b) : a = b := by
  cases a; cases b; simp only [ByteArray.mk.injEq]; exact Array.toList_inj.1 h
theorem ownsMap_tight {k : TypeId} {R : Value → Option (DataW Unit × List MemPlace)} {w : World} {b n : Nat} {D : DataW Unit} (h : w.ownsMap Try.prog k R b n D) : w.ownsMap Try.prog k R b (Maps.size D) D := by
  obtain ⟨es, clock, h1, h2, h3, rfl⟩ := h
  exact ⟨es, clock, h1, h2, by simp [Maps.size, length_sorted], rfl⟩

/-- the map: keys and their entries' blocks -/
structure MapIs (w : World) (mb : Nat) (M : List (ByteArray × Nat)) : Prop where
  o : ∃ D : DataW Unit, w.ownsMap Try.prog 9 pe mb M.length D ∧ Maps.size D = M.length ∧ (∀ k, Maps.has D (.string (sl k)) = (Tb.look M k).isSome) ∧ ∀ k z, D.atKey (.string (sl k)) z = match Tb.look M k with | some b => .lit (.int .i64 ((b : Nat) : Int)) | none => z
theorem law9 : Keyed Try.prog 9 := string_keyed Try.underlying9
theorem zero65 (w : World) : (zeroValue 65).run Try.prog w = .ok np w := by
  simp [zeroValue]; rfl
theorem key9 (k : ByteArray) (hk : k.size ≤ 4611686018427387904) : keyOf Try.prog 9 (.string k) = some (.string (sl k)) := WideMaps.keyOf_string_mk Try.underlying9 (by unfold maxLen; omega)
def pOf : Option Nat → Value
  | none => np
  | some b => pt b
theorem MapIs.look {w : World} {mb : Nat} {M : List (ByteArray × Nat)} (h : MapIs w mb M) (k : ByteArray) (hk : k.size ≤ 4611686018427387904) :
    (Instr.lookup 64 (.map (some mb)) (.string k) true).run Try.prog w = .ok (.tuple #[pOf (Tb.look M k), .bool (Tb.look M k).isSome]) w := by
  obtain ⟨D, o, _, h2, h3⟩ := h.o
  obtain ⟨v, ps, r1, r2⟩ := o.look_ok law9 Try.underlying64 (zero65 w) pe_np (key9 k hk)
  rw [r1, h2]
  rw [h3] at r2
  congr 4
  cases hl : Tb.look M k with
  | none => rw [hl] at r2; exact pe_inv0 r2
  | some b => rw [hl] at r2; exact pe_inv r2
theorem MapIs.len {w : World} {mb : Nat} {M : List (ByteArray × Nat)} (h : MapIs w mb M) (ty : TypeId) : (Builtin.len_ #[64] ty #[.map (some mb)]).run Try.prog w = .ok (.int .i64 (M.length : Nat)) w := by
  obtain ⟨D, o, h1, _, _⟩ := h.o
  rw [o.len Try.underlying64, h1]
theorem key_ne {a b : ByteArray} (h : a ≠ b) : Lit.string (sl a) ≠ Lit.string (sl b) := fun e => h (sl_inj (by injection e))
theorem MapIs.new (w : World) : MapIs (w.alloc (.map #[] 0)) w.heap.size [] := by
  refine ⟨_, World.ownsMap_made w _ _ _, rfl, fun k => rfl, fun k z => ?_⟩
  simp [Tb.look]; exact Maps.atKey_of_not_has rfl _
theorem MapIs.put {w : World} {mb : Nat} {M : List (ByteArray × Nat)} (h : MapIs w mb M) (k : ByteArray) (hk : k.size ≤ 4611686018427387904) (b : Nat) (hn : Tb.look M k = none) (hl : M.length ≤ 4096) :
    ∃ w', (Instr.mapUpdate 64 (.map (some mb)) (.string k) (pt b)).run Try.prog w = .ok () w' ∧ MapIs w' mb (M ++ [(k, b)]) ∧ w.grownBy w' (some mb) ∧ w'.heap.size = w.heap.size := by
  obtain ⟨D, o, h1, h2, h3⟩ := h.o
  obtain ⟨w', r1, r2, r3⟩ := o.store law9 Try.underlying64 (by unfold maxLen; omega) (key9 k hk) (pe_pt b)
  have t := o.tidy law9
  have hh : Maps.has D (.string (sl k)) = false := by rw [h2, hn]; rfl
  have hs : Maps.size (D.put (.string (sl k)) (.lit (.int .i64 (b : Int)))) = M.length + 1 := by
    rw [Maps.size_put t, hh, h1]; rfl
  refine ⟨w', r1, ⟨_, (ownsMap_tight r2).mono (by rw [hs, List.length_append]; exact Nat.le_refl _), by rw [hs, List.length_append]; rfl, fun k' => ?_, fun k' z => ?_⟩, r3.grown, ?_⟩
  · by_cases e : k' = k
    · subst e
      rw [Maps.has_put_same (k := .string (sl k')) t.isMap trivial, Tb.look_app (Tb.look_none.1 hn)]; simp [Tb.look]
    · rw [Maps.has_put_other (key_ne e), h2]
      cases hq : Tb.look M k' with
      | none => rw [Tb.look_app (Tb.look_none.1 hq)]; simp [Tb.look, Ne.symm e]
      | some x => rw [Tb.look_app_of hq]
  · by_cases e : k' = k
    · subst e
      rw [Maps.atKey_put_same (k := .string (sl k')) t.isMap trivial, Tb.look_app (Tb.look_none.1 hn)]; simp [Tb.look]
    · rw [Maps.atKey_put_other (key_ne e), h3]
      cases hq : Tb.look M k' with
      | none => rw [Tb.look_app (Tb.look_none.1 hq)]; simp [Tb.look, Ne.symm e]
      | some x => rw [Tb.look_app_of hq]
  · obtain ⟨_, _, _, _, _, rfl⟩ := r3
    simp [ChangeMaps.setBlock]
theorem look_rm {V : Type} (M : List (ByteArray × V)) (k k' : ByteArray) : Tb.look (Tb.rm M k) k' = if k' = k then none else Tb.look M k' := by
  by_cases e : k' = k
  · subst e
    rw [if_pos rfl]; exact Tb.look_none.2 Tb.rm_keys
  · rw [if_neg e]
    induction M with
    | nil => rfl
    | cons p r ih =>
      unfold Tb.rm at ih ⊢
      rw [List.filter_cons]
      by_cases h : p.1 = k
      · simp only [h, ne_eq, not_true_eq_false, decide_false, Bool.false_eq_true, if_false]
        rw [ih]
        simp only [Tb.look, h, Ne.symm e, if_false]
      · simp only [ne_eq, h, not_false_eq_true, decide_true, if_true, Tb.look]
        rw [ih]
theorem MapIs.drop {w : World} {mb : Nat} {M : List (ByteArray × Nat)} (h : MapIs w mb M) (k : ByteArray) (hk : k.size ≤ 4611686018427387904) (ty : TypeId) (hd : (Tb.keys M).Nodup) (b : Nat) (hb : Tb.look M k = some b) :
    ∃ w', (Builtin.delete_ #[64, 9] ty #[.map (some mb), .string k]).run Try.prog w = .ok (.tuple #[]) w' ∧ MapIs w' mb (Tb.rm M k) ∧ w.grownBy w' (some mb) ∧ w'.heap.size = w.heap.size := by
  obtain ⟨D, o, h1, h2, h3⟩ := h.o
  obtain ⟨w', r1, r2, r3⟩ := o.drop law9 Try.underlying64 (key9 k hk) ty
  have t := o.tidy law9
  have hh : Maps.has D (.string (sl k)) = true := by rw [h2, hb]; rfl
  have hs := Maps.size_del (k := .string (sl k)) t
  rw [hh, h1, ← Tb.rm_len hd hb] at hs
  have hs : Maps.size (D.del (.string (sl k))) = (Tb.rm M k).length := by simpa using hs
  refine ⟨w', r1, ⟨_, (ownsMap_tight r2).mono (by rw [hs]; exact Nat.le_refl _), hs, fun k' => ?_, fun k' z => ?_⟩, r3.grown, ?_⟩
  · rw [look_rm]
    by_cases e : k' = k
    · subst e
      rw [Maps.has_del_same, if_pos rfl]; rfl
    · rw [Maps.has_del_other (key_ne e), h2, if_neg e]
  · rw [look_rm]
    by_cases e : k' = k
    · subst e
      rw [Maps.atKey_del_same, if_pos rfl]
    · rw [Maps.atKey_del_other (key_ne e), h3, if_neg e]
  · obtain ⟨_, _, _, _, _, rfl⟩ := r3
    simp [ChangeMaps.setBlock]
theorem MapIs.fr {S : Nat → Prop} {w w' : World} {mb : Nat} {M : List (ByteArray × Nat)} (h : MapIs w mb M) (f : Fr S w w') (hs : ¬ S mb) : MapIs w' mb M := by
  obtain ⟨D, o, h1⟩ := h.o
  have := o.lt
  obtain ⟨es, clock, q1, q2, q3, rfl⟩ := o
  exact ⟨_, ⟨es, clock, by rw [f.block mb this hs]; exact q1, q2, q3, rfl⟩, h1⟩
theorem MapIs.lt {w : World} {mb : Nat} {M : List (ByteArray × Nat)} (h : MapIs w mb M) : mb < w.heap.size := by
  obtain ⟨D, o, h1⟩ := h.o
  exact o.lt
/-- the order of the keys makes no difference -/
theorem MapIs.same {w : World} {mb : Nat} {M M' : List (ByteArray × Nat)} (h : MapIs w mb M) (hl : M'.length = M.length) (hk : ∀ k, Tb.look M' k = Tb.look M k) : MapIs w mb M' := by
  obtain ⟨D, o, h1, h2, h3⟩ := h.o
  exact ⟨D, by rw [hl]; exact o, by rw [hl]; exact h1, fun k => by rw [hk]; exact h2 k, fun k z => by rw [hk]; exact h3 k z⟩
end Go.Proofs.Ytkaakbldkicnaaa
