/- WindowOnce's walk. -/
import Derived.Test.YtollbodeafdhkaaA4
import Derived.Maps.OwnOps
import Derived.Maps.Views
import Derived.Maps.RangeWalk
namespace Go.Proofs.Ytollbodeafdhkaa
open Go Go.RowKit Go.Maps
theorem law24 : Keyed Try.prog 24 := int_keyed Try.underlying24
/-- the map of what was taken -/
structure TM (D : DataW Unit) (M : List Nat) : Prop where
  isMap : Maps.IsMap D
  at_ : ∀ x : Nat, D.atKey (.int .u64 (x : Int)) (.lit (.int .i64 0)) = .lit (.int .i64 (if x ∈ M then 1 else 0))
  has : ∀ x : Int, Maps.has D (.int .u64 x) = true → ∃ m ∈ M, x = ((m : Nat) : Int)
theorem TM.nil : TM (.map []) [] := ⟨Maps.isMap_empty, fun x => by rw [Maps.atKey_of_not_has rfl]; simp, fun x h => by simp [Maps.has] at h⟩
theorem TM.put {D : DataW Unit} {M : List Nat} (t : TM D M) (s : Nat) : TM (D.put (.int .u64 (s : Int)) (.lit (.int .i64 1))) (s :: M) := by
  refine ⟨t.isMap.put _ _, fun x => ?_, fun x h => ?_⟩
  · by_cases e : x = s
    · subst e
      rw [Maps.atKey_put_same (k := .int .u64 (x : Int)) t.isMap trivial]; simp
    · rw [Maps.atKey_put_other (by simpa using (show ((x : Nat) : Int) ≠ (s : Int) by omega)), t.at_]
      simp [e]
  · by_cases e : x = (s : Int)
    · exact ⟨s, by simp, e⟩
    · rw [Maps.has_put_other (by simpa using e)] at h
      obtain ⟨m, hm, e2⟩ := t.has x h
      exact ⟨m, by simp [hm], e2⟩
/-- where WindowOnce stands -/
structure ON (w0 w : World) (b mb h B : Nat) (M : List Nat) (n : Nat) : Prop where
  m : MW w0 w b h B M
  lo : w0.heap.size ≤ mb
  ne : b ≠ mb
  o : ∃ D : DataW Unit, w.ownsMap Try.prog 24 (plainElem Try.prog 3) mb n D ∧ TM D M
theorem ON.kept {w0 w w' : World} {b mb h B : Nat} {M : List Nat} {n : Nat} (q : ON w0 w b mb h B M n) (g : w.grownBy w' none) : ON w0 w' b mb h B M n := by
  obtain ⟨D, o, t⟩ := q.o
  exact ⟨q.m.kept g, q.lo, q.ne, D, o.kept g (by simp), t⟩
theorem zero3 (w : World) : (zeroValue 3).run Try.prog w = .ok (.int .i64 0) w := by
  simp [zeroValue]; rfl
theorem key24 (s : Nat) (hs : s < 18446744073709551616) : keyOf Try.prog 24 (uv s) = some (.int .u64 (s : Int)) := keyOf_int_mk Try.underlying24 (by simp [Lit.wf, IntKind.min, IntKind.max, IntKind.bits, IntKind.signed]; omega)
theorem ON.look {w0 w : World} {b mb h B : Nat} {M : List Nat} {n : Nat} (q : ON w0 w b mb h B M n) (s : Nat) (hs : s < 18446744073709551616) (c : Int) (hc : (if s ∈ M then (1 : Int) else 0) = c) :
    (Instr.lookup 27 (.map (some mb)) (uv s) false).run Try.prog w = .ok (.int .i64 c) w := by
  obtain ⟨D, o, t⟩ := q.o
  obtain ⟨c', h1, h2, h3⟩ := o.lookup_int law24 Try.underlying27 Try.underlying3 (zero3 w) (key24 s hs)
  rw [t.at_] at h2
  have e : c = c' := by
    rw [← hc]
    simpa using h2
  rw [e]; exact h1
theorem ON.take {w0 w : World} {b mb h B : Nat} {M : List Nat} {n : Nat} (q : ON w0 w b mb h B M n) (s : Nat) (hs : s < 18446744073709551616) (hn : n < maxLen) :
    ∃ w', (Instr.mapUpdate 27 (.map (some mb)) (uv s) (.int .i64 1)).run Try.prog w = .ok () w' ∧ WK w' b h B ∧ w0.grownBy w' none ∧ (∃ D : DataW Unit, w'.ownsMap Try.prog 24 (plainElem Try.prog 3) mb (n + 1) D ∧ TM D (s :: M)) := by
  obtain ⟨D, o, t⟩ := q.o
  obtain ⟨w', h1, h2, h3⟩ := o.update (t := 27) (e := 3) law24 Try.underlying27 hn (key24 s hs) (plainElem_int (a := 1) Try.underlying3 (by decide))
  exact ⟨w', h1, q.m.k.kept h3 (by simpa using q.ne), gr_new q.m.g h3 q.lo, _, h2, t.put s⟩
end Go.Proofs.Ytollbodeafdhkaa
