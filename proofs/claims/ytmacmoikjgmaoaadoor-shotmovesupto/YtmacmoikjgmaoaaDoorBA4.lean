/- strings.Builder's writers, over things that lie apart. -/
import Derived.Test.YtmacmoikjgmaoaaDoorBA1
import Derived.Maps.AppendAt
import Derived.Laws.AppendOwnNone
import Derived.Deep.DeepAppendRoom
namespace Go.Proofs.YtmacmoikjgmaoaaDoor.Bo
open Go Go.RowKit

abbrev u8 (c : Int) : Value := .int .u8 c
abbrev pt (b : Nat) : Value := .pointer (some ⟨b, 0, none⟩)
set_option maxRecDepth 100000 in
theorem info5 : ∃ i, Tryd.prog.info? 5 = some i ∧ i.size = 1 ∧ i.bytes = 1 ∧ i.zero = some (.int .u8 0) := by
  have h : (Tryd.prog.info? 5).map (fun i => (i.size, i.bytes, i.zero)) = some (1, 1, some (.int .u8 0)) := by kernel_rfl
  cases hq : Tryd.prog.info? 5 with
  | none => simp [hq] at h
  | some i =>
    simp only [hq, Option.map_some, Option.some.injEq, Prod.mk.injEq] at h
    exact ⟨i, rfl, h.1, h.2.1, h.2.2⟩
set_option maxRecDepth 100000 in
theorem underT54 : Tryd.prog.underlying 61 = some (.slice 5) := by kernel_rfl
/-- a byte more -/
theorem Sep.byte {w0 W : World} {l : List As} {v : Value} {xs : List Value} (c : Value) (hc : c.oneCell' = true) (h : Sep w0 W (rowV 5 1 v xs.length xs :: l)) (hn : xs.length ≤ 1000000) :
    ∃ g k W', (Builtin.append_ #[61, 61] 61 #[v, .slice (some ⟨W.heap.size, 0, none⟩) 1 1]).run Tryd.prog (W.alloc (.cells #[c] 5)) = .ok (.slice (some ⟨g, 0, none⟩) (xs.length + 1) k) W' ∧ Sep w0 W' (rowV 5 1 (.slice (some ⟨g, 0, none⟩) (xs.length + 1) k) (xs ++ [c]).length (xs ++ [c]) :: l) := by
  obtain ⟨i, i1, i2, i3, i4⟩ := info5
  obtain ⟨g, k, W', r1, r2⟩ := Sep.app underT54 i1 i4 i2 i3 rfl (by decide) h [c] rfl (fun u hu => by rw [List.mem_singleton] at hu; subst hu; exact hc) (by omega) (by decide)
  refine ⟨g, k, W', r1, ?_⟩
  rw [List.length_append]
  exact r2
end Go.Proofs.YtmacmoikjgmaoaaDoor.Bo
