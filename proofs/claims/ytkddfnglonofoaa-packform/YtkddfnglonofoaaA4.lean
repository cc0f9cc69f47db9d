/- pack: the Writer's number. -/
import Derived.Test.YtkddfnglonofoaaA3
namespace Go.Proofs.Ytkddfnglonofoaa
open Go Go.RowKit

theorem row_nil (w : World) : Row w (.slice none 0 0) [] := World.ownsRow_nil _ _ _ _
theorem wfail_c (wb : Nat) (v : Value) (st : WS) (w : World) (h : WAt w wb v st) :
    Calls Try.prog 39 #[.pointer (some ⟨wb, 0, none⟩)] w fun e w' => e = .returned (.tuple #[]) ∧ ∃ v', WDid w w' wb v none v' := by
  have HH : Keep (WAt w wb v st) := ⟨h⟩
  have h0 : w.cell? ⟨wb, 0, none⟩ = some v := h.h.cellv 0 _ rfl
  have h1 : w.cell? ⟨wb, 1, none⟩ = some (.int .i64 (if st = none then 51 else 0)) := h.h.cellv 1 _ rfl
  have f0 := h.h.frozen 0
  have f1 := h.h.frozen 1
  clear h
  generalize (if st = none then (51 : Int) else 0) = e1 at *
  go_enter Try.func39, Try.ntmps39
  go_wp2
  go_end0
  refine ⟨rfl, .slice none 0 0, ⟨(HH.out.h.setCell 0 _).setCell 1 _, row_nil _, by simp [Value.ownBlock]⟩, ?_, fun k e => by cases e⟩
  exact ((Fr.ofSome (gr_set _ _ _ _) (.inl rfl))).trans (Fr.ofSome (gr_set _ _ _ _) (.inl rfl))
end Go.Proofs.Ytkddfnglonofoaa
