import Derived.Test.YtkdjcknikhgfkaaGreatDoorFD1
/- frame.Encode -/
namespace Go.Proofs.YtkdjcknikhgfkaaGreatDoor.Pk
open Go Go.RowKit

set_option maxHeartbeats 8000000 in
set_option maxRecDepth 100000 in
theorem encode_no (d : Dg) (w : World) (h : fieldsL d.kind = []) :
    Calls Tryz.prog 48 #[dv d] w fun e w' => e = .returned (.tuple #[.string nob, .int .i64 71]) ∧ w.grownBy w' none := by
  have HF := fields_c d.kind
  rw [h] at HF
  obtain ⟨kd, no, ep, co, na, se, pl, sa, sq, th, tu, fi, bo, da, ta⟩ := d
  dsimp only [dv] at HF ⊢
  obtain ⟨w0, hw0⟩ : ∃ q, w.alloc (.cells #[.int .i64 kd, .string no, .int .u64 ep, .string co, .string na, .int .u64 se, .int .i64 pl, .string sa, .int .u64 sq, .int .i64 th, .int .i64 tu, .bool fi, .bool bo, .string da, .string ta] 50) = q := ⟨_, rfl⟩
  have h0 : Has w0 w.heap.size (Dg.cells ⟨kd, no, ep, co, na, se, pl, sa, sq, th, tu, fi, bo, da, ta⟩) 50 := by rw [← hw0]; exact Has.newA w _ 50
  have g0 : w.grownBy w0 none := by rw [← hw0]; exact World.grownBy_alloc _ _ _
  have c0 : w0.cell? ⟨w.heap.size, 0, none⟩ = some (.int .i64 kd) := h0.cellv 0 _ rfl
  have HG := Keep.mk g0
  have HFF := Keep.mk HF
  clear h h0 g0 HF
  go_enter Tryz.func48, Tryz.ntmps48
  go_wp2_with fail
  refine (HFF.out w0).mono ?_
  rintro e w1 ⟨a, c, rfl, _, g1⟩
  have HG1 := Keep.mk (HG.out.trans g1)
  clear g1
  dsimp only [List.length_nil]
  go_wp2
  go_ret2
  exact ⟨rfl, HG1.out⟩
end Go.Proofs.YtkdjcknikhgfkaaGreatDoor.Pk
