/- What the listed variable gives the walks. -/
import Derived.Test.YthhpbonacefmaaaDoorRows
import Derived.Test.YthhpbonacefmaaaDoorChecked
import Derived.Test.YthhpbonacefmaaaDoorA2
import Derived.ProofKit
import Derived.LaidMore
import Derived.OpenShut
import Derived.Stop.Joined
import Derived.Lib.LaidU8
namespace Go.Proofs.YthhpbonacefmaaaDoor
open Go Go.ChangeShapes Go.WideShapes Go.ChangeAt Go.RowKit

theorem own : ownKnob Tryd.prog.godebug = none := by kernel_rfl
theorem gK : Tryd.prog.globalNamed "joust/name.spans" = some 0 := by kernel_rfl
theorem tK : (Tryd.prog.globals[0]?).map (·.type) = some 57 := by kernel_rfl
theorem under21 : Tryd.prog.underlying 21 = some (.int .i32) := by kernel_rfl
theorem under43 : ∃ fs, Tryd.prog.underlying 43 = some (.struct fs) ∧ (∀ (i : Nat) (f : Field), fs[i]? = some f → Tryd.prog.underlying f.type = some (.int .i32) ∧ f.offset = i ∧ Tryd.prog.cellsOf f.type = 1) ∧ Tryd.prog.cellsOf 43 = fs.size := by
  refine ⟨_, Tryd.underlying43, ?_, by kernel_rfl⟩
  intro i f h
  match i, h with
  | 0, h => simp at h; subst h; exact ⟨by kernel_rfl, rfl, by kernel_rfl⟩
  | 1, h => simp at h; subst h; exact ⟨by kernel_rfl, rfl, by kernel_rfl⟩
  | 2, h => simp at h; subst h; exact ⟨by kernel_rfl, rfl, by kernel_rfl⟩
  | i + 3, h => simp at h
theorem cells43 : Tryd.prog.cellsOf 43 = 3 := by kernel_rfl
theorem sp_datum : (Rows.laid_joust_name_spans : DataW Unit) = .agg (spn.map fun p => .agg ([p.1, p.2.1, p.2.2].map fun z => .lit (.int .i32 z))) := by kernel_rfl
theorem below_of {w w' : World} (h : w.grownBy w' none) : Below w.heap.size w w' := ⟨h.os, h.tape, h.output, h.size, fun k hk => h.block k hk (by simp)⟩
theorem kc_of_laid {W : World} (h : laidMetH Tryd.prog [("joust/name.spans", Rows.laid_joust_name_spans)] W) : Kc W := by
  rw [MakeChecks.laidMetH_plain _ _ _ (by kernel_rfl)] at h
  obtain ⟨ps, ⟨g0, t0, cs0, f0, p0, q0, hg0, ht0, hv0, hd0, _, _⟩, _, _⟩ := h
  obtain rfl := Option.some.inj (gK.symm.trans hg0)
  obtain rfl := Option.some.inj (tK.symm.trans ht0)
  rw [sp_datum] at hd0
  have hcell : ∀ j, W.cell? ⟨0, j, none⟩ = cs0.toList[j]? := fun j => by
    rw [World.var?_cell hg0 hv0 j, Array.getElem?_toList]
  obtain ⟨fs, u43, hf, hc43⟩ := under43
  have key : ∀ i, i < 10 → (cs0.toList.drop (i * 3)).take 3 = [spn.getD i (0, 0, 0)].flatMap fun p => [rv p.1, rv p.2.1, rv p.2.2] := by
    intro i hi
    obtain ⟨fuel', d, q, hdi, he⟩ := Lib.array_elem under57 hd0 i hi
    rw [List.getElem?_map, List.getElem?_eq_getElem (show i < spn.length from hi)] at hdi
    simp only [Option.map_some, Option.some.injEq] at hdi
    subst hdi
    rw [cells43] at he
    have := Lib.ints_of_struct u43 hf hc43 he
    rw [this]
    simp [List.getD, show i < spn.length from hi]
  have hall : ∀ n, n ≤ 10 → cs0.toList.take (n * 3) = (spn.take n).flatMap fun p => [rv p.1, rv p.2.1, rv p.2.2] := by
    intro n
    induction n with
    | zero => intro _; simp
    | succ n ih =>
      intro hn
      have hl : n < spn.length := show n < 10 by omega
      rw [Nat.succ_mul, List.take_add, ih (by omega), key n (by omega), List.take_add_one, List.flatMap_append, List.getElem?_eq_getElem hl]
      simp [List.getD, hl]
  have h30 : cs0.toList.take 30 = spc := hall 10 (Nat.le_refl _)
  intro j v hv
  have hj : j < 30 := (List.getElem?_eq_some_iff.1 hv).1
  rw [Nat.zero_add, hcell, ← hv, ← h30, List.getElem?_take, if_pos hj]
theorem in_of_wf {a : Int} (h : (Lit.int .i64 a).wf = true) : -9223372036854775808 ≤ a ∧ a ≤ 9223372036854775807 := by
  have m1 : IntKind.i64.min = -9223372036854775808 := by decide
  have m2 : IntKind.i64.max = 9223372036854775807 := by decide
  simp [Lit.wf, m1, m2] at h
  exact h
theorem door1 (os : Os) (args : Array Value) : laidMetH Tryd.prog [("joust/name.spans", Rows.laid_joust_name_spans)] ((World.doorLaid Tryd.prog 400 os).forCall (fun _ _ => 0) ⟨#[], args, []⟩).memory :=
  laidMetH_of_parts3 (fuel := 8) (laidMet_of_run' 8 (by kernel_rfl) (by kernel_rfl)) (by kernel_rfl) (by kernel_rfl)
end Go.Proofs.YthhpbonacefmaaaDoor
