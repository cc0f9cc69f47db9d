/- BoardBoxes: the row. -/
import Derived.Test.YtglnmmifedlgmaaK0
import Derived.Test.YtglnmmifedlgmaaK1
import Derived.Test.YtglnmmifedlgmaaL3
namespace Go.Proofs.Ytglnmmifedlgmaa
open Go Go.ChangeShapes Go.WideShapes Go.ChangeAt Go.RowKit

set_option maxRecDepth 100000 in
theorem boxes_lifted (os : Os) (started : os.Started) (H : Type) (enc : TypeId × Value → H) :
    ReturnsInHanded {} Try.checked os 6 .any (Rows.boardBoxesSpec.pre6 enc Try.prog Try.f6 Rows.boardBoxesRow.domain false) (Rows.boardBoxesSpec.post enc Try.prog Try.f6 false true false false) := by
  refine returnsInHanded_of_change (C := Try.checked) own started (by kernel_rfl) Try.func6
    (ChangeSpec.witness6 (enc := enc) (C := Try.checked) false ⟨#[], #[.string ⟨#[]⟩, .agg #[.int .i64 0, .int .i64 0], .agg #[.int .i64 0, .int .i64 0]], []⟩ 8 (by kernel_rfl) (by kernel_rfl) (by kernel_rfl) (by kernel_rfl)) ?_
  intro W base args ds gs before hval0 hW hcnd _
  have hval : ∀ (j : Nat) t v, Try.f6.params[j]? = some t → args[j]? = some v → Value.okWide Try.prog W .any base t v := hval0
  have hW' := hW
  obtain ⟨p, q, hA0, hV, rfl, hfz, hnd⟩ := hW
  have hA : DataW.TrodAll enc Try.prog W 0 (fun _ => true) true Try.f6.params.toList args.toList ds p := hA0
  rw [Try.params6] at hA hval
  obtain ⟨v0, vs0, d0, ds0, p0, q0, hargs, rfl, rfl, h0, r0⟩ := trodAll_cons hA
  obtain ⟨v1, vs1, d1, ds1, p1, q1, rfl, rfl, rfl, h1, r1⟩ := trodAll_cons r0
  obtain ⟨v2, vs2, d2, ds2, p2, q2, rfl, rfl, rfl, h2, r2⟩ := trodAll_cons r1
  obtain ⟨rfl, rfl, rfl⟩ := trodAll_nil r2
  obtain rfl : args = #[v0, v1, v2] := by cases args; simp_all
  obtain ⟨rfl, rfl⟩ := trodVars_none hV
  obtain ⟨x0, rfl, rfl, rfl, m0⟩ := ChangeMaps.open_string Try.underlying9 (hval 0 9 v0 rfl rfl) h0
  have k1 := h1
  obtain ⟨fuel1, hf1⟩ := h1
  obtain ⟨x1, y1, rfl, i1, j1⟩ := vec_open (hval 1 32 v1 rfl rfl) hf1
  have k2 := h2
  obtain ⟨fuel2, hf2⟩ := h2
  obtain ⟨x2, y2, rfl, i2, j2⟩ := arr_open (hval 2 42 v2 rfl rfl) hf2
  clear hA0 hval0
  refine ((fun s a b c d (_ : In a) (_ : In b) (_ : In c) (_ : In d) W => boxes_w s a b c d W) x0 x1 y1 x2 y2 i1 j1 i2 j2 W).mono fun e W' ⟨he, hg⟩ => ?_
  subst he
  have hlt1 : ∀ x ∈ p1, x.block < W.heap.size := fun x hx => hW'.lt x (by simp [hx])
  have t1 := Below.trod (t := 32) laidOut (by kernel_rfl) (of_decide_eq_true (by kernel_rfl)) k1 (below_of hg) hlt1
  have hlt2 : ∀ x ∈ p2, x.block < W.heap.size := fun x hx => hW'.lt x (by simp [hx])
  have t2 := Below.trod (t := 42) laidOut (by kernel_rfl) (of_decide_eq_true (by kernel_rfl)) k2 (below_of hg) hlt2
  have tA := (trodAll_cons_mk (ChangeMaps.shut_string Try.underlying9 m0) (trodAll_cons_mk t1 (trodAll_cons_mk t2 trodAll_mk0)))
  simp only [List.append_nil, List.nil_append] at tA hW'
  refine ⟨_, rfl, _, _, _, [], p1 ++ p2, [], hW', trodAll_mk1 (shut_bool Try.underlying4 _), tA, rfl, (below_of hg).frame _, fun h => by cases h⟩

theorem boxes_holds : Rows.BoardBoxesSaid :=
  OpenClaim.holds_of_wide 6 Try.f6 rfl rfl rfl rfl rfl rfl rfl ⟨rfl, rfl, rfl, rfl, rfl⟩ rfl rfl rfl rfl rfl (by kernel_rfl) Try.func6 (by kernel_rfl)
    (of_decide_eq_true (by kernel_rfl)) (by unfold Func.isWrapper; first | (rw [if_pos (by decide +kernel)]; kernel_rfl) | (rw [if_neg (by decide +kernel)]; exact ⟨rfl, rfl⟩))
    (fun os started H enc _ => boxes_lifted os started H enc)
#print axioms boxes_holds
end Go.Proofs.Ytglnmmifedlgmaa
