/- GridSides: the row. -/
import Derived.Test.YtidpafmhmhojmaaK0
import Derived.Test.YtidpafmhmhojmaaL3
namespace Go.Proofs.Ytidpafmhmhojmaa
open Go Go.ChangeShapes Go.WideShapes Go.ChangeAt Go.RowKit

set_option maxRecDepth 100000 in
theorem sides_lifted (os : Os) (started : os.Started) (H : Type) (enc : TypeId × Value → H) :
    ReturnsInHanded {} Try.checked os 4 .any (Rows.gridSidesSpec.pre6 enc Try.prog Try.f4 Rows.gridSidesRow.domain false) (Rows.gridSidesSpec.post enc Try.prog Try.f4 false true false false) := by
  refine returnsInHanded_of_change_sized (C := Try.checked) own started (by kernel_rfl) Try.func4
    (ChangeSpec.witness6 (enc := enc) (C := Try.checked) false ⟨#[], #[.int .i64 0, .int .i64 0, .slice none 0 0], []⟩ 8 (by kernel_rfl) (by kernel_rfl) (by kernel_rfl) (by kernel_rfl)) ?_
  intro W base args ds gs before hval0 hW _ hsz _
  have hval : ∀ (j : Nat) t v, Try.f4.params[j]? = some t → args[j]? = some v → Value.okWide Try.prog W .any base t v := hval0
  have hW' := hW
  obtain ⟨p, q, hA0, hV, rfl, hfz, hnd⟩ := hW
  have hA : DataW.TrodAll enc Try.prog W 0 (fun _ => true) true Try.f4.params.toList args.toList ds p := hA0
  rw [Try.params4] at hA hval hsz
  obtain ⟨v0, vs0, d0, ds0, p0, q0, hargs, rfl, rfl, h0, r0⟩ := trodAll_cons hA
  obtain ⟨v1, vs1, d1, ds1, p1, q1, rfl, rfl, rfl, h1, r1⟩ := trodAll_cons r0
  obtain ⟨v2, vs2, d2, ds2, p2, q2, rfl, rfl, rfl, h2, r2⟩ := trodAll_cons r1
  obtain ⟨rfl, rfl, rfl⟩ := trodAll_nil r2
  obtain rfl : args = #[v0, v1, v2] := by cases args; simp_all
  obtain ⟨rfl, rfl⟩ := trodVars_none hV
  obtain ⟨y0, rfl, rfl, rfl, wy0⟩ := open_int Try.underlying2 (hval 0 2 v0 rfl rfl) h0
  obtain ⟨y1, rfl, rfl, rfl, wy1⟩ := open_int Try.underlying2 (hval 1 2 v1 rfl rfl) h1
  obtain ⟨a2, n2, c2, rfl⟩ := okWide_slice Try.underlying22 (hval 2 22 v2 rfl rfl)
  have k2 := h2
  obtain ⟨fuel2, hf2⟩ := h2
  obtain ⟨L, hL, hI, hLn, hd⟩ := scr_open hf2
  have hn : L.length * 48 ≤ 140737488351232 := by
    rw [hLn]
    rcases hd with e0 | ⟨el, sp, rfl, hl⟩
    · rw [e0]; omega
    · have := sized_slice hsz (j := 2) (t := 22) (e := 34) (elems := el) (spare := sp) rfl rfl Try.underlying22
      rw [by34] at this
      unfold reachBytes at this
      omega
  clear hA0 hval0
  simp only [List.append_nil, List.nil_append] at hW'
  refine (sides_c W y0 y1 (.slice a2 n2 c2) L ⟨hL, hI, hn⟩).mono fun e W' ⟨he, hg⟩ => ?_
  subst he
  have hB := below_of hg
  have hlt : ∀ x ∈ p2, x.block < W.heap.size := fun x hx => hW'.lt x (by simpa using hx)
  have t1 := Below.trod (t := 22) laidOut (by kernel_rfl) (of_decide_eq_true (by kernel_rfl)) k2 hB hlt
  have tA := trodAll_cons_mk (shut_int Try.underlying2 wy0) (trodAll_cons_mk (shut_int Try.underlying2 wy1) (trodAll_mk1 t1))
  simp only [List.nil_append] at tA
  refine ⟨_, rfl, _, _, _, [], p2, [], hW', trodAll_mk1 (shut_bool Try.underlying4 _), tA, rfl, hB.frame _, fun h => by cases h⟩

theorem sides_holds : Rows.GridSidesSaid :=
  OpenClaim.holds_of_wide 4 Try.f4 rfl rfl rfl rfl rfl rfl rfl ⟨rfl, rfl, rfl, rfl, rfl⟩ rfl rfl rfl rfl rfl (by kernel_rfl) Try.func4 (by kernel_rfl)
    (of_decide_eq_true (by kernel_rfl)) (by unfold Func.isWrapper; first | (rw [if_pos (by decide +kernel)]; kernel_rfl) | (rw [if_neg (by decide +kernel)]; exact ⟨rfl, rfl⟩))
    (fun os started H enc _ => sides_lifted os started H enc)
#print axioms sides_holds
end Go.Proofs.Ytidpafmhmhojmaa
