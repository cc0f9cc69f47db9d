/- RingRounds: the row. -/
import Derived.Test.YtflglflggeaokaaK1
import Derived.Test.YtflglflggeaokaaL4
import Derived.SizedLaws
namespace Go.Proofs.Ytflglflggeaokaa
open Go Go.ChangeShapes Go.WideShapes Go.ChangeAt Go.RowKit

theorem bytes3 : Try.checked.prog.bytesOf 3 = 8 := by kernel_rfl
theorem small_of {H : Type} {a0 : Option Addr} {n0 c0 fuel : Nat} {enc : TypeId × Value → H} {W : World} {d : DataW H} {pl : List MemPlace} (hf : DataW.trod enc Try.prog W 0 (fun _ => true) true fuel 22 (Value.slice a0 n0 c0).cells.toList = some (d, pl))
    (hs : ∀ elems spare, d = .slice elems spare → (elems.length + spare.length) * 8 ≤ reachBytes) : n0 ≤ 17592186044416 := by
  rcases open_ints Try.underlying22 Try.underlying3 cells3 hf with ⟨hcs, _⟩ | ⟨a, len, cap, zs, hcs, _, hl, hmx, hz, hx, _, _⟩
  · have e : Value.slice a0 n0 c0 = Value.slice none 0 0 := by simpa [Value.cells] using hcs
    injection e with e1 e2 e3
    omega
  · have e : Value.slice a0 n0 c0 = Value.slice (some a) len cap := by simpa [Value.cells] using hcs
    injection e with e1 e2 e3
    simp only [if_true] at hz
    simp only [Prod.mk.injEq] at hx
    have := hs _ _ hx.1
    have h1 : (lits (H := H) .i64 (zs.take len)).length = len := by simp [lits]; omega
    unfold reachBytes at this
    omega

set_option maxRecDepth 100000 in
theorem rounds_lifted (os : Os) (started : os.Started) (H : Type) (enc : TypeId × Value → H) :
    ReturnsInHanded {} Try.checked os 5 .any (Rows.ringRoundsSpec.pre6 enc Try.prog Try.f5 Rows.ringRoundsRow.domain false) (Rows.ringRoundsSpec.post enc Try.prog Try.f5 false true false false) := by
  refine returnsInHanded_of_change_sized (C := Try.checked) own started (by kernel_rfl) Try.func5
    (ChangeSpec.witness6 (enc := enc) (C := Try.checked) false ⟨#[], #[.slice none 0 0, .slice none 0 0], []⟩ 8 (by kernel_rfl) (by kernel_rfl) (by kernel_rfl) (by kernel_rfl)) ?_
  intro W base args ds gs before hval0 hW _ hsz _
  have hval : ∀ (j : Nat) t v, Try.f5.params[j]? = some t → args[j]? = some v → Value.okWide Try.prog W .any base t v := hval0
  have hW' := hW
  obtain ⟨p, q, hA0, hV, rfl, hfz, hnd⟩ := hW
  have hA : DataW.TrodAll enc Try.prog W 0 (fun _ => true) true Try.f5.params.toList args.toList ds p := hA0
  rw [Try.params5] at hA hval hsz
  obtain ⟨v0, v1, d0, d1, p0, p1, rfl, rfl, rfl, h0, h1⟩ := trodAll_two hA
  obtain ⟨rfl, rfl⟩ := trodVars_none hV
  obtain ⟨a0, n0, c0, rfl⟩ := okWide_slice Try.underlying22 (hval 0 22 v0 rfl rfl)
  obtain ⟨a1, n1, c1, rfl⟩ := okWide_slice Try.underlying22 (hval 1 22 v1 rfl rfl)
  have h0' := h0
  have h1' := h1
  obtain ⟨fuel, hf⟩ := h0
  obtain ⟨fuel1, hf1⟩ := h1
  obtain ⟨xs, hxs, _, hn, _⟩ := ints_open hf
  obtain ⟨ys, hys, _, hn1, _⟩ := ints_open hf1
  have z0 : n0 ≤ 17592186044416 := small_of hf (fun el sp e => by
    have := sized_slice hsz (j := 0) (t := 22) (e := 3) (elems := el) (spare := sp) rfl (by rw [e]; rfl) Try.underlying22
    rwa [bytes3] at this)
  have z1 : n1 ≤ 17592186044416 := small_of hf1 (fun el sp e => by
    have := sized_slice hsz (j := 1) (t := 22) (e := 3) (elems := el) (spare := sp) rfl (by rw [e]; rfl) Try.underlying22
    rwa [bytes3] at this)
  simp only [List.append_nil] at hW'
  have hlt : ∀ x ∈ p0 ++ p1, x.block < W.heap.size := fun x hx => hW'.lt x hx
  refine (rounds_walk a0 n0 c0 a1 n1 c1 xs ys W hxs hys hn hn1 (by omega)).mono fun e W' ⟨he, hg⟩ => ?_
  subst he
  have hB := below_of hg
  refine ⟨_, rfl, _, _, _, [], p0 ++ p1, [], hW', trodAll_mk1 (shut_bool Try.underlying4 _), ?_, rfl, hB.frame _, fun h => by cases h⟩
  have t0 := Below.trod (t := 22) laidOut (by kernel_rfl) (of_decide_eq_true (by kernel_rfl)) h0' hB (fun x hx => hlt x (by simp [hx]))
  have t1 := Below.trod (t := 22) laidOut (by kernel_rfl) (of_decide_eq_true (by kernel_rfl)) h1' hB (fun x hx => hlt x (by simp [hx]))
  exact trodAll_mk2 t0 t1

theorem rounds_holds : Rows.RingRoundsSaid :=
  OpenClaim.holds_of_wide 5 Try.f5 rfl rfl rfl rfl rfl rfl rfl ⟨rfl, rfl, rfl, rfl, rfl⟩ rfl rfl rfl rfl rfl (by kernel_rfl) Try.func5 (by kernel_rfl)
    (of_decide_eq_true (by kernel_rfl)) (by unfold Func.isWrapper; first | (rw [if_pos (by decide +kernel)]; kernel_rfl) | (rw [if_neg (by decide +kernel)]; exact ⟨rfl, rfl⟩))
    (fun os started H enc _ => rounds_lifted os started H enc)
#print axioms rounds_holds
end Go.Proofs.Ytflglflggeaokaa
