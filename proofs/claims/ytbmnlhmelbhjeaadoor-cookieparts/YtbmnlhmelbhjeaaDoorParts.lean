/- CookieParts: the row and its card. -/
import Derived.Test.YtbmnlhmelbhjeaaDoorCK0
import Derived.Test.YtbmnlhmelbhjeaaDoorCL3
import Derived.Test.YtbmnlhmelbhjeaaDoorCK2
import Derived.Test.YtbmnlhmelbhjeaaDoorTie
import Derived.Test.YtbmnlhmelbhjeaaDoorCards
import Derived.SevenTiedAt
import Derived.ChangeMaps5
namespace Go.Proofs.YtbmnlhmelbhjeaaDoor
open Go Go.ChangeShapes Go.WideShapes Go.ChangeAt Go.RowKit

set_option maxRecDepth 100000 in
theorem parts_lifted (os : Os) (started : os.Started) (H : Type) (enc : TypeId × Value → H) :
    ReturnsInHanded {} Tryd.checked os 4 .any (fun w args => (Rows.cookiePartsSpec.pre enc Tryd.prog Tryd.f4 [] false w args ∧ laidMetH Tryd.prog [("joust/sha.roundWords", Rows.laid_joust_sha_roundWords)] w) ∧ sizedMet enc Tryd.prog Tryd.f4 (OpenSpec.ofChange Rows.cookiePartsSpec) false w args)
      (Rows.cookiePartsSpec.post enc Tryd.prog Tryd.f4 false true false false) := by
  refine returnsInHanded_of_change_and (C := Tryd.checked) (X := fun w _ => laidMetH Tryd.prog [("joust/sha.roundWords", Rows.laid_joust_sha_roundWords)] w) (fun _ _ _ hh h => h.of_heap hh) own started (by kernel_rfl) Tryd.func4
    (ChangeSpec.witness_shaped (enc := enc) (C := Tryd.checked) (os := os) (X := fun w _ => laidMetH Tryd.prog [("joust/sha.roundWords", Rows.laid_joust_sha_roundWords)] w) false (World.doorLaid Tryd.prog 400 os) #[Value.string ⟨#[]⟩, .string ⟨#[]⟩, .agg #[.int .i64 0, .int .i64 0]] 8 rfl (World.shaped_of_RefB (by kernel_rfl) (by kernel_rfl)) (by kernel_rfl) (by kernel_rfl) (by kernel_rfl) (door1 os _)) ?_
  intro W base args ds gs before hval0 hW _ hsz hL _
  have hval : ∀ (j : Nat) t v, Tryd.f4.params[j]? = some t → args[j]? = some v → Value.okWide Tryd.prog W .any base t v := hval0
  have hW' := hW
  obtain ⟨p, q, hA0, hV, rfl, hfz, hnd⟩ := hW
  have hA : DataW.TrodAll enc Tryd.prog W 0 (fun _ => true) true Tryd.f4.params.toList args.toList ds p := hA0
  rw [Tryd.params4] at hA hval hsz
  obtain ⟨v0, v1, v2, d0, d1, d2, p0, p1, p2, rfl, rfl, rfl, h0, h1, h2⟩ := trodAll_three hA
  obtain ⟨rfl, rfl⟩ := trodVars_none hV
  obtain ⟨s0, rfl, rfl, rfl, m0⟩ := ChangeMaps.open_string Tryd.underlying9 (hval 0 9 v0 rfl rfl) h0
  have z0 : s0.size ≤ 140737488355328 := by
    have := sized_string hsz (j := 0) (t := 9) rfl rfl
    unfold reachBytes at this
    have e : s0.data.toList.length = s0.size := sl_len s0
    omega
  obtain ⟨s1, rfl, rfl, rfl, m1⟩ := ChangeMaps.open_string Tryd.underlying9 (hval 1 9 v1 rfl rfl) h1
  have z1 : s1.size ≤ 140737488355328 := by
    have := sized_string hsz (j := 1) (t := 9) rfl rfl
    unfold reachBytes at this
    have e : s1.data.toList.length = s1.size := sl_len s1
    omega
  have k2 := h2
  obtain ⟨fuel2, hf2⟩ := h2
  obtain ⟨x2, y2, rfl⟩ := two_open (hval 2 33 v2 rfl rfl) hf2
  have hkc := kc_of_laid hL
  simp only [List.append_nil, List.nil_append] at hW'
  have hlt2 : ∀ x ∈ p2, x.block < W.heap.size := fun x hx => hW'.lt x hx
  refine (parts_c s0 s1 x2 y2 W hkc z0 z1).mono fun e W' ⟨he, hg⟩ => ?_
  subst he
  have hB := below_of hg
  have t2 := Below.trod (t := 33) laidOut (by kernel_rfl) (of_decide_eq_true (by kernel_rfl)) k2 hB hlt2
  refine ⟨_, rfl, _, _, _, [], [] ++ ([] ++ (p2)), [], hW', trodAll_mk1 (shut_bool Tryd.underlying4 _), ?_, rfl, hB.frame _, fun h => by cases h⟩
  exact trodAll_mk3 (ChangeMaps.shut_string Tryd.underlying9 m0) (ChangeMaps.shut_string Tryd.underlying9 m1) t2

set_option maxRecDepth 100000 in
theorem parts_row : Rows.CookiePartsSaid :=
  OpenClaim.holds_of_wide 4 Tryd.f4 rfl rfl rfl rfl rfl rfl rfl ⟨rfl, rfl, rfl, rfl, rfl⟩ rfl rfl rfl rfl rfl (by kernel_rfl) Tryd.func4 (by kernel_rfl)
    (of_decide_eq_true (by kernel_rfl)) (by unfold Func.isWrapper; first | (rw [if_pos (by decide +kernel)]; kernel_rfl) | (rw [if_neg (by decide +kernel)]; exact ⟨rfl, rfl⟩))
    (fun os started H enc _ => parts_lifted os started H enc)

set_option maxRecDepth 100000 in
theorem parts_holds : Rows.CookiePartsCardSaid :=
  Claim7.holds_tied_plain_at .later [] [.data] true (true, "150fb503861ce6d7d8b7aa6866c810200717c1625c7e2ca9fc4fe81ae14e4986") false
    parts_row (fun _ h => by cases h) (by kernel_rfl) (fun _ h => by cases h) cookieParts_row_tie rfl ⟨rfl, rfl⟩ (by kernel_rfl) rfl
    (fun f fn hf hfn => by
      obtain rfl : f = 4 := Option.some.inj ((show Tryd.prog.funcNamed "joust/joustlaw10.CookieParts" = some 4 by kernel_rfl).symm.trans hf) |>.symm
      obtain rfl : fn = Tryd.f4 := (Option.some.inj (Tryd.func4.symm.trans hfn)).symm
      exact ⟨by kernel_rfl, fun j t ht => by
        rw [Tryd.params4] at ht
        have hm : t ∈ [9, 9, 33] := by simpa using Array.mem_of_getElem? ht
        have hall : ([9, 9, 33].all fun u => !Tryd.prog.wantsStandIn u) = true := by kernel_rfl
        exact (show Tryd.prog.wantsStandIn t = false by simpa using List.all_eq_true.1 hall t hm)⟩)
    (by kernel_rfl)
#print axioms parts_holds
end Go.Proofs.YtbmnlhmelbhjeaaDoor
