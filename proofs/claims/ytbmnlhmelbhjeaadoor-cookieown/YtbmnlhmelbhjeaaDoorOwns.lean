/- CookieOwn: the row and its card. -/
import Derived.Test.YtbmnlhmelbhjeaaDoorCK0
import Derived.Test.YtbmnlhmelbhjeaaDoorCL4
import Derived.Test.YtbmnlhmelbhjeaaDoorCK2
import Derived.Test.YtbmnlhmelbhjeaaDoorTie
import Derived.Test.YtbmnlhmelbhjeaaDoorCards
import Derived.SevenTiedAt
import Derived.ChangeMaps5
namespace Go.Proofs.YtbmnlhmelbhjeaaDoor
open Go Go.ChangeShapes Go.WideShapes Go.ChangeAt Go.RowKit

set_option maxRecDepth 100000 in
theorem owns_lifted (os : Os) (started : os.Started) (H : Type) (enc : TypeId × Value → H) :
    ReturnsInHanded {} Tryd.checked os 6 .any (fun w args => (Rows.cookieOwnSpec.pre enc Tryd.prog Tryd.f6 [] false w args ∧ laidMetH Tryd.prog [("joust/sha.roundWords", Rows.laid_joust_sha_roundWords)] w) ∧ sizedMet enc Tryd.prog Tryd.f6 (OpenSpec.ofChange Rows.cookieOwnSpec) false w args)
      (Rows.cookieOwnSpec.post enc Tryd.prog Tryd.f6 false true false false) := by
  refine returnsInHanded_of_change_and (C := Tryd.checked) (X := fun w _ => laidMetH Tryd.prog [("joust/sha.roundWords", Rows.laid_joust_sha_roundWords)] w) (fun _ _ _ hh h => h.of_heap hh) own started (by kernel_rfl) Tryd.func6
    (ChangeSpec.witness_shaped (enc := enc) (C := Tryd.checked) (os := os) (X := fun w _ => laidMetH Tryd.prog [("joust/sha.roundWords", Rows.laid_joust_sha_roundWords)] w) false (World.doorLaid Tryd.prog 400 os) #[Value.string ⟨#[]⟩, .slice none 0 0, .agg #[.string ⟨#[]⟩, .string ⟨#[]⟩, .string ⟨#[]⟩, .string ⟨#[]⟩]] 8 rfl (World.shaped_of_RefB (by kernel_rfl) (by kernel_rfl)) (by kernel_rfl) (by kernel_rfl) (by kernel_rfl) (door1 os _)) ?_
  intro W base args ds gs before hval0 hW _ hsz hL _
  have hval : ∀ (j : Nat) t v, Tryd.f6.params[j]? = some t → args[j]? = some v → Value.okWide Tryd.prog W .any base t v := hval0
  have hW' := hW
  obtain ⟨p, q, hA0, hV, rfl, hfz, hnd⟩ := hW
  have hA : DataW.TrodAll enc Tryd.prog W 0 (fun _ => true) true Tryd.f6.params.toList args.toList ds p := hA0
  rw [Tryd.params6] at hA hval hsz
  obtain ⟨v0, v1, v2, d0, d1, d2, p0, p1, p2, rfl, rfl, rfl, h0, h1, h2⟩ := trodAll_three hA
  obtain ⟨rfl, rfl⟩ := trodVars_none hV
  obtain ⟨s0, rfl, rfl, rfl, m0⟩ := ChangeMaps.open_string Tryd.underlying9 (hval 0 9 v0 rfl rfl) h0
  have z0 : s0.size ≤ 140737488355328 := by
    have := sized_string hsz (j := 0) (t := 9) rfl rfl
    unfold reachBytes at this
    have e : s0.data.toList.length = s0.size := sl_len s0
    omega
  obtain ⟨a1, n1, c1, rfl⟩ := okWide_slice under22' (hval 1 22 v1 rfl rfl)
  have k1 := h1
  obtain ⟨fuel1, hf1⟩ := h1
  obtain ⟨q1, hps1, hnc1, hnil1, _, hsz1⟩ := strs_open hf1
  have k2 := h2
  obtain ⟨fuel2, hf2⟩ := h2
  obtain ⟨x2, y2, z2, u2, rfl, mx2, my2, mz2⟩ := four_open (hval 2 43 v2 rfl rfl) hf2
  have hkc := kc_of_laid hL
  simp only [List.append_nil, List.nil_append] at hW'
  have hlt1 : ∀ x ∈ p1, x.block < W.heap.size := fun x hx => hW'.lt x (by simp [hx])
  have hlt2 : ∀ x ∈ p2, x.block < W.heap.size := fun x hx => hW'.lt x (by simp [hx])
  refine (own_c s0 x2 y2 z2 u2 a1 n1 c1 q1 W hkc hps1 hnc1 hnil1 (by omega) mx2 my2 mz2 hsz1).mono fun e W' ⟨he, hg⟩ => ?_
  subst he
  have hB := below_of hg
  have t1 := Below.trod (t := 22) laidOut (by kernel_rfl) (of_decide_eq_true (by kernel_rfl)) k1 hB hlt1
  have t2 := Below.trod (t := 43) laidOut (by kernel_rfl) (of_decide_eq_true (by kernel_rfl)) k2 hB hlt2
  refine ⟨_, rfl, _, _, _, [], [] ++ (p1 ++ (p2)), [], hW', trodAll_mk1 (shut_bool Tryd.underlying4 _), ?_, rfl, hB.frame _, fun h => by cases h⟩
  exact trodAll_mk3 (ChangeMaps.shut_string Tryd.underlying9 m0) t1 t2

set_option maxRecDepth 100000 in
theorem owns_row : Rows.CookieOwnSaid :=
  OpenClaim.holds_of_wide 6 Tryd.f6 rfl rfl rfl rfl rfl rfl rfl ⟨rfl, rfl, rfl, rfl, rfl⟩ rfl rfl rfl rfl rfl (by kernel_rfl) Tryd.func6 (by kernel_rfl)
    (of_decide_eq_true (by kernel_rfl)) (by unfold Func.isWrapper; first | (rw [if_pos (by decide +kernel)]; kernel_rfl) | (rw [if_neg (by decide +kernel)]; exact ⟨rfl, rfl⟩))
    (fun os started H enc _ => owns_lifted os started H enc)

set_option maxRecDepth 100000 in
theorem owns_holds : Rows.CookieOwnCardSaid :=
  Claim7.holds_tied_plain_at .later [] [.data] true (true, "150fb503861ce6d7d8b7aa6866c810200717c1625c7e2ca9fc4fe81ae14e4986") false
    owns_row (fun _ h => by cases h) (by kernel_rfl) (fun _ h => by cases h) cookieOwn_row_tie rfl ⟨rfl, rfl⟩ (by kernel_rfl) rfl
    (fun f fn hf hfn => by
      obtain rfl : f = 6 := Option.some.inj ((show Tryd.prog.funcNamed "joust/joustlaw10.CookieOwn" = some 6 by kernel_rfl).symm.trans hf) |>.symm
      obtain rfl : fn = Tryd.f6 := (Option.some.inj (Tryd.func6.symm.trans hfn)).symm
      exact ⟨by kernel_rfl, fun j t ht => by
        rw [Tryd.params6] at ht
        have hm : t ∈ [9, 22, 43] := by simpa using Array.mem_of_getElem? ht
        have hall : ([9, 22, 43].all fun u => !Tryd.prog.wantsStandIn u) = true := by kernel_rfl
        exact (show Tryd.prog.wantsStandIn t = false by simpa using List.all_eq_true.1 hall t hm)⟩)
    (by kernel_rfl)
#print axioms owns_holds
end Go.Proofs.YtbmnlhmelbhjeaaDoor
