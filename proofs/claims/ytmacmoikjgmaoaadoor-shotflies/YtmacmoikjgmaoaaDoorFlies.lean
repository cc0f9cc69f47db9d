/- ShotFlies: the row and its card. -/
import Derived.Test.YtmacmoikjgmaoaaDoorK1
import Derived.Test.YtmacmoikjgmaoaaDoorL1
import Derived.Test.YtmacmoikjgmaoaaDoorTie
import Derived.Test.YtmacmoikjgmaoaaDoorCards
import Derived.SevenTiedAt
import Derived.ChangeMaps5
namespace Go.Proofs.YtmacmoikjgmaoaaDoor
open Go Go.ChangeShapes Go.WideShapes Go.ChangeAt Go.RowKit Bo

set_option maxRecDepth 100000 in
theorem flies_lifted (os : Os) (started : os.Started) (H : Type) (enc : TypeId × Value → H) :
    ReturnsInHanded {} Tryd.checked os 3 .any (fun w args => (Rows.shotFliesSpec.pre enc Tryd.prog Tryd.f3 [] false w args ∧ laidMetH Tryd.prog [("joust/fix.sines", Rows.laid_joust_fix_sines)] w) ∧ sizedMet enc Tryd.prog Tryd.f3 (OpenSpec.ofChange Rows.shotFliesSpec) false w args)
      (Rows.shotFliesSpec.post enc Tryd.prog Tryd.f3 false true false false) := by
  refine returnsInHanded_of_change_and (C := Tryd.checked) (X := fun w _ => laidMetH Tryd.prog [("joust/fix.sines", Rows.laid_joust_fix_sines)] w) (fun _ _ _ hh h => h.of_heap hh) own started (by kernel_rfl) Tryd.func3
    (ChangeSpec.witness_shaped (enc := enc) (C := Tryd.checked) (os := os) (X := fun w _ => laidMetH Tryd.prog [("joust/fix.sines", Rows.laid_joust_fix_sines)] w) false (World.doorLaid Tryd.prog 400 os) #[.string ⟨#[]⟩, .slice none 0 0, .agg #[.int .i64 0, .int .i64 0, .int .i64 0, .int .i64 0, .int .i64 0, .int .i64 0, .int .i64 0]] 8 rfl (World.shaped_of_RefB (by kernel_rfl) (by kernel_rfl)) (by kernel_rfl) (by kernel_rfl) (by kernel_rfl) (door1 os _)) ?_
  intro W base args ds gs before hval0 hW _ hsz0 hL _
  have hsz : (DataW.weightsEach Tryd.prog (Tryd.f3.params.toList ++ Rows.shotFliesSpec.plain.varTypes Tryd.prog) (ds ++ gs)).all (· ≤ reachBytes) = true := hsz0
  have hval : ∀ (j : Nat) t v, Tryd.f3.params[j]? = some t → args[j]? = some v → Value.okWide Tryd.prog W .any base t v := hval0
  have hW' := hW
  obtain ⟨p, q, hA0, hV, rfl, hfz, hnd⟩ := hW
  have hA : DataW.TrodAll enc Tryd.prog W 0 (fun _ => true) true Tryd.f3.params.toList args.toList ds p := hA0
  rw [Tryd.params3] at hA hval hsz
  obtain ⟨v0, v1, v2, d0, d1, d2, p0, p1, p2, rfl, rfl, rfl, h0, h1, h2⟩ := trodAll_three hA
  obtain ⟨rfl, rfl⟩ := trodVars_none hV
  clear hA0 hval0 hsz0
  obtain ⟨s0, rfl, rfl, rfl, m0⟩ := ChangeMaps.open_string Tryd.underlying9 (hval 0 9 v0 rfl rfl) h0
  obtain ⟨a1, n1, cp1, rfl⟩ := okWide_slice Tryd.underlying22 (hval 1 22 v1 rfl rfl)
  have k1 := h1
  obtain ⟨fuel1, hf1⟩ := h1
  obtain ⟨u1, q1, hu1, cw1⟩ := crs_cells hf1
  obtain rfl : Value.slice a1 n1 cp1 = u1 := by simpa [Value.cells] using hu1
  have cr1 := cw1.full (fun n hn => by
    have := of_decide_eq_true (List.all_eq_true.1 hsz _ (DataW.weights_mem_each (j := 1) (t := 22) rfl rfl _ hn))
    unfold reachBytes at this
    omega)
  have k2 := h2
  obtain ⟨fuel2, hf2⟩ := h2
  obtain ⟨c2, rfl, ok2⟩ := shot_open (hval 2 26 v2 rfl rfl) hf2
  have hk := kc_of_laid hL
  simp only [List.append_nil, List.nil_append] at hW'
  refine (flies_c W s0 _ q1 c2 cr1 ok2 hk).mono fun e W' ⟨he, hg⟩ => ?_
  subst he
  have hlt1 : ∀ x ∈ p1, x.block < W.heap.size := fun x hx => hW'.lt x (by simp [hx])
  have hlt2 : ∀ x ∈ p2, x.block < W.heap.size := fun x hx => hW'.lt x (by simp [hx])
  have t1 := Below.trod (t := 22) laidOut (by kernel_rfl) (of_decide_eq_true (by kernel_rfl)) k1 (below_of hg) hlt1
  have t2 := Below.trod (t := 26) laidOut (by kernel_rfl) (of_decide_eq_true (by kernel_rfl)) k2 (below_of hg) hlt2
  refine ⟨_, rfl, _, _, _, [], [] ++ (p1 ++ (p2)), [], hW', trodAll_mk1 (shut_bool Tryd.underlying4 _), trodAll_mk3 (ChangeMaps.shut_string Tryd.underlying9 m0) t1 t2, rfl, (below_of hg).frame _, fun h => by cases h⟩

theorem flies_row : Rows.ShotFliesSaid :=
  OpenClaim.holds_of_wide 3 Tryd.f3 rfl rfl rfl rfl rfl rfl rfl ⟨rfl, rfl, rfl, rfl, rfl⟩ rfl rfl rfl rfl rfl (by kernel_rfl) Tryd.func3 (by kernel_rfl)
    (of_decide_eq_true (by kernel_rfl)) (by unfold Func.isWrapper; first | (rw [if_pos (by decide +kernel)]; kernel_rfl) | (rw [if_neg (by decide +kernel)]; exact ⟨rfl, rfl⟩))
    (fun os started H enc _ => flies_lifted os started H enc)

theorem flies_holds : Rows.ShotFliesCardSaid :=
  Claim7.holds_tied_plain_at .later [] [.data] true (true, "81817b4f5a1d03472509320ecc5d0b907dd9a2809fa8ce0f265bdbf3f3b2f614") false
    flies_row (fun _ h => by cases h) (by kernel_rfl) (fun _ h => by cases h) shotFlies_row_tie rfl ⟨rfl, rfl⟩ (by kernel_rfl) rfl
    (fun f fn hf hfn => by
      obtain rfl : f = 3 := Option.some.inj ((show Tryd.prog.funcNamed "joust/joustlaw16.ShotFlies" = some 3 by kernel_rfl).symm.trans hf) |>.symm
      obtain rfl : fn = Tryd.f3 := (Option.some.inj (Tryd.func3.symm.trans hfn)).symm
      exact ⟨by kernel_rfl, fun j t ht => by
        rw [Tryd.params3] at ht
        have hm : t ∈ [9, 22, 26] := by simpa using Array.mem_of_getElem? ht
        have hall : ([9, 22, 26].all fun u => !Tryd.prog.wantsStandIn u) = true := by kernel_rfl
        exact (show Tryd.prog.wantsStandIn t = false by simpa using List.all_eq_true.1 hall t hm)⟩)
    (by kernel_rfl)
#print axioms flies_holds
end Go.Proofs.YtmacmoikjgmaoaaDoor
