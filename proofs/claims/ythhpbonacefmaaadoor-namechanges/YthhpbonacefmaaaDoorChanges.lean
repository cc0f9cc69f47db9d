/- NameChanges: the row and its card. -/
import Derived.Test.YthhpbonacefmaaaDoorK0
import Derived.Test.YthhpbonacefmaaaDoorB2
import Derived.Test.YthhpbonacefmaaaDoorTie
import Derived.Test.YthhpbonacefmaaaDoorCards
import Derived.SevenTiedAt
import Derived.ChangeMaps5
namespace Go.Proofs.YthhpbonacefmaaaDoor
open Go Go.ChangeShapes Go.WideShapes Go.ChangeAt Go.RowKit

theorem laidOut : laidOutB Tryd.prog = true := by kernel_rfl
theorem cells3 : Tryd.prog.cellsOf 3 = 1 := by kernel_rfl
theorem byte_of_wf {a : Int} (h : (Lit.int .u8 a).wf = true) : 0 ≤ a ∧ a < 256 := by
  have m1 : IntKind.u8.min = 0 := by decide
  have m2 : IntKind.u8.max = 255 := by decide
  simp [Lit.wf, m1, m2] at h
  omega
/-- a slice of ints as it is handed in -/
theorem places_open {H : Type} {enc : TypeId × Value → H} {W : World} {a0 : Option Addr} {n0 c0 fuel : Nat} {d : DataW H} {pl : List MemPlace} (hf : DataW.trod enc Tryd.prog W 0 (fun _ => true) true fuel 31 (Value.slice a0 n0 c0).cells.toList = some (d, pl)) :
    ∃ q : List Int, n0 = q.length ∧ Nums W a0 q ∧ ∀ x ∈ q, -9223372036854775808 ≤ x ∧ x ≤ 9223372036854775807 := by
  rcases open_ints Tryd.underlying31 Tryd.underlying3 cells3 hf with ⟨hcs, _⟩ | ⟨a, len, cap, zs, hcs, _, hl, hmx, hz, hx, hcell, hwz⟩
  · have e : Value.slice a0 n0 c0 = Value.slice none 0 0 := by simpa [Value.cells] using hcs
    injection e with e1 e2 e3
    subst e1 e2 e3
    exact ⟨[], rfl, fun j x hx => by simp at hx, fun x hx => by cases hx⟩
  · have e : Value.slice a0 n0 c0 = Value.slice (some a) len cap := by simpa [Value.cells] using hcs
    injection e with e1 e2 e3
    subst e1 e2 e3
    simp only [if_true] at hz
    refine ⟨zs.take n0, by rw [List.length_take]; omega, fun j x hx => ⟨a, rfl, ?_⟩, fun x hx => in_of_wf (hwz x (List.mem_of_mem_take hx))⟩
    rw [List.getElem?_take] at hx
    split at hx
    · have hjz : j < zs.length := (List.getElem?_eq_some_iff.1 hx).1
      rw [hcell j hjz]
      have e : zs.getD j 0 = x := by simp [List.getD, hx]
      rw [e]
    · cases hx

set_option maxRecDepth 100000 in
theorem changes_lifted (os : Os) (started : os.Started) (H : Type) (enc : TypeId × Value → H) :
    ReturnsInHanded {} Tryd.checked os 5 .any (fun w args => (Rows.nameChangesSpec.pre enc Tryd.prog Tryd.f5 [] false w args ∧ laidMetH Tryd.prog [("joust/name.spans", Rows.laid_joust_name_spans)] w) ∧ sizedMet enc Tryd.prog Tryd.f5 (OpenSpec.ofChange Rows.nameChangesSpec) false w args)
      (Rows.nameChangesSpec.post enc Tryd.prog Tryd.f5 false true false false) := by
  refine returnsInHanded_of_change_and (C := Tryd.checked) (X := fun w _ => laidMetH Tryd.prog [("joust/name.spans", Rows.laid_joust_name_spans)] w) (fun _ _ _ hh h => h.of_heap hh) own started (by kernel_rfl) Tryd.func5
    (ChangeSpec.witness_shaped (enc := enc) (C := Tryd.checked) (os := os) (X := fun w _ => laidMetH Tryd.prog [("joust/name.spans", Rows.laid_joust_name_spans)] w) false (World.doorLaid Tryd.prog 400 os) #[.string ⟨#[]⟩, .slice none 0 0, .int .u8 0] 8 rfl (World.shaped_of_RefB (by kernel_rfl) (by kernel_rfl)) (by kernel_rfl) (by kernel_rfl) (by kernel_rfl) (door1 os _)) ?_
  intro W base args ds gs before hval0 hW _ hsz hL _
  have hval : ∀ (j : Nat) t v, Tryd.f5.params[j]? = some t → args[j]? = some v → Value.okWide Tryd.prog W .any base t v := hval0
  have hW' := hW
  obtain ⟨p, q, hA0, hV, rfl, hfz, hnd⟩ := hW
  have hA : DataW.TrodAll enc Tryd.prog W 0 (fun _ => true) true Tryd.f5.params.toList args.toList ds p := hA0
  rw [Tryd.params5] at hA hval hsz
  obtain ⟨v0, v1, v2, d0, d1, d2, p0, p1, p2, rfl, rfl, rfl, h0, h1, h2⟩ := trodAll_three hA
  obtain ⟨rfl, rfl⟩ := trodVars_none hV
  obtain ⟨x0, rfl, rfl, rfl, m0⟩ := ChangeMaps.open_string Tryd.underlying9 (hval 0 9 v0 rfl rfl) h0
  have z0 : x0.size ≤ 140737488355328 := by
    have := sized_string hsz (j := 0) (t := 9) rfl rfl
    unfold reachBytes at this
    have e : x0.data.toList.length = x0.size := sl_len x0
    omega
  obtain ⟨a1, n1, c1, rfl⟩ := okWide_slice Tryd.underlying31 (hval 1 31 v1 rfl rfl)
  obtain ⟨x2, rfl, rfl, rfl, m2⟩ := open_int Tryd.underlying5 (hval 2 5 v2 rfl rfl) h2
  have h1' := h1
  obtain ⟨fuel, hf⟩ := h1
  obtain ⟨ps, rfl, hps, hwf⟩ := places_open hf
  obtain ⟨b0, b1⟩ := byte_of_wf m2
  have hk := kc_of_laid hL
  simp only [List.append_nil, List.nil_append] at hW'
  have hlt : ∀ x ∈ p1, x.block < W.heap.size := fun x hx => hW'.lt x (by simp [hx])
  rw [bvi b0 b1]
  refine (changes_any x0 a1 c1 ps (UInt8.ofNat x2.toNat) W z0 hwf hps hk).mono fun e W' ⟨he, hg⟩ => ?_
  subst he
  have hB := below_of hg
  rw [bvi b0 b1] at hW'
  refine ⟨_, rfl, _, _, _, [], [] ++ (p1 ++ []), [], hW', trodAll_mk1 (shut_bool Tryd.underlying4 _), ?_, rfl, hB.frame _, fun h => by cases h⟩
  have t1 := Below.trod (t := 31) laidOut (by kernel_rfl) (of_decide_eq_true (by kernel_rfl)) h1' hB hlt
  rw [← bvi b0 b1]
  exact trodAll_mk3 (ChangeMaps.shut_string Tryd.underlying9 m0) t1 (shut_int Tryd.underlying5 m2)

theorem changes_row : Rows.NameChangesSaid :=
  OpenClaim.holds_of_wide 5 Tryd.f5 rfl rfl rfl rfl rfl rfl rfl ⟨rfl, rfl, rfl, rfl, rfl⟩ rfl rfl rfl rfl rfl (by kernel_rfl) Tryd.func5 (by kernel_rfl)
    (of_decide_eq_true (by kernel_rfl)) (by unfold Func.isWrapper; first | (rw [if_pos (by decide +kernel)]; kernel_rfl) | (rw [if_neg (by decide +kernel)]; exact ⟨rfl, rfl⟩))
    (fun os started H enc _ => changes_lifted os started H enc)

theorem changes_holds : Rows.NameChangesCardSaid :=
  Claim7.holds_tied_plain_at .later [] [.data] true (true, "8ccd8c7bdca0b7da6f37dcc5573fbc40789c96085cec8ac8845b3b42c62dc081") false
    changes_row (fun _ h => by cases h) (by kernel_rfl) (fun _ h => by cases h) nameChanges_row_tie rfl ⟨rfl, rfl⟩ (by kernel_rfl) rfl
    (fun f fn hf hfn => by
      obtain rfl : f = 5 := Option.some.inj ((show Tryd.prog.funcNamed "joust/joustlaw06.NameChanges" = some 5 by kernel_rfl).symm.trans hf) |>.symm
      obtain rfl : fn = Tryd.f5 := (Option.some.inj (Tryd.func5.symm.trans hfn)).symm
      exact ⟨by kernel_rfl, fun j t ht => by
        rw [Tryd.params5] at ht
        have hm : t ∈ [9, 31, 5] := by simpa using Array.mem_of_getElem? ht
        have hall : ([9, 31, 5].all fun u => !Tryd.prog.wantsStandIn u) = true := by kernel_rfl
        exact (show Tryd.prog.wantsStandIn t = false by simpa using List.all_eq_true.1 hall t hm)⟩)
    (by kernel_rfl)
#print axioms changes_holds
end Go.Proofs.YthhpbonacefmaaaDoor
