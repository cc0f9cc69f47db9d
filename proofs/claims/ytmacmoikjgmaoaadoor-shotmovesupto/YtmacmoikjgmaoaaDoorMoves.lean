/- ShotMoves, the second form: the row and its card. -/
import Derived.Test.YtmacmoikjgmaoaaDoorK1
import Derived.Test.YtmacmoikjgmaoaaDoorL6
import Derived.Test.YtmacmoikjgmaoaaDoorK3
import Derived.Test.YtmacmoikjgmaoaaDoorTie
import Derived.Test.YtmacmoikjgmaoaaDoorCards
import Derived.SevenTiedAt
import Derived.Deep.DeepHandedRow
import Derived.JoinedCond
import Derived.LaidMore
namespace Go.Proofs.YtmacmoikjgmaoaaDoor
open Go Go.ChangeShapes Go.WideShapes Go.ChangeAt Go.RowKit Bo
open Go.ChangeMaps (open_string shut_string)

set_option maxRecDepth 100000 in
theorem moves_contract (H : Type) (enc : TypeId × Value → H) (W : World) (base : Nat) (args : Array Value) (ds gs : List (DataW H)) (before : List MemPlace)
    (hval : ∀ (j : Nat) t v, Tryd.f8.params[j]? = some t → args[j]? = some v → Value.okWide Tryd.prog W .any base t v)
    (hW : DataW.Whole enc Tryd.prog Tryd.f8.params.toList Rows.shotMovesSpec.vars false W args.toList ds gs before) (hk : Rows.uptoSmall H (ds ++ gs) = true) (hL : laidMetH Tryd.prog Rows.shotMovesUptoRow.laid W) :
    Calls Tryd.prog 8 args W fun e W' => ∃ v, e = .returned v ∧ Rows.shotMovesSpec.post enc Tryd.prog Tryd.f8 false true false false W args v W' := by
  have hW' := hW
  obtain ⟨p, q, hA0, hV, rfl, hfz, hnd⟩ := hW
  have hA : DataW.TrodAll enc Tryd.prog W 0 (fun _ => true) true Tryd.f8.params.toList args.toList ds p := hA0
  rw [Tryd.params8] at hA hval
  obtain ⟨v0, v1, v2, d0, d1, d2, p0, p1, p2, rfl, rfl, rfl, h0, h1, h2⟩ := trodAll_three hA
  obtain ⟨rfl, rfl⟩ := trodVars_none hV
  obtain ⟨s0, rfl, rfl, rfl, m0⟩ := open_string Tryd.underlying9 (hval 0 9 v0 rfl rfl) h0
  obtain ⟨a1, n1, cp1, rfl⟩ := okWide_slice Tryd.underlying22 (hval 1 22 v1 rfl rfl)
  have k1 := h1
  obtain ⟨fuel1, hf1⟩ := h1
  obtain ⟨u1, q1, hu1, cw1⟩ := crs_cells hf1
  obtain rfl : Value.slice a1 n1 cp1 = u1 := by simpa [Value.cells] using hu1
  have k2 := h2
  obtain ⟨fuel2, hf2⟩ := h2
  obtain ⟨c2, rfl, ok2⟩ := shot_open (hval 2 26 v2 rfl rfl) hf2
  have hbk : Rows.uptoBulkAll [DataW.lit (H := H) (.string s0.data.toList), d1, d2] ≤ 1048576 := by
    rw [List.append_nil] at hk
    exact of_decide_eq_true hk
  simp only [Rows.uptoBulkAll, str_bulk] at hbk
  have cr1 := cw1.upto (by omega)
  have cl1 := cw1.b
  have hkc := kc_of_laid hL
  clear hA0
  simp only [List.append_nil, List.nil_append] at hW'
  refine (moves_c W s0 _ q1 c2 (by omega) cr1 (crs_some hf1) (by omega) ok2 hkc).mono fun e W' ⟨he, hg⟩ => ?_
  subst he
  have hB := below_of hg
  have hlt1 : ∀ x ∈ p1, x.block < W.heap.size := fun x hx => hW'.lt x (by simp [hx])
  have hlt2 : ∀ x ∈ p2, x.block < W.heap.size := fun x hx => hW'.lt x (by simp [hx])
  have t1 := Below.trod (t := 22) laidOut (by kernel_rfl) (of_decide_eq_true (by kernel_rfl)) k1 hB hlt1
  have t2 := Below.trod (t := 26) laidOut (by kernel_rfl) (of_decide_eq_true (by kernel_rfl)) k2 hB hlt2
  refine ⟨_, rfl, ⟨_, _, _, [], [] ++ (p1 ++ (p2)), [], hW', trodAll_mk1 (shut_bool Tryd.underlying4 _), ?_, rfl, hB.frame _, fun h => by cases h⟩⟩
  exact trodAll_mk3 (shut_string Tryd.underlying9 m0) t1 t2

set_option maxRecDepth 100000 in
theorem moves_reads (os : Os) {H : Type} (enc : TypeId × Value → H) : ∃ places, DataW.whole enc Tryd.prog ((World.doorLaid Tryd.prog 400 os).forCall (fun _ _ => 0) ⟨#[], #[Value.string ⟨#[]⟩, .slice none 0 0, .agg #[.int .i64 0, .int .i64 0, .int .i64 0, .int .i64 0, .int .i64 0, .int .i64 0, .int .i64 0]], []⟩).memory Tryd.f8.params.toList Rows.shotMovesSpec.vars false (#[Value.string ⟨#[]⟩, .slice none 0 0, .agg #[.int .i64 0, .int .i64 0, .int .i64 0, .int .i64 0, .int .i64 0, .int .i64 0, .int .i64 0]] : Array Value).toList 8 = some ([.lit (.string []), .nil, .agg [.lit (.int .i64 0), .lit (.int .i64 0), .agg [.lit (.int .i64 0), .lit (.int .i64 0)], .agg [.lit (.int .i64 0), .lit (.int .i64 0)], .lit (.int .i64 0)]], [], places) :=
  ⟨[], by kernel_rfl⟩
set_option maxRecDepth 100000 in
theorem moves_met (os : Os) : laidMet Tryd.prog Rows.shotMovesUptoRow.laid ((World.doorLaid Tryd.prog 400 os).forCall (fun _ _ => 0) ⟨#[], #[Value.string ⟨#[]⟩, .slice none 0 0, .agg #[.int .i64 0, .int .i64 0, .int .i64 0, .int .i64 0, .int .i64 0, .int .i64 0, .int .i64 0]], []⟩).memory :=
  laidMet_of_run' 8 (by kernel_rfl) (by kernel_rfl)

set_option maxRecDepth 100000 in
theorem moves_lifted (os : Os) (started : os.Started) (H : Type) (enc : TypeId × Value → H) (F : Stop.Interp) :
    ReturnsInHanded {} Tryd.checked os 8 .any ((Rows.OpenSpec.upto Rows.shotMovesSpec).preRow enc Tryd.prog Tryd.f8 Rows.shotMovesUptoRow.domain false Rows.shotMovesUptoRow.laid) (((Rows.OpenSpec.upto Rows.shotMovesSpec).at F).post enc Tryd.prog Tryd.f8 false true false false) := by
  obtain ⟨places, hx⟩ := moves_reads os enc
  refine returnsInHanded_of_row (C := Tryd.checked) (s := Rows.OpenSpec.upto Rows.shotMovesSpec) own started (by kernel_rfl) Tryd.func8
    (witness_row_at (enc := enc) (C := Tryd.checked) false (World.doorLaid Tryd.prog 400 os) #[Value.string ⟨#[]⟩, .slice none 0 0, .agg #[.int .i64 0, .int .i64 0, .int .i64 0, .int .i64 0, .int .i64 0, .int .i64 0, .int .i64 0]] rfl (by kernel_rfl) (by kernel_rfl) (by kernel_rfl)
      (OpenSpec.preRow_of_cond 8 hx (by kernel_rfl) (fun k hk => by cases hk; kernel_rfl) (by kernel_rfl) (moves_met os))) ?_
  intro W base args ds gs before hval hW _ hcond _ hL _ _
  exact moves_contract H enc W base args ds gs before hval hW (hcond _ rfl) hL

set_option maxRecDepth 100000 in
theorem moves_row : Rows.ShotMovesUptoSaid :=
  OpenClaim.holds_of_cond 8 Tryd.f8 rfl rfl rfl rfl rfl rfl rfl ⟨rfl, rfl, rfl, rfl, rfl⟩ rfl rfl rfl rfl rfl (by kernel_rfl) Tryd.func8 (by kernel_rfl)
    (of_decide_eq_true (by kernel_rfl)) (by unfold Func.isWrapper; first | (rw [if_pos (by decide +kernel)]; kernel_rfl) | (rw [if_neg (by decide +kernel)]; exact ⟨rfl, rfl⟩))
    (fun os started H enc _ F => by rw [OpenClaim.pre_eq_preRow]; exact moves_lifted os started H enc F)

set_option maxRecDepth 100000 in
theorem moves_holds : Rows.ShotMovesUptoCardSaid :=
  Claim7.holds_tied_plain_at .later [] [.data] true (true, "81817b4f5a1d03472509320ecc5d0b907dd9a2809fa8ce0f265bdbf3f3b2f614") false
    moves_row (fun _ h => by cases h) (by kernel_rfl) (fun _ h => by cases h) shotMovesUpto_row_tie rfl ⟨rfl, rfl⟩ (by kernel_rfl) rfl
    (fun f fn hf hfn => by
      obtain rfl : f = 8 := Option.some.inj ((show Tryd.prog.funcNamed "joust/joustlaw16.ShotMoves" = some 8 by kernel_rfl).symm.trans hf) |>.symm
      obtain rfl : fn = Tryd.f8 := (Option.some.inj (Tryd.func8.symm.trans hfn)).symm
      exact ⟨by kernel_rfl, fun j t ht => by
        rw [Tryd.params8] at ht
        have hm : t ∈ [9, 22, 26] := by simpa using Array.mem_of_getElem? ht
        have hall : ([9, 22, 26].all fun u => !Tryd.prog.wantsStandIn u) = true := by kernel_rfl
        exact (show Tryd.prog.wantsStandIn t = false by simpa using List.all_eq_true.1 hall t hm)⟩)
    (by kernel_rfl)
#print axioms moves_holds
end Go.Proofs.YtmacmoikjgmaoaaDoor
