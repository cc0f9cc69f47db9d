import Derived.Test.YtplcicbpkbamnabGreatDoorX32
import Derived.Test.YtplcicbpkbamnabGreatDoorX47
import Derived.Test.YtplcicbpkbamnabGreatDoorTie
import Derived.Test.YtplcicbpkbamnabGreatDoorCards
import Derived.SevenTiedAt
import Derived.Deep.DeepHandedRow
import Derived.JoinedCond
import Derived.LaidMore
/- LobbyPlays, the second form: the row and its card. -/
namespace Go.Proofs.YtplcicbpkbamnabGreatDoor
open Go Go.ChangeShapes Go.WideShapes Go.ChangeAt Go.RowKit Lo
open Go.ChangeMaps (open_string shut_string)

set_option maxRecDepth 100000 in
theorem plays_contract (H : Type) (enc : TypeId × Value → H) (W : World) (base : Nat) (args : Array Value) (ds gs : List (DataW H)) (before : List MemPlace)
    (hval : ∀ (j : Nat) t v, Tryz.f3.params[j]? = some t → args[j]? = some v → Value.okWide Tryz.prog W .any base t v)
    (hW : DataW.Whole enc Tryz.prog Tryz.f3.params.toList Rows.lobbyPlaysSpec.vars false W args.toList ds gs before) (hk : Rows.uptoSmall H (ds ++ gs) = true) (hL : laidMetH Tryz.prog Rows.lobbyPlaysUptoRow.laid W) :
    Calls Tryz.prog 3 args W fun e W' => ∃ v, e = .returned v ∧ Rows.lobbyPlaysSpec.post enc Tryz.prog Tryz.f3 false true false false W args v W' := by
  have hW' := hW
  obtain ⟨p, q, hA0, hV, rfl, hfz, hnd⟩ := hW
  have hA : DataW.TrodAll enc Tryz.prog W 0 (fun _ => true) true Tryz.f3.params.toList args.toList ds p := hA0
  rw [Tryz.params3] at hA hval
  obtain ⟨v0, v1, v2, d0, d1, d2, p0, p1, p2, rfl, rfl, rfl, h0, h1, h2⟩ := trodAll_three hA
  obtain ⟨rfl, rfl⟩ := trodVars_none hV
  have k0 := h0
  have k1 := h1
  have k2 := h2
  obtain ⟨fuel0, hf0⟩ := h0
  obtain ⟨fuel1, hf1⟩ := h1
  obtain ⟨fuel2, hf2⟩ := h2
  have hbk : Rows.uptoBulkAll [d0, d1, d2] ≤ 1048576 := by
    rw [List.append_nil] at hk
    exact of_decide_eq_true hk
  simp only [Rows.uptoBulkAll] at hbk
  obtain ⟨c, u, n, y, rfl, hfa, _, hby⟩ := cfg_acc (hval 0 24 v0 rfl rfl) hf0
  obtain ⟨P, ho1, hz1, hd1⟩ := acc_open (d := y.1) (pl := y.2) hfa
  obtain ⟨hl1, hx1⟩ := acc_bulk hd1 (by omega)
  have hin : InR W u P := ⟨ho1, fun x hx => ⟨by have := (hx1 x hx).1; omega, by have := (hx1 x hx).2; omega⟩⟩
  obtain ⟨c', u', n', y', rfl, hfb, _, hby'⟩ := cfg_acc (hval 1 24 v1 rfl rfl) hf1
  obtain ⟨P', ho2, hz2, hd2⟩ := acc_open (d := y'.1) (pl := y'.2) hfb
  obtain ⟨hl2, hx2⟩ := acc_bulk hd2 (by omega)
  have hin' : InR W u' P' := ⟨ho2, fun x hx => ⟨by have := (hx2 x hx).1; omega, by have := (hx2 x hx).2; omega⟩⟩
  obtain ⟨a2, n2, cp2, rfl⟩ := okWide_slice Tryz.underlying25 (hval 2 25 v2 rfl rfl)
  obtain ⟨L, ho, hnum, hd3⟩ := scr_open hf2
  have hsb := scr_bulk hd3 (by omega)
  have hok : ∀ x ∈ L, OpOk x := fun x hx => by
    obtain ⟨q1, q2, q3, q4⟩ := hsb x hx
    exact ⟨by omega, by omega, by omega, by omega, (hnum x hx).ses, (hnum x hx).seq, (hnum x hx).tick⟩
  have hs : SrO W (.slice a2 n2 cp2) L := ⟨ho, hok⟩
  have hos : ∀ x ∈ L, OpS x := fun x hx => ⟨hok x hx, (hsb x hx).2.2.2, (hsb x hx).2.1, (hsb x hx).2.2.1⟩
  obtain ⟨hkc, hkn, hkr, hkh⟩ := all_of_laid hL
  clear hA0
  simp only [List.append_nil] at hW'
  refine (Lo.lplays_c W c c' u u' (.slice a2 n2 cp2) P P' L hin hz1 (fun x hx => (hx1 x hx).1) hin' hz2 (fun x hx => (hx2 x hx).1) hs hos ⟨hkn, hkc, hkr, hkh⟩).mono fun e W' ⟨he, hg⟩ => ?_
  subst he
  have hB := Lo.below_of hg
  have hlt0 : ∀ x ∈ p0, x.block < W.heap.size := fun x hx => hW'.lt x (by simp [hx])
  have hlt1 : ∀ x ∈ p1, x.block < W.heap.size := fun x hx => hW'.lt x (by simp [hx])
  have hlt2 : ∀ x ∈ p2, x.block < W.heap.size := fun x hx => hW'.lt x (by simp [hx])
  have t0 := Below.trod (t := 24) Lo.laidOut (by kernel_rfl) (of_decide_eq_true (by kernel_rfl)) k0 hB hlt0
  have t1 := Below.trod (t := 24) Lo.laidOut (by kernel_rfl) (of_decide_eq_true (by kernel_rfl)) k1 hB hlt1
  have t2 := Below.trod (t := 25) Lo.laidOut (by kernel_rfl) (of_decide_eq_true (by kernel_rfl)) k2 hB hlt2
  exact ⟨_, rfl, _, _, _, [], p0 ++ (p1 ++ p2), [], hW', trodAll_mk1 (shut_bool Tryz.underlying4 _), trodAll_mk3 t0 t1 t2, rfl, hB.frame _, fun h => by cases h⟩

set_option maxRecDepth 100000 in
theorem plays_reads (os : Os) {H : Type} (enc : TypeId × Value → H) : ∃ places, DataW.whole enc Tryz.prog ((World.doorLaid Tryz.prog 400 os).forCall (fun _ _ => 0) ⟨#[], #[Value.agg #[.int .i64 0, .int .i64 0, .int .i64 0, .int .i64 0, .int .i64 0, .int .i64 0, .int .i64 0, .int .i64 0, .int .i64 0, .int .i64 0, .string ⟨#[]⟩, .string ⟨#[]⟩, .slice none 0 0], Value.agg #[.int .i64 0, .int .i64 0, .int .i64 0, .int .i64 0, .int .i64 0, .int .i64 0, .int .i64 0, .int .i64 0, .int .i64 0, .int .i64 0, .string ⟨#[]⟩, .string ⟨#[]⟩, .slice none 0 0], .slice none 0 0], []⟩).memory Tryz.f3.params.toList Rows.lobbyPlaysSpec.vars false (#[Value.agg #[.int .i64 0, .int .i64 0, .int .i64 0, .int .i64 0, .int .i64 0, .int .i64 0, .int .i64 0, .int .i64 0, .int .i64 0, .int .i64 0, .string ⟨#[]⟩, .string ⟨#[]⟩, .slice none 0 0], Value.agg #[.int .i64 0, .int .i64 0, .int .i64 0, .int .i64 0, .int .i64 0, .int .i64 0, .int .i64 0, .int .i64 0, .int .i64 0, .int .i64 0, .string ⟨#[]⟩, .string ⟨#[]⟩, .slice none 0 0], .slice none 0 0] : Array Value).toList 8 = some ([.agg [.lit (.int .i64 0), .lit (.int .i64 0), .lit (.int .i64 0), .lit (.int .i64 0), .lit (.int .i64 0), .lit (.int .i64 0), .lit (.int .i64 0), .lit (.int .i64 0), .lit (.int .i64 0), .lit (.int .i64 0), .lit (.string []), .lit (.string []), .nil], .agg [.lit (.int .i64 0), .lit (.int .i64 0), .lit (.int .i64 0), .lit (.int .i64 0), .lit (.int .i64 0), .lit (.int .i64 0), .lit (.int .i64 0), .lit (.int .i64 0), .lit (.int .i64 0), .lit (.int .i64 0), .lit (.string []), .lit (.string []), .nil], .nil], [], places) :=
  ⟨[], by kernel_rfl⟩
set_option maxRecDepth 100000 in
theorem plays_met (os : Os) : laidMet Tryz.prog Rows.lobbyPlaysUptoRow.laid ((World.doorLaid Tryz.prog 400 os).forCall (fun _ _ => 0) ⟨#[], #[Value.agg #[.int .i64 0, .int .i64 0, .int .i64 0, .int .i64 0, .int .i64 0, .int .i64 0, .int .i64 0, .int .i64 0, .int .i64 0, .int .i64 0, .string ⟨#[]⟩, .string ⟨#[]⟩, .slice none 0 0], Value.agg #[.int .i64 0, .int .i64 0, .int .i64 0, .int .i64 0, .int .i64 0, .int .i64 0, .int .i64 0, .int .i64 0, .int .i64 0, .int .i64 0, .string ⟨#[]⟩, .string ⟨#[]⟩, .slice none 0 0], .slice none 0 0], []⟩).memory :=
  laidMet_of_run' 8 (by kernel_rfl) (by kernel_rfl)

set_option maxRecDepth 100000 in
theorem plays_lifted (os : Os) (started : os.Started) (H : Type) (enc : TypeId × Value → H) (F : Stop.Interp) :
    ReturnsInHanded {} Tryz.checked os 3 .any ((Rows.OpenSpec.upto Rows.lobbyPlaysSpec).preRow enc Tryz.prog Tryz.f3 Rows.lobbyPlaysUptoRow.domain false Rows.lobbyPlaysUptoRow.laid) (((Rows.OpenSpec.upto Rows.lobbyPlaysSpec).at F).post enc Tryz.prog Tryz.f3 false true false false) := by
  obtain ⟨places, hx⟩ := plays_reads os enc
  refine returnsInHanded_of_row (C := Tryz.checked) (s := Rows.OpenSpec.upto Rows.lobbyPlaysSpec) Lo.own started (by kernel_rfl) Tryz.func3
    (witness_row_at (enc := enc) (C := Tryz.checked) false (World.doorLaid Tryz.prog 400 os) #[Value.agg #[.int .i64 0, .int .i64 0, .int .i64 0, .int .i64 0, .int .i64 0, .int .i64 0, .int .i64 0, .int .i64 0, .int .i64 0, .int .i64 0, .string ⟨#[]⟩, .string ⟨#[]⟩, .slice none 0 0], Value.agg #[.int .i64 0, .int .i64 0, .int .i64 0, .int .i64 0, .int .i64 0, .int .i64 0, .int .i64 0, .int .i64 0, .int .i64 0, .int .i64 0, .string ⟨#[]⟩, .string ⟨#[]⟩, .slice none 0 0], .slice none 0 0] rfl (by kernel_rfl) (by kernel_rfl) (by kernel_rfl)
      (OpenSpec.preRow_of_cond 8 hx (by kernel_rfl) (fun k hk => by cases hk; kernel_rfl) (by kernel_rfl) (plays_met os))) ?_
  intro W base args ds gs before hval hW _ hcond _ hL _ _
  exact plays_contract H enc W base args ds gs before hval hW (hcond _ rfl) hL

set_option maxRecDepth 100000 in
theorem plays_row : Rows.LobbyPlaysUptoSaid :=
  OpenClaim.holds_of_cond 3 Tryz.f3 rfl rfl rfl rfl rfl rfl rfl ⟨rfl, rfl, rfl, rfl, rfl⟩ rfl rfl rfl rfl rfl (by kernel_rfl) Tryz.func3 (by kernel_rfl)
    (of_decide_eq_true (by kernel_rfl)) (by unfold Func.isWrapper; first | (rw [if_pos (by decide +kernel)]; kernel_rfl) | (rw [if_neg (by decide +kernel)]; exact ⟨rfl, rfl⟩))
    (fun os started H enc _ F => by rw [OpenClaim.pre_eq_preRow]; exact plays_lifted os started H enc F)

set_option maxRecDepth 100000 in
theorem plays_holds : Rows.LobbyPlaysUptoCardSaid :=
  Claim7.holds_tied_plain_at .later [] [.data, .data, .data, .data] true (true, "eb46aa8e24c901e9821c8d99596fd963eee162dcbfcec029d5b1c25e2f283e5a") false
    plays_row (fun _ h => by cases h) (by kernel_rfl) (fun _ h => by cases h) lobbyPlaysUpto_row_tie rfl ⟨rfl, rfl⟩ (by kernel_rfl) rfl
    (fun f fn hf hfn => by
      obtain rfl : f = 3 := Option.some.inj ((show Tryz.prog.funcNamed "joust/joustlaw12.LobbyPlays" = some 3 by kernel_rfl).symm.trans hf) |>.symm
      obtain rfl : fn = Tryz.f3 := (Option.some.inj (Tryz.func3.symm.trans hfn)).symm
      exact ⟨by kernel_rfl, fun j t ht => by
        rw [Tryz.params3] at ht
        have hm : t ∈ [24, 24, 25] := by simpa using Array.mem_of_getElem? ht
        have hall : ([24, 24, 25].all fun u => !Tryz.prog.wantsStandIn u) = true := by kernel_rfl
        exact (show Tryz.prog.wantsStandIn t = false by simpa using List.all_eq_true.1 hall t hm)⟩)
    (by kernel_rfl)
#print axioms plays_holds
end Go.Proofs.YtplcicbpkbamnabGreatDoor

