import Derived.Test.YtldnpebnpbahjaaGreatDoorX32
import Derived.Test.YtldnpebnpbahjaaGreatDoorX33
import Derived.Test.YtldnpebnpbahjaaGreatDoorCK4
import Derived.Test.YtldnpebnpbahjaaGreatDoorTie
import Derived.Test.YtldnpebnpbahjaaGreatDoorCards
import Derived.SevenTiedAt
import Derived.Deep.DeepHandedRow
import Derived.JoinedCond
import Derived.LaidMore
set_option maxRecDepth 100000
set_option maxHeartbeats 4000000
namespace Go.Proofs.YtldnpebnpbahjaaGreatDoor
open Go Go.ChangeShapes Go.WideShapes Go.ChangeAt Go.RowKit Go.Proofs.Tryz
open Go.ChangeMaps (open_string shut_string)
theorem under66 : prog.underlying 66 = some (.slice 73) := underlying66
theorem clientPlays_contract (H : Type) (enc : TypeId × Value → H) (W : World) (base : Nat) (args : Array Value) (ds gs : List (DataW H)) (before : List MemPlace)
    (hval : ∀ (j : Nat) t v, Tryz.f6.params[j]? = some t → args[j]? = some v → Value.okWide prog W .any base t v)
    (hW : DataW.Whole enc prog Tryz.f6.params.toList Rows.clientPlaysSpec.vars false W args.toList ds gs before) (hk : Rows.uptoSmall H (ds ++ gs) = true) (hL : laidMetH prog Rows.clientPlaysUptoRow.laid W) :
    Calls prog 6 args W fun e W' => ∃ v, e = .returned v ∧ Rows.clientPlaysSpec.post enc prog Tryz.f6 false true false false W args v W' := by
  have hW' := hW; obtain ⟨p, q, hA0, hV, rfl, hfz, hnd⟩ := hW; have hA : DataW.TrodAll enc prog W 0 (fun _ => true) true Tryz.f6.params.toList args.toList ds p := hA0; rw [Tryz.params6] at hA hval; obtain ⟨v0, vs0, d0, ds0, p0, q0, hargs, rfl, rfl, h0, r0⟩ := trodAll_cons hA; obtain ⟨v1, vs1, d1, ds1, p1, q1, rfl, rfl, rfl, h1, r1⟩ := trodAll_cons r0; obtain ⟨rfl, rfl, rfl⟩ := trodAll_nil r1; obtain rfl : args = #[v0, v1] := by cases args; simp_all
  obtain ⟨rfl, rfl⟩ := trodVars_none hV
  have hbk : Rows.uptoBulkAll [d0, d1] ≤ 1048576 := by
    rw [List.append_nil] at hk; exact of_decide_eq_true hk
  simp only [Rows.uptoBulkAll] at hbk; have k0 := h0; obtain ⟨fuel0, hf0⟩ := h0; obtain ⟨cs0, rfl, _⟩ := okWide_struct underlying65 (hval 0 65 v0 rfl rfl); simp only [Value.cells] at hf0; obtain ⟨s0, s0', s0'', e0, z0, z0', z0''⟩ := Pk.Sn.side_cells hf0 (by omega); obtain rfl : cs0 = #[.string s0, .string s0', .string s0''] := by cases cs0; simp_all
  have k1 := h1; obtain ⟨fuel1, hf1⟩ := h1; obtain ⟨a1', n1', c1', rfl⟩ := okWide_slice under66 (hval 1 66 v1 rfl rfl); obtain ⟨v1, L1, e1, ⟨a1, c1, ev1, hr1⟩, ok1, _⟩ := Pk.Sn.lst_cells (α := Pk.Sn.Stp) (ec := Pk.Sn.Stp.cs) (k := 39) (Ok := Pk.Sn.StpOk W) under66 Pk.Sn.kcP (by decide) (fun _ => rfl) (fun f cs d' pl' hq hb' => Pk.Sn.st_cells hq (by omega)) hf1; have e1 : Value.slice a1' n1' c1' = v1 := by simpa [Value.cells] using e1
  rw [ev1] at e1; injection e1 with e1 e2 e3
  subst e1 e2 e3; clear ev1; obtain ⟨hkc, hna, hrk, h5⟩ := all_of_laid4 hL; clear hA0; simp only [List.append_nil] at hW'; have hlt0 : ∀ x ∈ p0, x.block < W.heap.size := fun x hx => hW'.lt x (by simp [hx])
  have hlt1 : ∀ x ∈ p1, x.block < W.heap.size := fun x hx => hW'.lt x (by simp [hx])
  refine (Pk.Sn.clientPlays_c s0 s0' s0'' a1' c1' L1 W hkc hna hrk h5 z0 z0' z0'' hr1 ok1).mono fun e W' ⟨he, hg⟩ => ?_
  subst he; have hB := below_of hg; have t0 := Below.trod (t := 65) Pk.Sn.laidOut (by kernel_rfl) (of_decide_eq_true (by kernel_rfl)) k0 hB hlt0; have t1 := Below.trod (t := 66) Pk.Sn.laidOut (by kernel_rfl) (of_decide_eq_true (by kernel_rfl)) k1 hB hlt1; have tA := (trodAll_cons_mk t0 (trodAll_cons_mk t1 trodAll_mk0)); simp only [List.append_nil] at tA; exact ⟨_, rfl, ⟨_, _, _, [], _, [], hW', trodAll_mk1 (shut_bool underlying4 _), tA, rfl, hB.frame _, fun h => by cases h⟩⟩
theorem clientPlays_reads (os : Os) {H : Type} (enc : TypeId × Value → H) : ∃ places, DataW.whole enc prog ((World.doorLaid prog 400 os).forCall (fun _ _ => 0) ⟨#[], #[Value.agg #[.string ⟨#[]⟩, .string ⟨#[]⟩, .string ⟨#[]⟩], .slice none 0 0], []⟩).memory Tryz.f6.params.toList Rows.clientPlaysSpec.vars false (#[Value.agg #[.string ⟨#[]⟩, .string ⟨#[]⟩, .string ⟨#[]⟩], .slice none 0 0] : Array Value).toList 8 = some ([.agg [.agg [.lit (.string []), .lit (.string [])], .lit (.string [])], .nil], [], places) :=
  ⟨[], by kernel_rfl⟩
theorem clientPlays_met (os : Os) : laidMet prog Rows.clientPlaysUptoRow.laid ((World.doorLaid prog 400 os).forCall (fun _ _ => 0) ⟨#[], #[Value.agg #[.string ⟨#[]⟩, .string ⟨#[]⟩, .string ⟨#[]⟩], .slice none 0 0], []⟩).memory :=
  laidMet_of_run' 8 (by kernel_rfl) (by kernel_rfl)
theorem clientPlays_lifted (os : Os) (started : os.Started) (H : Type) (enc : TypeId × Value → H) (F : Stop.Interp) :
    ReturnsInHanded {} Tryz.checked os 6 .any ((Rows.OpenSpec.upto Rows.clientPlaysSpec).preRow enc prog Tryz.f6 Rows.clientPlaysUptoRow.domain false Rows.clientPlaysUptoRow.laid) (((Rows.OpenSpec.upto Rows.clientPlaysSpec).at F).post enc prog Tryz.f6 false true false false) := by
  obtain ⟨places, hx⟩ := clientPlays_reads os enc
  refine returnsInHanded_of_row (C := Tryz.checked) (s := Rows.OpenSpec.upto Rows.clientPlaysSpec) own started (by kernel_rfl) func6
    (witness_row_at (enc := enc) (C := Tryz.checked) false (World.doorLaid prog 400 os) #[Value.agg #[.string ⟨#[]⟩, .string ⟨#[]⟩, .string ⟨#[]⟩], .slice none 0 0] rfl (by kernel_rfl) (by kernel_rfl) (by kernel_rfl)
      (OpenSpec.preRow_of_cond 8 hx (by kernel_rfl) (fun k hk => by cases hk; kernel_rfl) (by kernel_rfl) (clientPlays_met os))) ?_
  intro W base args ds gs before hval hW _ hcond _ hL _ _; exact clientPlays_contract H enc W base args ds gs before hval hW (hcond _ rfl) hL
theorem clientPlays_row : Rows.ClientPlaysUptoSaid :=
  OpenClaim.holds_of_cond 6 Tryz.f6 rfl rfl rfl rfl rfl rfl rfl ⟨rfl, rfl, rfl, rfl, rfl⟩ rfl rfl rfl rfl rfl (by kernel_rfl) func6 (by kernel_rfl)
    (of_decide_eq_true (by kernel_rfl)) (by unfold Func.isWrapper; first | (rw [if_pos (by decide +kernel)]; kernel_rfl) | (rw [if_neg (by decide +kernel)]; exact ⟨rfl, rfl⟩))
    (fun os started H enc _ F => by rw [OpenClaim.pre_eq_preRow]; exact clientPlays_lifted os started H enc F)
theorem clientPlays_holds : Rows.ClientPlaysUptoCardSaid :=
  Claim7.holds_tied_plain_at .later [] [.data, .data, .data, .data] true (true, "8e32c183d0ac61a882f5765dc51aa2b1e0dd06bedd30c4c1125b221c6fddd826") false
    clientPlays_row (fun _ h => by cases h) (by kernel_rfl) (fun _ h => by cases h) clientPlaysUpto_row_tie rfl ⟨rfl, rfl⟩ (by kernel_rfl) rfl
    (fun f fn hf hfn => by
      obtain rfl : f = 6 := Option.some.inj ((show prog.funcNamed "joust/joustlaw24.ClientPlays" = some 6 by kernel_rfl).symm.trans hf) |>.symm; obtain rfl : fn = Tryz.f6 := (Option.some.inj (func6.symm.trans hfn)).symm
      exact ⟨by kernel_rfl, fun j t ht => by
        rw [Tryz.params6] at ht; (have hm : t ∈ [65, 66] := by simpa using Array.mem_of_getElem? ht); have hall : ([65, 66].all fun u => !prog.wantsStandIn u) = true := by kernel_rfl
        exact (show prog.wantsStandIn t = false by simpa using List.all_eq_true.1 hall t hm)⟩)
    (by kernel_rfl)
#print axioms clientPlays_holds
end Go.Proofs.YtldnpebnpbahjaaGreatDoor
