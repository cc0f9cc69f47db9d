/- MacMemory, the second form: the row and its card. -/
import Derived.Test.YtabiomfgmdnikaaDoorK1
import Derived.Test.YtabiomfgmdnikaaDoorE1
import Derived.Test.YtabiomfgmdnikaaDoorTie
import Derived.Test.YtabiomfgmdnikaaDoorCards
import Derived.SevenTiedAt
import Derived.Deep.DeepHandedRow
namespace Go.Proofs.YtabiomfgmdnikaaDoor
open Go Go.ChangeShapes Go.WideShapes Go.ChangeAt Go.RowKit
open Go.ChangeMaps (open_string shut_string)

theorem strs_nil {H : Type} {enc : TypeId × Value → H} {W : World} {a0 : Option Addr} {n0 c0 fuel : Nat} {d : DataW H} {pl : List MemPlace} (hf : DataW.trod enc Tryd.prog W 0 (fun _ => true) true fuel 29 (Value.slice a0 n0 c0).cells.toList = some (d, pl)) : a0 = none → c0 = 0 := by
  rcases Deep.open_strs under29 under9 cells9 hf with ⟨hcs, _⟩ | ⟨a, len, cap, m, Sx, hcs, _⟩
  · have e : Value.slice a0 n0 c0 = Value.slice none 0 0 := by simpa [Value.cells] using hcs
    injection e with e1 e2 e3
    intro _; exact e3
  · have e : Value.slice a0 n0 c0 = Value.slice (some a) len cap := by simpa [Value.cells] using hcs
    injection e with e1 e2 e3
    intro h; rw [h] at e1; cases e1

theorem mem_contract (H : Type) (enc : TypeId × Value → H) (W : World) (base : Nat) (args : Array Value) (ds gs : List (DataW H)) (before : List MemPlace)
    (hval : ∀ (j : Nat) t v, Tryd.f6.params[j]? = some t → args[j]? = some v → Value.okWide Tryd.prog W .any base t v)
    (hW : DataW.Whole enc Tryd.prog Tryd.f6.params.toList Rows.macMemorySpec.vars false W args.toList ds gs before) (hk : Rows.uptoSmall H (ds ++ gs) = true) (hL : laidMetH Tryd.prog Rows.macMemoryUptoRow.laid W) :
    Calls Tryd.prog 6 args W fun e W' => ∃ v, e = .returned v ∧ Rows.macMemorySpec.post enc Tryd.prog Tryd.f6 false true false false W args v W' := by
  have hW' := hW
  obtain ⟨p, q, hA0, hV, rfl, hfz, hnd⟩ := hW
  have hA : DataW.TrodAll enc Tryd.prog W 0 (fun _ => true) true Tryd.f6.params.toList args.toList ds p := hA0
  rw [Tryd.params6] at hA hval
  obtain ⟨v0, v1, d0, d1, p0, p1, rfl, rfl, rfl, h0, h1⟩ := trodAll_two hA
  obtain ⟨rfl, rfl⟩ := trodVars_none hV
  obtain ⟨s0, rfl, rfl, rfl, m0⟩ := open_string Tryd.underlying9 (hval 0 9 v0 rfl rfl) h0
  obtain ⟨a1, n1, c1, rfl⟩ := okWide_slice under29 (hval 1 29 v1 rfl rfl)
  have h1' := h1
  obtain ⟨fuel1, hf1⟩ := h1
  obtain ⟨q1, hps1, hfl1⟩ := strs_open hf1
  have hnil := strs_nil hf1
  have hbk : Rows.uptoBulkAll [DataW.lit (H := H) (.string s0.data.toList), d1] ≤ 1048576 := by
    rw [List.append_nil] at hk
    exact of_decide_eq_true hk
  simp only [Rows.uptoBulkAll, str_bulk] at hbk
  have hkc := kc_of_laid hL
  have hus : useB.size = 3 := rfl
  have hs1 : (saidB useB q1).size ≤ 1073741824 := by
    rw [saidB_size]
    simp only [Mac.said, List.length_append, List.length_cons, sl_len]
    omega
  clear hA0
  simp only [List.append_nil, List.nil_append] at hW'
  have hlt : ∀ x ∈ p1, x.block < W.heap.size := fun x hx => hW'.lt x hx
  refine (mmem_any s0 a1 n1 c1 q1 W hkc hps1 hnil (by omega) hs1).mono fun e W' ⟨he, hg⟩ => ?_
  subst he
  have hB := below_of hg
  refine ⟨_, rfl, ⟨_, _, _, [], [] ++ p1, [], hW', trodAll_mk1 (shut_bool Tryd.underlying4 _), ?_, rfl, hB.frame _, fun h => by cases h⟩⟩
  have t1 := Below.trod (t := 29) laidOut (by kernel_rfl) (of_decide_eq_true (by kernel_rfl)) h1' hB hlt
  exact trodAll_mk2 (shut_string Tryd.underlying9 m0) t1

theorem mem_reads (os : Os) {H : Type} (enc : TypeId × Value → H) : ∃ places, DataW.whole enc Tryd.prog ((World.doorLaid Tryd.prog 400 os).forCall (fun _ _ => 0) ⟨#[], #[.string ⟨#[]⟩, .slice none 0 0], []⟩).memory Tryd.f6.params.toList Rows.macMemorySpec.vars false (#[Value.string ⟨#[]⟩, .slice none 0 0] : Array Value).toList 8 = some ([.lit (.string []), .nil], [], places) :=
  ⟨[], by kernel_rfl⟩
theorem mem_met (os : Os) : laidMet Tryd.prog Rows.macMemoryUptoRow.laid ((World.doorLaid Tryd.prog 400 os).forCall (fun _ _ => 0) ⟨#[], #[.string ⟨#[]⟩, .slice none 0 0], []⟩).memory :=
  laidMet_of_run' 8 (by kernel_rfl) (by kernel_rfl)

set_option maxRecDepth 100000 in
theorem mem_lifted (os : Os) (started : os.Started) (H : Type) (enc : TypeId × Value → H) (F : Stop.Interp) :
    ReturnsInHanded {} Tryd.checked os 6 .any ((Rows.OpenSpec.upto Rows.macMemorySpec).preRow enc Tryd.prog Tryd.f6 Rows.macMemoryUptoRow.domain false Rows.macMemoryUptoRow.laid) (((Rows.OpenSpec.upto Rows.macMemorySpec).at F).post enc Tryd.prog Tryd.f6 false true false false) := by
  obtain ⟨places, hx⟩ := mem_reads os enc
  refine returnsInHanded_of_row (C := Tryd.checked) (s := Rows.OpenSpec.upto Rows.macMemorySpec) own started (by kernel_rfl) Tryd.func6
    (witness_row_at (enc := enc) (C := Tryd.checked) false (World.doorLaid Tryd.prog 400 os) #[.string ⟨#[]⟩, .slice none 0 0] rfl (by kernel_rfl) (by kernel_rfl) (by kernel_rfl)
      (OpenSpec.preRow_of_cond 8 hx (by kernel_rfl) (fun k hk => by cases hk; kernel_rfl) (by kernel_rfl) (mem_met os))) ?_
  intro W base args ds gs before hval hW _ hcond _ hL _ _
  exact mem_contract H enc W base args ds gs before hval hW (hcond _ rfl) hL

theorem mem_row : Rows.MacMemoryUptoSaid :=
  OpenClaim.holds_of_cond 6 Tryd.f6 rfl rfl rfl rfl rfl rfl rfl ⟨rfl, rfl, rfl, rfl, rfl⟩ rfl rfl rfl rfl rfl (by kernel_rfl) Tryd.func6 (by kernel_rfl)
    (of_decide_eq_true (by kernel_rfl)) (by unfold Func.isWrapper; first | (rw [if_pos (by decide +kernel)]; kernel_rfl) | (rw [if_neg (by decide +kernel)]; exact ⟨rfl, rfl⟩))
    (fun os started H enc _ F => by rw [OpenClaim.pre_eq_preRow]; exact mem_lifted os started H enc F)

theorem mem_holds : Rows.MacMemoryUptoCardSaid :=
  Claim7.holds_tied_plain_at .later [] [.data] true (true, "dc6009e50a457e1c972dd1b06df61c01104041a34702692b9ecffe281563eae1") false
    mem_row (fun _ h => by cases h) (by kernel_rfl) (fun _ h => by cases h) macMemoryUpto_row_tie rfl ⟨rfl, rfl⟩ (by kernel_rfl) rfl
    (fun f fn hf hfn => by
      obtain rfl : f = 6 := Option.some.inj ((show Tryd.prog.funcNamed "joust/joustlaw02.MacMemory" = some 6 by kernel_rfl).symm.trans hf) |>.symm
      obtain rfl : fn = Tryd.f6 := (Option.some.inj (Tryd.func6.symm.trans hfn)).symm
      exact ⟨by kernel_rfl, fun j t ht => by
        rw [Tryd.params6] at ht
        have hm : t ∈ [9, 29] := by simpa using Array.mem_of_getElem? ht
        have hall : ([9, 29].all fun u => !Tryd.prog.wantsStandIn u) = true := by kernel_rfl
        exact (show Tryd.prog.wantsStandIn t = false by simpa using List.all_eq_true.1 hall t hm)⟩)
    (by kernel_rfl)
#print axioms mem_holds
end Go.Proofs.YtabiomfgmdnikaaDoor
