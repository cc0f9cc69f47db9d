import Derived.Test.YtjbkoablleneeaaGreatDoorX31
import Derived.Test.YtjbkoablleneeaaGreatDoorTie
import Derived.Test.YtjbkoablleneeaaGreatDoorCards
import Derived.SevenTiedAt
import Derived.Deep.DeepHandedRow
import Derived.JoinedCond
import Derived.LaidMore
/- BookBytes, the second form: the row and its card. -/
namespace Go.Proofs.YtjbkoablleneeaaGreatDoor
open Go Go.ChangeShapes Go.WideShapes Go.ChangeAt Go.RowKit Pk
open Go.ChangeMaps (open_string shut_string)

set_option maxRecDepth 100000 in
theorem bytes_contract (H : Type) (enc : TypeId × Value → H) (W : World) (base : Nat) (args : Array Value) (ds gs : List (DataW H)) (before : List MemPlace)
    (hval : ∀ (j : Nat) t v, Tryz.f3.params[j]? = some t → args[j]? = some v → Value.okWide Tryz.prog W .any base t v)
    (hW : DataW.Whole enc Tryz.prog Tryz.f3.params.toList Rows.bookBytesSpec.vars false W args.toList ds gs before) (hk : Rows.uptoSmall H (ds ++ gs) = true) (hL : laidMetH Tryz.prog Rows.bookBytesUptoRow.laid W) :
    Calls Tryz.prog 3 args W fun e W' => ∃ v, e = .returned v ∧ Rows.bookBytesSpec.post enc Tryz.prog Tryz.f3 false true false false W args v W' := by
  have hW' := hW
  obtain ⟨p, q, hA0, hV, rfl, hfz, hnd⟩ := hW
  have hA : DataW.TrodAll enc Tryz.prog W 0 (fun _ => true) true Tryz.f3.params.toList args.toList ds p := hA0
  rw [Tryz.params3] at hA hval
  obtain ⟨v0, v1, d0, d1, p0, p1, rfl, rfl, rfl, h0, h1⟩ := trodAll_two hA
  obtain ⟨rfl, rfl⟩ := trodVars_none hV
  have k0 := h0
  have k1 := h1
  obtain ⟨fuel0, hf0⟩ := h0
  obtain ⟨fuel1, hf1⟩ := h1
  have hbk : Rows.uptoBulkAll [d0, d1] ≤ 1048576 := by
    rw [List.append_nil] at hk
    exact of_decide_eq_true hk
  simp only [Rows.uptoBulkAll] at hbk
  obtain ⟨a0, n0, c0, rfl⟩ := okWide_slice Tryz.underlying22 (hval 0 22 v0 rfl rfl)
  obtain ⟨L, ⟨a, cap, ev, ho⟩, hok, hd⟩ := ent_open hf0
  obtain ⟨hl, ht⟩ := ent_bulk hd (by omega)
  obtain ⟨at_, by_, more, rfl, ha1, ha2, hm⟩ := tur_open (hval 1 24 v1 rfl rfl) hf1
  injection ev with e1 e2 e3
  subst e1 e3
  have hcap : n0 ≤ c0 ∧ (a0 = none → c0 = 0) := by
    rcases Deep.open_slice Tryz.underlying22 hf0 with ⟨hcs, _⟩ | ⟨a, len, cap, m, n, D, Pl, hcs, _, hl', _⟩
    · have e : Value.slice a0 n0 c0 = Value.slice none 0 0 := by simpa [Value.cells] using hcs
      injection e with z1 z2 z3
      subst z1 z2 z3
      exact ⟨Nat.le_refl _, fun _ => rfl⟩
    · have e : Value.slice a0 n0 c0 = Value.slice (some a) len cap := by simpa [Value.cells] using hcs
      injection e with z1 z2 z3
      subst z1 z2 z3
      exact ⟨hl', fun h => by cases h⟩
  have hE : Es W a0 n0 c0 L := ⟨e2.symm, hcap.1, fun h => ho (by omega)⟩
  have hwk := all_of_laid hL
  clear hA0
  simp only [List.append_nil] at hW'
  refine (Pk.bytes_c a0 n0 c0 L W at_ by_ more hE hcap.2 hok hwk (by omega) ht (by omega) ha1 ha2).mono fun e W' ⟨he, hg⟩ => ?_
  subst he
  have hB := Pk.below_of hg
  have hlt0 : ∀ x ∈ p0, x.block < W.heap.size := fun x hx => hW'.lt x (by simp [hx])
  have hlt1 : ∀ x ∈ p1, x.block < W.heap.size := fun x hx => hW'.lt x (by simp [hx])
  have t0 := Below.trod (t := 22) Pk.laidOut (by kernel_rfl) (of_decide_eq_true (by kernel_rfl)) k0 hB hlt0
  have t1 := Below.trod (t := 24) Pk.laidOut (by kernel_rfl) (of_decide_eq_true (by kernel_rfl)) k1 hB hlt1
  exact ⟨_, rfl, _, _, _, [], p0 ++ p1, [], hW', trodAll_mk1 (shut_bool Tryz.underlying4 _), trodAll_mk2 t0 t1, rfl, hB.frame _, fun h => by cases h⟩

set_option maxRecDepth 100000 in
theorem bytes_reads (os : Os) {H : Type} (enc : TypeId × Value → H) : ∃ places, DataW.whole enc Tryz.prog ((World.doorLaid Tryz.prog 400 os).forCall (fun _ _ => 0) ⟨#[], #[.slice none 0 0, Value.agg #[.int .i64 0, .int .u8 0, .string ⟨#[]⟩]], []⟩).memory Tryz.f3.params.toList Rows.bookBytesSpec.vars false (#[.slice none 0 0, Value.agg #[.int .i64 0, .int .u8 0, .string ⟨#[]⟩]] : Array Value).toList 8 = some ([.nil, .agg [.lit (.int .i64 0), .lit (.int .u8 0), .lit (.string [])]], [], places) :=
  ⟨[], by kernel_rfl⟩
set_option maxRecDepth 100000 in
theorem bytes_met (os : Os) : laidMet Tryz.prog Rows.bookBytesUptoRow.laid ((World.doorLaid Tryz.prog 400 os).forCall (fun _ _ => 0) ⟨#[], #[.slice none 0 0, Value.agg #[.int .i64 0, .int .u8 0, .string ⟨#[]⟩]], []⟩).memory :=
  laidMet_of_run' 8 (by kernel_rfl) (by kernel_rfl)

set_option maxRecDepth 100000 in
theorem bytes_lifted (os : Os) (started : os.Started) (H : Type) (enc : TypeId × Value → H) (F : Stop.Interp) :
    ReturnsInHanded {} Tryz.checked os 3 .any ((Rows.OpenSpec.upto Rows.bookBytesSpec).preRow enc Tryz.prog Tryz.f3 Rows.bookBytesUptoRow.domain false Rows.bookBytesUptoRow.laid) (((Rows.OpenSpec.upto Rows.bookBytesSpec).at F).post enc Tryz.prog Tryz.f3 false true false false) := by
  obtain ⟨places, hx⟩ := bytes_reads os enc
  refine returnsInHanded_of_row (C := Tryz.checked) (s := Rows.OpenSpec.upto Rows.bookBytesSpec) Pk.own started (by kernel_rfl) Tryz.func3
    (witness_row_at (enc := enc) (C := Tryz.checked) false (World.doorLaid Tryz.prog 400 os) #[.slice none 0 0, Value.agg #[.int .i64 0, .int .u8 0, .string ⟨#[]⟩]] rfl (by kernel_rfl) (by kernel_rfl) (by kernel_rfl)
      (OpenSpec.preRow_of_cond 8 hx (by kernel_rfl) (fun k hk => by cases hk; kernel_rfl) (by kernel_rfl) (bytes_met os))) ?_
  intro W base args ds gs before hval hW _ hcond _ hL _ _
  exact bytes_contract H enc W base args ds gs before hval hW (hcond _ rfl) hL

set_option maxRecDepth 100000 in
theorem bytes_row : Rows.BookBytesUptoSaid :=
  OpenClaim.holds_of_cond 3 Tryz.f3 rfl rfl rfl rfl rfl rfl rfl ⟨rfl, rfl, rfl, rfl, rfl⟩ rfl rfl rfl rfl rfl (by kernel_rfl) Tryz.func3 (by kernel_rfl)
    (of_decide_eq_true (by kernel_rfl)) (by unfold Func.isWrapper; first | (rw [if_pos (by decide +kernel)]; kernel_rfl) | (rw [if_neg (by decide +kernel)]; exact ⟨rfl, rfl⟩))
    (fun os started H enc _ F => by rw [OpenClaim.pre_eq_preRow]; exact bytes_lifted os started H enc F)

set_option maxRecDepth 100000 in
theorem bytes_holds : Rows.BookBytesUptoCardSaid :=
  Claim7.holds_tied_plain_at .later [] [.data, .data, .data, .data] true (true, "8d3f8a00d1ecf343086a7dbc55cf83a68d4db35e422a621f604ad359226a7c7e") true
    bytes_row (fun _ h => by cases h) (by kernel_rfl) (fun _ h => by cases h) bookBytesUpto_row_tie rfl ⟨rfl, rfl⟩ (by kernel_rfl) rfl
    (fun f fn hf hfn => by
      obtain rfl : f = 3 := Option.some.inj ((show Tryz.prog.funcNamed "joust/joustlaw19.BookBytes" = some 3 by kernel_rfl).symm.trans hf) |>.symm
      obtain rfl : fn = Tryz.f3 := (Option.some.inj (Tryz.func3.symm.trans hfn)).symm
      exact ⟨by kernel_rfl, fun j t ht => by
        rw [Tryz.params3] at ht
        have hm : t ∈ [22, 24] := by simpa using Array.mem_of_getElem? ht
        have hall : ([22, 24].all fun u => !Tryz.prog.wantsStandIn u) = true := by kernel_rfl
        exact (show Tryz.prog.wantsStandIn t = false by simpa using List.all_eq_true.1 hall t hm)⟩)
    (by kernel_rfl)
#print axioms bytes_holds
end Go.Proofs.YtjbkoablleneeaaGreatDoor

