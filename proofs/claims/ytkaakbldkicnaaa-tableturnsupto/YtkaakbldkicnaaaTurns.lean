/- TableTurns, the second form: the row. -/
import Derived.Test.YtkaakbldkicnaaaK0
import Derived.Test.YtkaakbldkicnaaaL4b
namespace Go.Proofs.Ytkaakbldkicnaaa
open Go Go.ChangeShapes Go.WideShapes Go.ChangeAt Go.RowKit

theorem bulk_mem {H : Type} : ∀ (xs : List ByteArray), xs.length ≤ Rows.uptoBulkAll (xs.map (strD (H := H))) ∧ ∀ x ∈ xs, x.size ≤ Rows.uptoBulkAll (xs.map (strD (H := H)))
  | [] => ⟨Nat.zero_le _, fun x h => by cases h⟩
  | y :: r => by
    obtain ⟨h1, h2⟩ := bulk_mem (H := H) r
    have e : y.data.toList.length = y.size := sl_len y
    simp only [List.map_cons, Rows.uptoBulkAll, strD, Rows.uptoBulk, List.length_cons, e] at h1 h2 ⊢
    refine ⟨by omega, fun x hx => ?_⟩
    rcases List.mem_cons.1 hx with rfl | hx
    · omega
    · have := h2 x hx; omega
theorem strs_bulk {H : Type} {d : DataW H} {xs : List ByteArray} (h : d = .nil ∧ xs = [] ∨ ∃ spare, d = .slice (xs.map strD) spare) : xs.length ≤ Rows.uptoBulk d ∧ ∀ x ∈ xs, x.size ≤ Rows.uptoBulk d := by
  rcases h with ⟨rfl, rfl⟩ | ⟨sp, rfl⟩
  · exact ⟨Nat.zero_le _, fun x h => by cases h⟩
  · obtain ⟨h1, h2⟩ := bulk_mem (H := H) xs
    simp only [Rows.uptoBulk]
    exact ⟨by omega, fun x hx => by have := h2 x hx; omega⟩
theorem turns_contract (H : Type) (enc : TypeId × Value → H) (W : World) (base : Nat) (args : Array Value) (ds gs : List (DataW H)) (before : List MemPlace)
    (hval : ∀ (j : Nat) t v, Try.f5.params[j]? = some t → args[j]? = some v → Value.okWide Try.prog W .any base t v)
    (hW : DataW.Whole enc Try.prog Try.f5.params.toList Rows.tableTurnsSpec.vars false W args.toList ds gs before) (hk : Rows.uptoSmall H (ds ++ gs) = true) :
    Calls Try.prog 5 args W fun e W' => ∃ v, e = .returned v ∧ Rows.tableTurnsSpec.post enc Try.prog Try.f5 false true false false W args v W' := by
  have hW' := hW
  obtain ⟨p, q, hA0, hV, rfl, hfz, hnd⟩ := hW
  have hA : DataW.TrodAll enc Try.prog W 0 (fun _ => true) true Try.f5.params.toList args.toList ds p := hA0
  rw [Try.params5] at hA hval
  obtain ⟨v0, v1, v2, d0, d1, d2, p0, p1, p2, rfl, rfl, rfl, h0, h1, h2⟩ := trodAll_three hA
  obtain ⟨rfl, rfl⟩ := trodVars_none hV
  obtain ⟨y1, rfl, rfl, rfl, wy⟩ := open_int Try.underlying3 (hval 1 3 v1 rfl rfl) h1
  obtain ⟨s2, rfl, rfl, rfl, m2⟩ := ChangeMaps.open_string Try.underlying9 (hval 2 9 v2 rfl rfl) h2
  have k0 := h0
  obtain ⟨fuel0, hf0⟩ := h0
  obtain ⟨a0, n0, c0, rfl⟩ := okWide_slice under22 (hval 0 22 v0 rfl rfl)
  obtain ⟨v, xs, e1, hS, hd⟩ := strs_open hf0
  have e1 : Value.slice a0 n0 c0 = v := by simpa [Value.cells] using e1
  subst e1
  have hd : d0 = .nil ∧ xs = [] ∨ ∃ spare, d0 = .slice (xs.map strD) spare := hd
  obtain ⟨hb1, hb2⟩ := strs_bulk hd
  have hbk : Rows.uptoBulkAll [d0, DataW.lit (H := H) (.int .i64 y1), DataW.lit (.string s2.data.toList)] ≤ 1048576 := by
    rw [List.append_nil] at hk
    exact of_decide_eq_true hk
  have e2 : s2.data.toList.length = s2.size := sl_len s2
  simp only [Rows.uptoBulkAll, Rows.uptoBulk, e2] at hbk
  clear hA0
  simp only [List.append_nil] at hW'
  have hlt : ∀ x ∈ p0, x.block < W.heap.size := fun x hx => hW'.lt x hx
  refine (turns_c y1 _ xs s2 W hS (by omega) (fun x hx => by have := hb2 x hx; omega) (by omega)).mono fun e W' ⟨he, hg⟩ => ?_
  subst he
  have hB := below_of hg
  have t0 := Below.trod (t := 22) laidOut (by kernel_rfl) (of_decide_eq_true (by kernel_rfl)) k0 hB hlt
  refine ⟨_, rfl, ⟨_, _, _, [], p0 ++ ([] ++ []), [], hW', trodAll_mk1 (shut_bool Try.underlying4 _), ?_, rfl, hB.frame _, fun h => by cases h⟩⟩
  exact trodAll_mk3 t0 (shut_int Try.underlying3 wy) (ChangeMaps.shut_string Try.underlying9 m2)
set_option maxRecDepth 100000 in
theorem turns_lifted (os : Os) (started : os.Started) (H : Type) (enc : TypeId × Value → H) (F : Stop.Interp) :
    ReturnsInHanded {} Try.checked os 5 .any ((Rows.OpenSpec.upto Rows.tableTurnsSpec).pre6 enc Try.prog Try.f5 Rows.tableTurnsUptoRow.domain false) (((Rows.OpenSpec.upto Rows.tableTurnsSpec).at F).post enc Try.prog Try.f5 false true false false) := by
  refine returnsInHanded_of_cond (C := Try.checked) (s := Rows.OpenSpec.upto Rows.tableTurnsSpec) (k := Rows.uptoSmall) rfl own started (by kernel_rfl) Try.func5
    (OpenSpec.witness (enc := enc) (C := Try.checked) (s := Rows.OpenSpec.upto Rows.tableTurnsSpec) (k := Rows.uptoSmall) rfl false ⟨#[], #[.slice none 0 0, .int .i64 0, .string ⟨#[]⟩], []⟩ 8 (by kernel_rfl) (by kernel_rfl) (by kernel_rfl)
      (x := ([.nil, .lit (.int .i64 0), .lit (.string [])], [], [])) (by kernel_rfl) rfl (by kernel_rfl)) ?_
  intro W base args ds gs before hval hW _ hk _
  exact turns_contract H enc W base args ds gs before hval hW hk

theorem turns_holds : Rows.TableTurnsUptoSaid :=
  OpenClaim.holds_of_cond 5 Try.f5 rfl rfl rfl rfl rfl rfl rfl ⟨rfl, rfl, rfl, rfl, rfl⟩ rfl rfl rfl rfl rfl (by kernel_rfl) Try.func5 (by kernel_rfl)
    (of_decide_eq_true (by kernel_rfl)) (by unfold Func.isWrapper; first | (rw [if_pos (by decide +kernel)]; kernel_rfl) | (rw [if_neg (by decide +kernel)]; exact ⟨rfl, rfl⟩))
    (fun os started H enc _ F => turns_lifted os started H enc F)
#print axioms turns_holds
end Go.Proofs.Ytkaakbldkicnaaa
