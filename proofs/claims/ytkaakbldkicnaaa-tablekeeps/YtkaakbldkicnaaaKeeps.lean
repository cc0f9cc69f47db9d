/- TableKeeps: the row. -/
import Derived.Test.YtkaakbldkicnaaaK0
import Derived.Test.YtkaakbldkicnaaaL1b
namespace Go.Proofs.Ytkaakbldkicnaaa
open Go Go.ChangeShapes Go.WideShapes Go.ChangeAt Go.RowKit

theorem cells24 : Try.prog.cellsOf 24 = 4 := by kernel_rfl
/-- the struct as it is handed in -/
theorem kp_open {H : Type} {enc : TypeId × Value → H} {W : World} {base fuel : Nat} {v : Value} {x : DataW H × List MemPlace} (hv : Value.okWide Try.prog W .any base 24 v) (hf : DataW.trod enc Try.prog W 0 (fun _ => true) true fuel 24 v.cells.toList = some x) :
    ∃ sz va ahead key N d, v = .agg #[iv sz, va, .string key, iv N] ∧ Str W va ahead ∧ (d = .nil ∧ ahead = [] ∨ ∃ spare, d = .slice (ahead.map strD) spare) ∧ x.1 = .agg [.lit (.int .i64 sz), d, strD key, .lit (.int .i64 N)] := by
  obtain ⟨cs, rfl, _⟩ := okWide_struct Try.underlying24 hv
  simp only [Value.cells] at hf
  obtain ⟨xs, n, _, hx, hlen, hxl, hfl⟩ := DataW.trod_struct Try.underlying24 hf
  have hlen : cs.toList.length = 4 := hlen.trans cells24
  have hcs : cs = cs.toList.toArray := by simp
  generalize cs.toList = l at hlen hfl hcs
  subst hcs
  match l, hlen with
  | [c0, c1, c2, c3], _ =>
  match xs, (show xs.length = 4 from hxl) with
  | [y0, y1, y2, y3], _ =>
  have t0 : DataW.trod enc Try.prog W 0 (fun _ => true) true n 3 (([c0, c1, c2, c3].drop 0).take (Try.prog.cellsOf 3)) = some y0 := hfl 0 _ rfl
  have t1 : DataW.trod enc Try.prog W 0 (fun _ => true) true n 22 (([c0, c1, c2, c3].drop 1).take (Try.prog.cellsOf 22)) = some y1 := hfl 1 _ rfl
  have t2 : DataW.trod enc Try.prog W 0 (fun _ => true) true n 9 (([c0, c1, c2, c3].drop 2).take (Try.prog.cellsOf 9)) = some y2 := hfl 2 _ rfl
  have t3 : DataW.trod enc Try.prog W 0 (fun _ => true) true n 3 (([c0, c1, c2, c3].drop 3).take (Try.prog.cellsOf 3)) = some y3 := hfl 3 _ rfl
  rw [cells3] at t0 t3
  rw [cells22] at t1
  rw [cells9] at t2
  obtain ⟨z0, e0, d0, _⟩ := DataW.trod_int Try.underlying3 t0
  obtain ⟨va, ahead, e1, hS, hd⟩ := strs_open t1
  obtain ⟨z2, e2, d2, _⟩ := DataW.trod_string Try.underlying9 t2
  obtain ⟨z3, e3, d3, _⟩ := DataW.trod_int Try.underlying3 t3
  simp at e0 e1 e2 e3
  subst e0 e1 e2 e3
  refine ⟨z0, c1, ahead, z2, z3, y1.1, rfl, hS, hd, ?_⟩
  rw [hx]
  simp [d0, d2, d3, strD]
set_option maxRecDepth 100000 in
theorem keeps_lifted (os : Os) (started : os.Started) (H : Type) (enc : TypeId × Value → H) :
    ReturnsInHanded {} Try.checked os 3 .any (Rows.tableKeepsSpec.pre6 enc Try.prog Try.f3 Rows.tableKeepsRow.domain false) (Rows.tableKeepsSpec.post enc Try.prog Try.f3 false true false false) := by
  refine returnsInHanded_of_change_sized (C := Try.checked) own started (by kernel_rfl) Try.func3
    (ChangeSpec.witness6 (enc := enc) (C := Try.checked) false ⟨#[], #[.agg #[iv 0, .slice none 0 0, .string ⟨#[]⟩, iv 0]], []⟩ 8 (by kernel_rfl) (by kernel_rfl) (by kernel_rfl) (by kernel_rfl)) ?_
  intro W base args ds gs before hval0 hW _ hsz _
  have hval : ∀ (j : Nat) t v, Try.f3.params[j]? = some t → args[j]? = some v → Value.okWide Try.prog W .any base t v := hval0
  have hW' := hW
  obtain ⟨p, q, hA0, hV, rfl, hfz, hnd⟩ := hW
  have hA : DataW.TrodAll enc Try.prog W 0 (fun _ => true) true Try.f3.params.toList args.toList ds p := hA0
  rw [Try.params3] at hA hval hsz
  obtain ⟨v0, vs0, d0, ds0, p0, q0, hargs, rfl, rfl, h0, r0⟩ := trodAll_cons hA
  obtain ⟨rfl, rfl, rfl⟩ := trodAll_nil r0
  obtain rfl : args = #[v0] := by cases args; simp_all
  obtain ⟨rfl, rfl⟩ := trodVars_none hV
  have k0 := h0
  obtain ⟨fuel0, hf0⟩ := h0
  obtain ⟨sz, va, ahead, key, N, d, rfl, hS, hd, hx⟩ := kp_open (hval 0 24 v0 rfl rfl) hf0
  have hx : d0 = .agg [.lit (.int .i64 sz), d, strD key, .lit (.int .i64 N)] := hx
  subst hx
  have hall : ∀ n ∈ DataW.weights Try.checked.prog 24 (.agg [.lit (.int .i64 sz), d, strD key, .lit (.int .i64 N)]), n ≤ 140737488351232 := fun n hn => by
    have := List.all_eq_true.1 hsz n (DataW.weights_mem_each (j := 0) (t := 24) rfl rfl n hn)
    simpa [reach] using this
  have h24 : ∃ fs, Try.checked.prog.underlying 24 = some (.struct fs) ∧ fs.toList.map (·.type) = [3, 22, 9, 3] := ⟨_, Try.underlying24, rfl⟩
  obtain ⟨fs, h24, h5⟩ := h24
  have hk : key.size ≤ 140737488351232 := hall key.size (by
    simp only [DataW.weights, h24, h5, DataW.weightsEach, List.mem_append]
    refine .inr (.inr (.inl ?_))
    simp [strD, DataW.weights])
  obtain ⟨hn, hsm⟩ := strs_wide hd (fun n hn => hall n (by
    simp only [DataW.weights, h24, h5, DataW.weightsEach, List.mem_append]
    exact .inr (.inl hn)))
  clear hA0 hval0
  simp only [List.append_nil] at hW'
  have hlt0 : ∀ x ∈ p0, x.block < W.heap.size := fun x hx => hW'.lt x (by simp [hx])
  refine (keeps_c sz va ahead key N W ⟨hS, hn, hsm⟩ hk).mono fun e W' ⟨he, hg⟩ => ?_
  subst he
  have hB := below_of hg
  have t0 := Below.trod (t := 24) laidOut (by kernel_rfl) (of_decide_eq_true (by kernel_rfl)) k0 hB hlt0
  refine ⟨_, rfl, _, _, _, [], p0 ++ [], [], hW', trodAll_mk1 (shut_bool Try.underlying4 _), trodAll_cons_mk t0 trodAll_mk0, rfl, hB.frame _, fun h => by cases h⟩

theorem keeps_holds : Rows.TableKeepsSaid :=
  OpenClaim.holds_of_wide 3 Try.f3 rfl rfl rfl rfl rfl rfl rfl ⟨rfl, rfl, rfl, rfl, rfl⟩ rfl rfl rfl rfl rfl (by kernel_rfl) Try.func3 (by kernel_rfl)
    (of_decide_eq_true (by kernel_rfl)) (by unfold Func.isWrapper; first | (rw [if_pos (by decide +kernel)]; kernel_rfl) | (rw [if_neg (by decide +kernel)]; exact ⟨rfl, rfl⟩))
    (fun os started H enc _ => keeps_lifted os started H enc)
#print axioms keeps_holds
end Go.Proofs.Ytkaakbldkicnaaa
