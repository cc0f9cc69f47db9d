/- WindowSteps: the row. -/
import Derived.Test.YtollbodeafdhkaaK0
import Derived.Test.YtollbodeafdhkaaL1
namespace Go.Proofs.Ytollbodeafdhkaa
open Go Go.ChangeShapes Go.WideShapes Go.ChangeAt Go.RowKit
theorem st_open {H : Type} {enc : TypeId × Value → H} {W : World} {base fuel : Nat} {v : Value} {d : DataW H} {pl : List MemPlace} (hv : Value.okWide Try.prog W .any base 38 v) (hf : DataW.trod enc Try.prog W 0 (fun _ => true) true fuel 38 v.cells.toList = some (d, pl)) :
    ∃ a a2 n c n2 c2 xs ys y f, v = .agg #[.slice a n c, .slice a2 n2 c2, .int .u8 ((y : Nat) : Int), .int .u64 ((f : Nat) : Int)] ∧ Ns .u8 W a n xs ∧ Ns .u8 W a2 n2 ys ∧ n2 ≤ 9223372036854775807 ∧ y < 256 ∧ f < 18446744073709551616 := by
  obtain ⟨cs, rfl, _⟩ := okWide_struct Try.underlying38 hv
  simp only [Value.cells] at hf
  obtain ⟨xs, n, _, hx, hlen, hxl, hfl⟩ := DataW.trod_struct Try.underlying38 hf
  have hlen : cs.toList.length = 4 := hlen.trans (by kernel_rfl)
  have hcs : cs = cs.toList.toArray := by simp
  generalize cs.toList = l at hlen hfl hcs
  subst hcs
  match l, hlen with
  | [c0, c1, c2, c3], _ =>
  match xs, (show xs.length = 4 from hxl) with
  | [y0, y1, y2, y3], _ =>
  have t0 : DataW.trod enc Try.prog W 0 (fun _ => true) true n 33 (([c0, c1, c2, c3].drop 0).take (Try.prog.cellsOf 33)) = some y0 := hfl 0 _ rfl
  have t1 : DataW.trod enc Try.prog W 0 (fun _ => true) true n 33 (([c0, c1, c2, c3].drop 1).take (Try.prog.cellsOf 33)) = some y1 := hfl 1 _ rfl
  have t2 : DataW.trod enc Try.prog W 0 (fun _ => true) true n 5 (([c0, c1, c2, c3].drop 2).take (Try.prog.cellsOf 5)) = some y2 := hfl 2 _ rfl
  have t3 : DataW.trod enc Try.prog W 0 (fun _ => true) true n 24 (([c0, c1, c2, c3].drop 3).take (Try.prog.cellsOf 24)) = some y3 := hfl 3 _ rfl
  rw [cells33] at t0 t1
  rw [cells5] at t2
  rw [cells24] at t3
  obtain ⟨x2, e2, _, w2⟩ := DataW.trod_int Try.underlying5 t2
  obtain rfl : c2 = _ := by simpa using e2
  obtain ⟨x3, e3, _, w3⟩ := DataW.trod_int Try.underlying24 t3
  obtain rfl : c3 = _ := by simpa using e3
  obtain ⟨y, rfl, hy⟩ := wf_u8 w2
  obtain ⟨f, rfl, hff⟩ := wf_u64 w3
  have sl : ∀ {cv : Value} {yy}, DataW.trod enc Try.prog W 0 (fun _ => true) true n 33 [cv] = some yy → ∃ a m c, cv = .slice a m c := by
    intro cv yy h
    rcases Deep.open_slice1 Try.underlying33 cells5 h with ⟨hcs, _⟩ | ⟨a, len, cap, _, _, _, _, _, hcs, _⟩
    · exact ⟨none, 0, 0, by simpa using hcs⟩
    · exact ⟨some a, len, cap, by simpa using hcs⟩
  simp only [List.drop_zero, List.take_succ_cons, List.take_zero] at t0
  simp only [List.drop_succ_cons, List.drop_zero, List.take_succ_cons, List.take_zero] at t1
  obtain ⟨a, m, c, rfl⟩ := sl t0
  obtain ⟨a2, m2, c2, rfl⟩ := sl t1
  obtain ⟨⟨xs, hxs⟩, _⟩ := ns_open (d := y0.1) (pl := y0.2) Try.underlying33 Try.underlying5 cells5 n8 t0
  obtain ⟨⟨ys, hys⟩, hn⟩ := ns_open (d := y1.1) (pl := y1.2) Try.underlying33 Try.underlying5 cells5 n8 t1
  exact ⟨a, a2, m, c, m2, c2, xs, ys, y, f, rfl, hxs, hys, hn, hy, hff⟩

set_option maxRecDepth 100000 in
theorem steps_lifted (os : Os) (started : os.Started) (H : Type) (enc : TypeId × Value → H) :
    ReturnsInHanded {} Try.checked os 5 .any (Rows.windowStepsSpec.pre6 enc Try.prog Try.f5 Rows.windowStepsRow.domain false) (Rows.windowStepsSpec.post enc Try.prog Try.f5 false true false false) := by
  refine returnsInHanded_of_change (C := Try.checked) own started (by kernel_rfl) Try.func5
    (ChangeSpec.witness6 (enc := enc) (C := Try.checked) false ⟨#[], #[.agg #[.slice none 0 0, .slice none 0 0, .int .u8 0, .int .u64 0]], []⟩ 8 (by kernel_rfl) (by kernel_rfl) (by kernel_rfl) (by kernel_rfl)) ?_
  intro W base args ds gs before hval0 hW hcnd _
  have hval : ∀ (j : Nat) t v, Try.f5.params[j]? = some t → args[j]? = some v → Value.okWide Try.prog W .any base t v := hval0
  have hW' := hW
  obtain ⟨p, q, hA0, hV, rfl, hfz, hnd⟩ := hW
  have hA : DataW.TrodAll enc Try.prog W 0 (fun _ => true) true Try.f5.params.toList args.toList ds p := hA0
  rw [Try.params5] at hA hval
  obtain ⟨v0, vs0, d0, ds0, p0, q0, hargs, rfl, rfl, h0, r0⟩ := trodAll_cons hA
  obtain ⟨rfl, rfl, rfl⟩ := trodAll_nil r0
  obtain rfl : args = #[v0] := by cases args; simp_all
  obtain ⟨rfl, rfl⟩ := trodVars_none hV
  have k0 := h0
  obtain ⟨fuel0, hf0⟩ := h0
  obtain ⟨b0, b1, m0, g0, m1, g1, xs0, xs1, y, f, rfl, hxs0, hxs1, hn1, hy, hf⟩ := st_open (hval 0 38 v0 rfl rfl) hf0
  clear hA0 hval0
  simp only [List.append_nil] at hW'
  have hlt0 : ∀ x ∈ p0, x.block < W.heap.size := fun x hx => hW'.lt x (by simp [hx])
  refine (steps_law b0 b1 m0 g0 m1 g1 xs0 xs1 y f W hxs0 hxs1 hn1 hy hf).mono fun e W' ⟨he, hg⟩ => ?_
  subst he
  have hB := below_of hg
  have t0 := Below.trod (t := 38) laidOut (by kernel_rfl) (of_decide_eq_true (by kernel_rfl)) k0 hB hlt0
  refine ⟨_, rfl, _, _, _, [], p0 ++ [], [], hW', trodAll_mk1 (shut_bool Try.underlying4 _), trodAll_cons_mk t0 trodAll_mk0, rfl, hB.frame _, fun h => by cases h⟩

theorem steps_holds : Rows.WindowStepsSaid :=
  OpenClaim.holds_of_wide 5 Try.f5 rfl rfl rfl rfl rfl rfl rfl ⟨rfl, rfl, rfl, rfl, rfl⟩ rfl rfl rfl rfl rfl (by kernel_rfl) Try.func5 (by kernel_rfl)
    (of_decide_eq_true (by kernel_rfl)) (by unfold Func.isWrapper; first | (rw [if_pos (by decide +kernel)]; kernel_rfl) | (rw [if_neg (by decide +kernel)]; exact ⟨rfl, rfl⟩))
    (fun os started H enc _ => steps_lifted os started H enc)
#print axioms steps_holds
end Go.Proofs.Ytollbodeafdhkaa
