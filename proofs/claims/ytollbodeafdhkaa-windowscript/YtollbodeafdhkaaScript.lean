/- WindowScript: the row. -/
import Derived.Test.YtollbodeafdhkaaK0
import Derived.Test.YtollbodeafdhkaaL4
namespace Go.Proofs.Ytollbodeafdhkaa
open Go Go.ChangeShapes Go.WideShapes Go.ChangeAt Go.RowKit
theorem four_fields {H : Type} {enc : TypeId × Value → H} {P : Program} {w : World} {base : Nat} {spare : Nat → Bool} {held : Bool} {t : TypeId} {f0 f1 f2 f3 : Field} {fuel : Nat} {cs : List Value} {x : DataW H × List MemPlace} (ht : P.underlying t = some (.struct #[f0, f1, f2, f3])) (h : DataW.trod enc P w base spare held fuel t cs = some x) :
    ∃ y0 y1 y2 y3 n, DataW.trod enc P w base spare held n f0.type ((cs.drop f0.offset).take (P.cellsOf f0.type)) = some y0 ∧ DataW.trod enc P w base spare held n f1.type ((cs.drop f1.offset).take (P.cellsOf f1.type)) = some y1 ∧ DataW.trod enc P w base spare held n f2.type ((cs.drop f2.offset).take (P.cellsOf f2.type)) = some y2 ∧ DataW.trod enc P w base spare held n f3.type ((cs.drop f3.offset).take (P.cellsOf f3.type)) = some y3 := by
  obtain ⟨xs, n, _, rfl, hl, hlen, hf⟩ := DataW.trod_struct ht h
  match xs, hlen with
  | [y0, y1, y2, y3], _ => exact ⟨y0, y1, y2, y3, n, by simpa using hf 0 f0 rfl, by simpa using hf 1 f1 rfl, by simpa using hf 2 f2 rfl, by simpa using hf 3 f3 rfl⟩
theorem cells47 : Try.prog.cellsOf 47 = 4 := by kernel_rfl
theorem scr_open {H : Type} {enc : TypeId × Value → H} {W : World} {a0 : Option Addr} {n0 c0 fuel : Nat} {d : DataW H} {pl : List MemPlace} (hf : DataW.trod enc Try.prog W 0 (fun _ => true) true fuel 40 [Value.slice a0 n0 c0] = some (d, pl)) :
    (∃ xs, Scr W a0 n0 xs) ∧ n0 ≤ 9223372036854775807 := by
  rcases Deep.open_slice Try.underlying40 hf with ⟨hcs, _⟩ | ⟨a, len, cap, m, n, D, Pl, hcs, _, hl, hm, hmm, hx, hel⟩
  · have e : Value.slice a0 n0 c0 = Value.slice none 0 0 := by simpa using hcs
    injection e with e1 e2 e3
    subst e1 e2 e3
    exact ⟨⟨[], rfl, fun h => by omega⟩, by omega⟩
  · have e : Value.slice a0 n0 c0 = Value.slice (some a) len cap := by simpa using hcs
    injection e with e1 e2 e3
    subst e1 e2 e3
    simp only [if_true] at hmm
    refine ⟨?_, by unfold maxLen at hm; omega⟩
    have each : ∀ i, i < m → ∃ q : Int × Bool × Bool × Nat, W.cell? (a.add (i * 4)) = some (.int .i64 q.1) ∧ W.cell? (a.add (i * 4 + 1)) = some (.bool q.2.1) ∧ W.cell? (a.add (i * 4 + 2)) = some (.bool q.2.2.1) ∧ W.cell? (a.add (i * 4 + 3)) = some (uv q.2.2.2) ∧ q.2.2.2 < 18446744073709551616 := by
      intro i hi
      obtain ⟨cs', h1, h2⟩ := hel i hi
      rw [cells47] at h1
      obtain ⟨_, hlen, hcell⟩ := World.cells?_some h1
      obtain ⟨y0, y1, y2, y3, k, t0, t1, t2, t3⟩ := four_fields Try.underlying47 h2
      rw [cells3] at t0
      rw [cells4] at t1 t2
      rw [cells24] at t3
      match cs', hlen with
      | [x0, x1, x2, x3], _ =>
        obtain ⟨z0, e0, _⟩ := DataW.trod_int Try.underlying3 t0
        obtain ⟨z1, e1, _⟩ := DataW.trod_bool Try.underlying4 t1
        obtain ⟨z2, e2, _⟩ := DataW.trod_bool Try.underlying4 t2
        obtain ⟨z3, e3, _, r3⟩ := DataW.trod_int Try.underlying24 t3
        simp at e0 e1 e2 e3
        subst e0 e1 e2 e3
        have g0 := hcell 0 (by omega)
        have g1 := hcell 1 (by omega)
        have g2 := hcell 2 (by omega)
        have g3 := hcell 3 (by omega)
        rw [Deep.add_add] at g0 g1 g2 g3
        obtain ⟨s, rfl, hs⟩ := wf_u64 r3
        exact ⟨(z0, z1, z2, s), by simpa using g0, by simpa using g1, by simpa using g2, by simpa using g3, hs⟩
    obtain ⟨q, hq⟩ := Deep.choose_lt each
    refine ⟨(List.range n0).map q, by simp, fun hn => ?_⟩
    obtain ⟨b, off, spot⟩ := a
    have hspot : spot = none := by simpa [Addr.add] using World.cell?_spot (hq 0 (by omega)).1
    subst hspot
    refine ⟨b, off, rfl, fun j k l c s hj => ?_⟩
    have hj2 : j < n0 := by
      have := (List.getElem?_eq_some_iff.1 hj).1
      simpa using this
    have e : q j = (k, l, c, s) := by
      rw [List.getElem?_map, List.getElem?_range hj2] at hj
      simpa using hj
    have h3 := hq j (by omega)
    rw [e] at h3
    simp only [add_plain] at h3
    exact h3

set_option maxRecDepth 100000 in
theorem script_lifted (os : Os) (started : os.Started) (H : Type) (enc : TypeId × Value → H) :
    ReturnsInHanded {} Try.checked os 6 .any (Rows.windowScriptSpec.pre6 enc Try.prog Try.f6 Rows.windowScriptRow.domain false) (Rows.windowScriptSpec.post enc Try.prog Try.f6 false true false false) := by
  refine returnsInHanded_of_change (C := Try.checked) own started (by kernel_rfl) Try.func6
    (ChangeSpec.witness6 (enc := enc) (C := Try.checked) false ⟨#[], #[.slice none 0 0], []⟩ 8 (by kernel_rfl) (by kernel_rfl) (by kernel_rfl) (by kernel_rfl)) ?_
  intro W base args ds gs before hval0 hW hcnd _
  have hval : ∀ (j : Nat) t v, Try.f6.params[j]? = some t → args[j]? = some v → Value.okWide Try.prog W .any base t v := hval0
  have hW' := hW
  obtain ⟨p, q, hA0, hV, rfl, hfz, hnd⟩ := hW
  have hA : DataW.TrodAll enc Try.prog W 0 (fun _ => true) true Try.f6.params.toList args.toList ds p := hA0
  rw [Try.params6] at hA hval
  obtain ⟨v0, vs0, d0, ds0, p0, q0, hargs, rfl, rfl, h0, r0⟩ := trodAll_cons hA
  obtain ⟨rfl, rfl, rfl⟩ := trodAll_nil r0
  obtain rfl : args = #[v0] := by cases args; simp_all
  obtain ⟨rfl, rfl⟩ := trodVars_none hV
  obtain ⟨a0, m0, c0, rfl⟩ := okWide_slice Try.underlying40 (hval 0 40 v0 rfl rfl)
  have k0 := h0
  obtain ⟨fuel0, hf0⟩ := h0
  obtain ⟨⟨xs0, hxs0⟩, hn0⟩ := scr_open hf0
  clear hA0 hval0
  simp only [List.append_nil] at hW'
  have hlt0 : ∀ x ∈ p0, x.block < W.heap.size := fun x hx => hW'.lt x (by simp [hx])
  refine (script_law a0 m0 c0 xs0 W hxs0 hn0).mono fun e W' ⟨he, hg⟩ => ?_
  subst he
  have hB := below_of hg
  have t0 := Below.trod (t := 40) laidOut (by kernel_rfl) (of_decide_eq_true (by kernel_rfl)) k0 hB hlt0
  refine ⟨_, rfl, _, _, _, [], p0 ++ [], [], hW', trodAll_mk1 (shut_bool Try.underlying4 _), trodAll_cons_mk t0 trodAll_mk0, rfl, hB.frame _, fun h => by cases h⟩

theorem script_holds : Rows.WindowScriptSaid :=
  OpenClaim.holds_of_wide 6 Try.f6 rfl rfl rfl rfl rfl rfl rfl ⟨rfl, rfl, rfl, rfl, rfl⟩ rfl rfl rfl rfl rfl (by kernel_rfl) Try.func6 (by kernel_rfl)
    (of_decide_eq_true (by kernel_rfl)) (by unfold Func.isWrapper; first | (rw [if_pos (by decide +kernel)]; kernel_rfl) | (rw [if_neg (by decide +kernel)]; exact ⟨rfl, rfl⟩))
    (fun os started H enc _ => script_lifted os started H enc)
#print axioms script_holds
end Go.Proofs.Ytollbodeafdhkaa
