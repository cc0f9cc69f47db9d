/- RingScript: the row. -/
import Derived.Test.YtflglflggeaokaaK1
import Derived.Test.YtflglflggeaokaaG8
import Derived.SizedLaws
import Derived.Deep.Slices
import Derived.Deep.Strs
namespace Go.Proofs.Ytflglflggeaokaa
open Go Go.ChangeShapes Go.WideShapes Go.ChangeAt Go.RowKit

theorem cells61 : Try.prog.cellsOf 61 = 3 := by kernel_rfl
theorem bytes61 : Try.checked.prog.bytesOf 61 = 24 := by kernel_rfl
theorem scr_open {H : Type} {enc : TypeId × Value → H} {W : World} {a0 : Option Addr} {n0 c0 fuel : Nat} {d : DataW H} {pl : List MemPlace} (hf : DataW.trod enc Try.prog W 0 (fun _ => true) true fuel 50 (Value.slice a0 n0 c0).cells.toList = some (d, pl))
    (hs : ∀ elems spare, d = .slice elems spare → (elems.length + spare.length) * 24 ≤ reachBytes) : (∃ xs, Scr W a0 n0 xs) ∧ n0 * 24 ≤ 140737488355328 := by
  rcases Deep.open_slice Try.underlying50 hf with ⟨hcs, _⟩ | ⟨a, len, cap, m, n, D, Pl, hcs, _, hl, hm, hmm, hx, hel⟩
  · have e : Value.slice a0 n0 c0 = Value.slice none 0 0 := by simpa [Value.cells] using hcs
    injection e with e1 e2 e3
    subst e1 e2 e3
    exact ⟨⟨[], rfl, fun h => by omega⟩, by omega⟩
  · have e : Value.slice a0 n0 c0 = Value.slice (some a) len cap := by simpa [Value.cells] using hcs
    injection e with e1 e2 e3
    subst e1 e2 e3
    simp only [if_true] at hmm
    simp only [Prod.mk.injEq] at hx
    have hb := hs _ _ hx.1
    simp only [List.length_map, List.length_range] at hb
    have hr := reachBytes_lt
    refine ⟨?_, by omega⟩
    have each : ∀ i, i < m → ∃ q : Int × Int × Int, W.cell? (a.add (i * 3)) = some (iv q.1) ∧ W.cell? (a.add (i * 3 + 1)) = some (iv q.2.1) ∧ W.cell? (a.add (i * 3 + 2)) = some (iv q.2.2) := by
      intro i hi
      obtain ⟨cs', h1, h2⟩ := hel i hi
      rw [cells61] at h1
      obtain ⟨_, hlen, hcell⟩ := World.cells?_some h1
      obtain ⟨y0, y1, y2, k, _, _, t0, t1, t2⟩ := Deep.trod_struct3 Try.underlying61 h2
      rw [cells3] at t0 t1 t2
      match cs', hlen with
      | [x0, x1, x2], _ =>
        obtain ⟨z0, e0, _⟩ := DataW.trod_int Try.underlying3 t0
        obtain ⟨z1, e1, _⟩ := DataW.trod_int Try.underlying3 t1
        obtain ⟨z2, e2, _⟩ := DataW.trod_int Try.underlying3 t2
        simp at e0 e1 e2
        subst e0 e1 e2
        have g0 := hcell 0 (by omega)
        have g1 := hcell 1 (by omega)
        have g2 := hcell 2 (by omega)
        rw [Deep.add_add] at g0 g1 g2
        exact ⟨(z0, z1, z2), by simpa using g0, by simpa using g1, by simpa using g2⟩
    obtain ⟨q, hq⟩ := Deep.choose_lt each
    refine ⟨(List.range n0).map q, by simp, fun hn => ?_⟩
    obtain ⟨b, off, spot⟩ := a
    have hspot : spot = none := by simpa [Addr.add] using World.cell?_spot (hq 0 (by omega)).1
    subst hspot
    refine ⟨b, off, rfl, fun j k t mm hj => ?_⟩
    have hj2 : j < n0 := by
      have := (List.getElem?_eq_some_iff.1 hj).1
      simpa using this
    have e : q j = (k, t, mm) := by
      rw [List.getElem?_map, List.getElem?_range hj2] at hj
      simpa using hj
    have h3 := hq j (by omega)
    rw [e] at h3
    simp only [add_plain] at h3
    exact ⟨h3.1, h3.2.1, h3.2.2⟩

set_option maxRecDepth 100000 in
theorem script_lifted (os : Os) (started : os.Started) (H : Type) (enc : TypeId × Value → H) :
    ReturnsInHanded {} Try.checked os 7 .any (Rows.ringScriptSpec.pre6 enc Try.prog Try.f7 Rows.ringScriptRow.domain false) (Rows.ringScriptSpec.post enc Try.prog Try.f7 false true false false) := by
  refine returnsInHanded_of_change_sized (C := Try.checked) own started (by kernel_rfl) Try.func7
    (ChangeSpec.witness6 (enc := enc) (C := Try.checked) false ⟨#[], #[.int .i64 0, .slice none 0 0], []⟩ 8 (by kernel_rfl) (by kernel_rfl) (by kernel_rfl) (by kernel_rfl)) ?_
  intro W base args ds gs before hval0 hW _ hsz _
  have hval : ∀ (j : Nat) t v, Try.f7.params[j]? = some t → args[j]? = some v → Value.okWide Try.prog W .any base t v := hval0
  have hW' := hW
  obtain ⟨p, q, hA0, hV, rfl, hfz, hnd⟩ := hW
  have hA : DataW.TrodAll enc Try.prog W 0 (fun _ => true) true Try.f7.params.toList args.toList ds p := hA0
  rw [Try.params7] at hA hval hsz
  obtain ⟨v0, v1, d0, d1, p0, p1, rfl, rfl, rfl, h0, h1⟩ := trodAll_two hA
  obtain ⟨rfl, rfl⟩ := trodVars_none hV
  obtain ⟨y, rfl, rfl, rfl, wy⟩ := open_int Try.underlying3 (hval 0 3 v0 rfl rfl) h0
  obtain ⟨a1, n1, c1, rfl⟩ := okWide_slice Try.underlying50 (hval 1 50 v1 rfl rfl)
  have h1' := h1
  obtain ⟨fuel1, hf1⟩ := h1
  obtain ⟨⟨xs, hxs⟩, hn⟩ := scr_open hf1 (fun el sp e => by
    have := sized_slice hsz (j := 1) (t := 50) (e := 61) (elems := el) (spare := sp) rfl (by rw [e]; rfl) Try.underlying50
    rwa [bytes61] at this)
  simp only [List.append_nil, List.nil_append] at hW'
  have hlt : ∀ x ∈ p1, x.block < W.heap.size := fun x hx => hW'.lt x hx
  refine (script_walk y a1 n1 c1 xs W hxs hn).mono fun e W' ⟨he, hg⟩ => ?_
  subst he
  have hB := below_of hg
  refine ⟨_, rfl, _, _, _, [], [] ++ p1, [], hW', trodAll_mk1 (shut_bool Try.underlying4 _), ?_, rfl, hB.frame _, fun h => by cases h⟩
  have t1 := Below.trod (t := 50) laidOut (by kernel_rfl) (of_decide_eq_true (by kernel_rfl)) h1' hB hlt
  exact trodAll_mk2 (shut_int Try.underlying3 wy) t1

theorem script_holds : Rows.RingScriptSaid :=
  OpenClaim.holds_of_wide 7 Try.f7 rfl rfl rfl rfl rfl rfl rfl ⟨rfl, rfl, rfl, rfl, rfl⟩ rfl rfl rfl rfl rfl (by kernel_rfl) Try.func7 (by kernel_rfl)
    (of_decide_eq_true (by kernel_rfl)) (by unfold Func.isWrapper; first | (rw [if_pos (by decide +kernel)]; kernel_rfl) | (rw [if_neg (by decide +kernel)]; exact ⟨rfl, rfl⟩))
    (fun os started H enc _ => script_lifted os started H enc)
#print axioms script_holds
end Go.Proofs.Ytflglflggeaokaa
