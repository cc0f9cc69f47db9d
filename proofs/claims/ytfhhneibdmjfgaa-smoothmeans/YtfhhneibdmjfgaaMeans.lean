/- SmoothMeans: the row. -/
import Derived.Test.YtfhhneibdmjfgaaK0
import Derived.Test.YtfhhneibdmjfgaaL3
namespace Go.Proofs.Ytfhhneibdmjfgaa
open Go Go.ChangeShapes Go.WideShapes Go.ChangeAt Go.RowKit Sm

theorem by30 : Try.checked.prog.bytesOf 30 = 4 := by kernel_rfl
set_option maxRecDepth 100000 in
theorem fls_open {H : Type} {enc : TypeId × Value → H} {W : World} {a0 : Option Addr} {n0 c0 fuel : Nat} {d : DataW H} {pl : List MemPlace} (hf : DataW.trod enc Try.prog W 0 (fun _ => true) true fuel 40 (Value.slice a0 n0 c0).cells.toList = some (d, pl)) :
    ∃ L : List Nat, RdF W (.slice a0 n0 c0) L ∧ L.length = n0 ∧ (n0 = 0 ∨ ∃ elems spare, d = .slice elems spare ∧ n0 = elems.length) := by
  rcases Deep.open_slice Try.underlying40 hf with ⟨hcs, _⟩ | ⟨a, len, cap, m, n, D, Pl, hcs, _, hl, hm, hmm, hx, hel⟩
  · have e : Value.slice a0 n0 c0 = Value.slice none 0 0 := by simpa [Value.cells] using hcs
    injection e with e1 e2 e3
    subst e1 e2 e3
    exact ⟨[], rdF_nil W, rfl, .inl rfl⟩
  · have e : Value.slice a0 n0 c0 = Value.slice (some a) len cap := by simpa [Value.cells] using hcs
    injection e with e1 e2 e3
    subst e1 e2 e3
    simp only [if_true] at hmm
    simp only [Prod.mk.injEq] at hx
    have each : ∀ i, i < m → ∃ g : Nat, W.cell? (a.add i) = some (fv g) := by
      intro i hi
      obtain ⟨cs', h1, h2⟩ := hel i hi
      rw [kc30] at h1
      obtain ⟨_, hlen, hcell⟩ := World.cells?_some h1
      obtain ⟨g, e, _⟩ := trod_fl h2
      subst e
      have q := hcell 0 (by simp)
      rw [Deep.add_add] at q
      refine ⟨g, ?_⟩
      rw [show i * 1 + 0 = i by omega] at q
      rw [q]; rfl
    obtain ⟨q, hq⟩ := Deep.choose_lt each
    refine ⟨(List.range n0).map q, ⟨⟨some a, c0, by simp, fun hn => ?_⟩⟩, by simp, .inr ⟨_, _, hx.1, by simp⟩⟩
    have hn : 0 < n0 := by simpa using hn
    obtain ⟨b, off, spot⟩ := a
    have hspot : spot = none := by simpa [Addr.add] using World.cell?_spot (hq 0 (by omega))
    subst hspot
    refine ⟨b, off, rfl, fun j x hj => ?_⟩
    have hj2 : j < n0 := by
      have := (List.getElem?_eq_some_iff.1 hj).1
      simpa using this
    have e : q j = x := by
      rw [List.getElem?_map, List.getElem?_range hj2] at hj
      simpa using hj
    have p := hq j (by omega)
    rw [e, Addr.add_mid] at p
    exact p
set_option maxRecDepth 100000 in
theorem means_lifted (os : Os) (started : os.Started) (H : Type) (enc : TypeId × Value → H) :
    ReturnsInHanded {} Try.checked os 4 .any (Rows.smoothMeansSpec.pre6 enc Try.prog Try.f4 Rows.smoothMeansRow.domain false) (Rows.smoothMeansSpec.post enc Try.prog Try.f4 false true false false) := by
  refine returnsInHanded_of_change_sized (C := Try.checked) own started (by kernel_rfl) Try.func4
    (ChangeSpec.witness6 (enc := enc) (C := Try.checked) false ⟨#[], #[.slice none 0 0], []⟩ 8 (by kernel_rfl) (by kernel_rfl) (by kernel_rfl) (by kernel_rfl)) ?_
  intro W base args ds gs before hval0 hW _ hsz _
  have hval : ∀ (j : Nat) t v, Try.f4.params[j]? = some t → args[j]? = some v → Value.okWide Try.prog W .any base t v := hval0
  have hW' := hW
  obtain ⟨p, q, hA0, hV, rfl, hfz, hnd⟩ := hW
  have hA : DataW.TrodAll enc Try.prog W 0 (fun _ => true) true Try.f4.params.toList args.toList ds p := hA0
  rw [Try.params4] at hA hval hsz
  obtain ⟨v0, vs0, d0, ds0, p0, q0, hargs, rfl, rfl, h0, r0⟩ := trodAll_cons hA
  obtain ⟨rfl, rfl, rfl⟩ := trodAll_nil r0
  obtain rfl : args = #[v0] := by cases args; simp_all
  obtain ⟨rfl, rfl⟩ := trodVars_none hV
  obtain ⟨a0, n0, c0, rfl⟩ := okWide_slice Try.underlying40 (hval 0 40 v0 rfl rfl)
  have k0 := h0
  obtain ⟨fuel0, hf0⟩ := h0
  obtain ⟨L, hL, hLn, hd⟩ := fls_open hf0
  have hn : L.length * 4 ≤ 140737488351232 := by
    rw [hLn]
    rcases hd with e0 | ⟨el, sp, rfl, hl⟩
    · rw [e0]; omega
    · have := sized_slice hsz (j := 0) (t := 40) (e := 30) (elems := el) (spare := sp) rfl rfl Try.underlying40
      rw [by30] at this
      unfold reachBytes at this
      omega
  clear hA0 hval0
  simp only [List.append_nil] at hW'
  refine (means_c W (.slice a0 n0 c0) L hL hn).mono fun e W' ⟨he, hg⟩ => ?_
  subst he
  have hB := below_of hg
  have hlt : ∀ x ∈ p0, x.block < W.heap.size := fun x hx => hW'.lt x (by simpa using hx)
  have t0 := Below.trod (t := 40) laidOut (by kernel_rfl) (of_decide_eq_true (by kernel_rfl)) k0 hB hlt
  have tA := trodAll_mk1 t0
  refine ⟨_, rfl, _, _, _, [], p0, [], hW', trodAll_mk1 (shut_bool Try.underlying4 _), tA, rfl, hB.frame _, fun h => by cases h⟩

theorem means_holds : Rows.SmoothMeansSaid :=
  OpenClaim.holds_of_wide 4 Try.f4 rfl rfl rfl rfl rfl rfl rfl ⟨rfl, rfl, rfl, rfl, rfl⟩ rfl rfl rfl rfl rfl (by kernel_rfl) Try.func4 (by kernel_rfl)
    (of_decide_eq_true (by kernel_rfl)) (by unfold Func.isWrapper; first | (rw [if_pos (by decide +kernel)]; kernel_rfl) | (rw [if_neg (by decide +kernel)]; exact ⟨rfl, rfl⟩))
    (fun os started H enc _ => means_lifted os started H enc)
#print axioms means_holds
end Go.Proofs.Ytfhhneibdmjfgaa
