/- MacMemory: the row and its card. -/
import Derived.Test.YtabiomfgmdnikaaDoorK0
import Derived.Test.YtabiomfgmdnikaaDoorE1
import Derived.Deep.Strs
import Derived.Test.YtabiomfgmdnikaaDoorTie
import Derived.Test.YtabiomfgmdnikaaDoorCards
import Derived.SevenTiedAt
import Derived.ChangeMaps5
namespace Go.Proofs.YtabiomfgmdnikaaDoor
open Go Go.ChangeShapes Go.WideShapes Go.ChangeAt Go.RowKit

theorem door1 (os : Os) (args : Array Value) : laidMetH Tryd.prog [("joust/sha.roundWords", Rows.laid_joust_sha_roundWords)] ((World.doorLaid Tryd.prog 400 os).forCall (fun _ _ => 0) ⟨#[], args, []⟩).memory :=
  laidMetH_of_parts3 (fuel := 8) (laidMet_of_run' 8 (by kernel_rfl) (by kernel_rfl)) (by kernel_rfl) (by kernel_rfl)

theorem laidOut : laidOutB Tryd.prog = true := by kernel_rfl
theorem cells9 : Tryd.prog.cellsOf 9 = 1 := by kernel_rfl
theorem strs_open2 {H : Type} {enc : TypeId × Value → H} {W : World} {a0 : Option Addr} {n0 c0 fuel : Nat} {d : DataW H} {pl : List MemPlace} (hf : DataW.trod enc Tryd.prog W 0 (fun _ => true) true fuel 29 (Value.slice a0 n0 c0).cells.toList = some (d, pl)) :
    ∃ ps : List ByteArray, Strs W a0 n0 ps ∧ (a0 = none → c0 = 0) ∧ (n0 = 0 ∨ ∃ elems spare, d = .slice elems spare ∧ n0 ≤ elems.length + spare.length) ∧ ∀ (j : Nat) (p : ByteArray), ps[j]? = some p → p.size ≤ 9223372036854775807 := by
  rcases Deep.open_strs under29' under9 cells9 hf with ⟨hcs, hx⟩ | ⟨a, len, cap, m, Sx, hcs, _, hl, _, hm, hx, hc⟩
  · have e : Value.slice a0 n0 c0 = Value.slice none 0 0 := by simpa [Value.cells] using hcs
    injection e with e1 e2 e3
    subst e1 e2 e3
    exact ⟨[], ⟨rfl, fun h => by omega⟩, fun _ => rfl, .inl rfl, fun j p h => by simp at h⟩
  · have e : Value.slice a0 n0 c0 = Value.slice (some a) len cap := by simpa [Value.cells] using hcs
    injection e with e1 e2 e3
    subst e1 e2 e3
    simp only [if_true] at hm
    simp only [Prod.mk.injEq] at hx
    have at_ : ∀ j p, ((List.range n0).map Sx)[j]? = some p → j < n0 ∧ Sx j = p := fun j p hp => by
      have hj : j < n0 := by have := (List.getElem?_eq_some_iff.1 hp).1; simpa using this
      refine ⟨hj, ?_⟩
      have : ((List.range n0).map Sx)[j]? = some (Sx j) := by rw [List.getElem?_map, List.getElem?_range hj]; rfl
      rw [this] at hp; exact Option.some.inj hp
    refine ⟨(List.range n0).map Sx, ⟨by simp, fun hn => ?_⟩, (fun h => by cases h), .inr ⟨_, _, hx.1, by simp⟩, fun j p hp => ?_⟩
    · have h0 := (hc 0 (by omega)).1
      obtain ⟨b, off, rfl⟩ : ∃ b off, a = ⟨b, off, none⟩ := by
        obtain ⟨b, off, bt⟩ := a
        cases bt with
        | none => exact ⟨b, off, rfl⟩
        | some x =>
          exfalso
          simp [World.cell?, Addr.add] at h0
          split at h0 <;> cases h0
      refine ⟨b, off, rfl, fun j p hp => ?_⟩
      obtain ⟨hj, e2⟩ := at_ j p hp
      have := (hc j (by omega)).1
      rw [Addr.add_mid] at this
      rw [this, e2]
    · obtain ⟨hj, e2⟩ := at_ j p hp
      have := (hc j (by omega)).2
      rw [e2] at this
      exact this

set_option maxRecDepth 100000 in
theorem memf_lifted (os : Os) (started : os.Started) (H : Type) (enc : TypeId × Value → H) :
    ReturnsInHanded {} Tryd.checked os 6 .any (fun w args => (Rows.macMemorySpec.pre enc Tryd.prog Tryd.f6 [] false w args ∧ laidMetH Tryd.prog [("joust/sha.roundWords", Rows.laid_joust_sha_roundWords)] w) ∧ sizedMet enc Tryd.prog Tryd.f6 (OpenSpec.ofChange Rows.macMemorySpec) false w args)
      (Rows.macMemorySpec.post enc Tryd.prog Tryd.f6 false true false false) := by
  refine returnsInHanded_of_change_and (C := Tryd.checked) (X := fun w _ => laidMetH Tryd.prog [("joust/sha.roundWords", Rows.laid_joust_sha_roundWords)] w) (fun _ _ _ hh h => h.of_heap hh) own started (by kernel_rfl) Tryd.func6
    (ChangeSpec.witness_shaped (enc := enc) (C := Tryd.checked) (os := os) (X := fun w _ => laidMetH Tryd.prog [("joust/sha.roundWords", Rows.laid_joust_sha_roundWords)] w) false (World.doorLaid Tryd.prog 400 os) #[.string ⟨#[]⟩, .slice none 0 0] 8 rfl (World.shaped_of_RefB (by kernel_rfl) (by kernel_rfl)) (by kernel_rfl) (by kernel_rfl) (by kernel_rfl) (door1 os _)) ?_
  intro W base args ds gs before hval0 hW _ hsz hL _
  have hval : ∀ (j : Nat) t v, Tryd.f6.params[j]? = some t → args[j]? = some v → Value.okWide Tryd.prog W .any base t v := hval0
  have hW' := hW
  obtain ⟨p, q, hA0, hV, rfl, hfz, hnd⟩ := hW
  have hA : DataW.TrodAll enc Tryd.prog W 0 (fun _ => true) true Tryd.f6.params.toList args.toList ds p := hA0
  rw [Tryd.params6] at hA hval hsz
  obtain ⟨v0, v1, d0, d1, p0, p1, rfl, rfl, rfl, h0, h1⟩ := trodAll_two hA
  obtain ⟨rfl, rfl⟩ := trodVars_none hV
  obtain ⟨s0, rfl, rfl, rfl, m0⟩ := ChangeMaps.open_string Tryd.underlying9 (hval 0 9 v0 rfl rfl) h0
  obtain ⟨a1, n1, c1, rfl⟩ := okWide_slice under29' (hval 1 29 v1 rfl rfl)
  have z0 : s0.size ≤ 140737488355328 := by
    have := sized_string hsz (j := 0) (t := 9) rfl rfl
    unfold reachBytes at this
    have e : s0.data.toList.length = s0.size := sl_len s0
    omega
  have h1' := h1
  obtain ⟨fuel1, hf1⟩ := h1
  obtain ⟨q1, hps1, hnil, hd1, hsz1⟩ := strs_open2 hf1
  have b9 : Tryd.checked.prog.bytesOf 9 = 16 := by kernel_rfl
  have hn1 : n1 ≤ 8796093022206 := by
    rcases hd1 with h | ⟨el, sp, rfl, h⟩
    · omega
    · have := sized_slice hsz (j := 1) (t := 29) (e := 9) rfl rfl under29'
      rw [b9] at this
      unfold reachBytes at this
      omega
  have hk := kc_of_laid hL
  simp only [List.append_nil, List.nil_append] at hW'
  have hlt : ∀ x ∈ p1, x.block < W.heap.size := fun x hx => hW'.lt x hx
  refine (mmem_any s0 a1 n1 c1 q1 W hk hps1 hnil (by omega) hn1 hsz1).mono fun e W' ⟨he, hg⟩ => ?_
  subst he
  have hB := below_of hg
  refine ⟨_, rfl, _, _, _, [], [] ++ p1, [], hW', trodAll_mk1 (shut_bool Tryd.underlying4 _), ?_, rfl, hB.frame _, fun h => by cases h⟩
  have t1 := Below.trod (t := 29) laidOut (by kernel_rfl) (of_decide_eq_true (by kernel_rfl)) h1' hB hlt
  exact trodAll_mk2 (ChangeMaps.shut_string Tryd.underlying9 m0) t1

theorem memf_row : Rows.MacMemorySaid :=
  OpenClaim.holds_of_wide 6 Tryd.f6 rfl rfl rfl rfl rfl rfl rfl ⟨rfl, rfl, rfl, rfl, rfl⟩ rfl rfl rfl rfl rfl (by kernel_rfl) Tryd.func6 (by kernel_rfl)
    (of_decide_eq_true (by kernel_rfl)) (by unfold Func.isWrapper; first | (rw [if_pos (by decide +kernel)]; kernel_rfl) | (rw [if_neg (by decide +kernel)]; exact ⟨rfl, rfl⟩))
    (fun os started H enc _ => memf_lifted os started H enc)

theorem memf_holds : Rows.MacMemoryCardSaid :=
  Claim7.holds_tied_plain_at .later [] [.data] true (true, "dc6009e50a457e1c972dd1b06df61c01104041a34702692b9ecffe281563eae1") false
    memf_row (fun _ h => by cases h) (by kernel_rfl) (fun _ h => by cases h) macMemory_row_tie rfl ⟨rfl, rfl⟩ (by kernel_rfl) rfl
    (fun f fn hf hfn => by
      obtain rfl : f = 6 := Option.some.inj ((show Tryd.prog.funcNamed "joust/joustlaw02.MacMemory" = some 6 by kernel_rfl).symm.trans hf) |>.symm
      obtain rfl : fn = Tryd.f6 := (Option.some.inj (Tryd.func6.symm.trans hfn)).symm
      exact ⟨by kernel_rfl, fun j t ht => by
        rw [Tryd.params6] at ht
        have hm : t ∈ [9, 29] := by simpa using Array.mem_of_getElem? ht
        have hall : ([9, 29].all fun u => !Tryd.prog.wantsStandIn u) = true := by kernel_rfl
        exact (show Tryd.prog.wantsStandIn t = false by simpa using List.all_eq_true.1 hall t hm)⟩)
    (by kernel_rfl)
#print axioms memf_holds
end Go.Proofs.YtabiomfgmdnikaaDoor
