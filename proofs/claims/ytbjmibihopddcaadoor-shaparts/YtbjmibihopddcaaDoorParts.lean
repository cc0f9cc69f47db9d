/- ShaParts: the row and its card. -/
import Derived.Test.YtbjmibihopddcaaDoorK0
import Derived.Test.YtbjmibihopddcaaDoorE2
import Derived.Test.YtbjmibihopddcaaDoorTie
import Derived.Test.YtbjmibihopddcaaDoorCards
import Derived.SevenTiedAt
namespace Go.Proofs.YtbjmibihopddcaaDoor
open Go Go.ChangeShapes Go.WideShapes Go.ChangeAt Go.RowKit

theorem laidOut : laidOutB Tryd.prog = true := by kernel_rfl
theorem door1p (os : Os) (args : Array Value) : laidMetH Tryd.prog [("joust/sha.roundWords", Rows.laid_joust_sha_roundWords)] ((World.doorLaid Tryd.prog 400 os).forCall (fun _ _ => 0) ⟨#[], args, []⟩).memory :=
  laidMetH_of_parts3 (fuel := 8) (laidMet_of_run' 8 (by kernel_rfl) (by kernel_rfl)) (by kernel_rfl) (by kernel_rfl)

theorem bytes_open {H : Type} {enc : TypeId × Value → H} {W : World} {a0 : Option Addr} {n0 c0 fuel : Nat} {d : DataW H} {ps : List MemPlace} (hf : DataW.trod enc Tryd.prog W 0 (fun _ => true) true fuel 28 (Value.slice a0 n0 c0).cells.toList = some (d, ps)) :
    ∃ q : List UInt8, BytesOf W a0 n0 c0 q ∧ (a0 = none → c0 = 0) ∧ (n0 = 0 ∨ ∃ elems spare, d = .slice elems spare ∧ n0 ≤ elems.length + spare.length) := by
  rcases open_ints Tryd.underlying28 Tryd.underlying5 (by kernel_rfl : Tryd.prog.cellsOf 5 = 1) hf with ⟨hcs, _⟩ | ⟨a, len, cap, zs, hcs, _, hl, _, hz, hx, hcell, hwz⟩
  · have e : Value.slice a0 n0 c0 = Value.slice none 0 0 := by simpa [Value.cells] using hcs
    injection e with e1 e2 e3
    subst e1 e2 e3
    exact ⟨[], ⟨rfl, Nat.le_refl _, fun h => by omega⟩, fun _ => rfl, .inl rfl⟩
  · have e : Value.slice a0 n0 c0 = Value.slice (some a) len cap := by simpa [Value.cells] using hcs
    injection e with e1 e2 e3
    subst e1 e2 e3
    simp only [if_true] at hz
    simp only [Prod.mk.injEq] at hx
    refine ⟨(zs.take n0).map fun z => UInt8.ofNat z.toNat, ⟨by simp; omega, hl, fun hn => ?_⟩, (fun h => by cases h), .inr ⟨_, _, hx.1, ?_⟩⟩
    · obtain ⟨b, off, rfl, hc⟩ := ints_at hcell (by omega)
      refine ⟨b, off, rfl, fun j x hx => ?_⟩
      rw [List.getElem?_map, List.getElem?_take] at hx
      split at hx
      · rename_i hj
        have hjz : j < zs.length := by omega
        rw [List.getElem?_eq_getElem hjz] at hx
        obtain rfl := Option.some.inj hx
        rw [hc j hjz]
        have hb := bounds_u8 (hwz zs[j] (List.getElem_mem hjz))
        have e : zs.getD j 0 = zs[j] := by simp [List.getD, hjz]
        rw [e]
        congr 2
        simp
        omega
      · cases hx
    · simp [lits]; omega

set_option maxRecDepth 100000 in
theorem parts_lifted (os : Os) (started : os.Started) (H : Type) (enc : TypeId × Value → H) :
    ReturnsInHanded {} Tryd.checked os 4 .any (fun w args => (Rows.shaPartsSpec.pre enc Tryd.prog Tryd.f4 [] false w args ∧ laidMetH Tryd.prog [("joust/sha.roundWords", Rows.laid_joust_sha_roundWords)] w) ∧ sizedMet enc Tryd.prog Tryd.f4 (OpenSpec.ofChange Rows.shaPartsSpec) false w args)
      (Rows.shaPartsSpec.post enc Tryd.prog Tryd.f4 false true false false) := by
  refine returnsInHanded_of_change_and (C := Tryd.checked) (X := fun w _ => laidMetH Tryd.prog [("joust/sha.roundWords", Rows.laid_joust_sha_roundWords)] w) (fun _ _ _ hh h => h.of_heap hh) own started (by kernel_rfl) Tryd.func4
    (ChangeSpec.witness_shaped (enc := enc) (C := Tryd.checked) (os := os) (X := fun w _ => laidMetH Tryd.prog [("joust/sha.roundWords", Rows.laid_joust_sha_roundWords)] w) false (World.doorLaid Tryd.prog 400 os) #[.slice none 0 0, .int .i64 0, .slice none 0 0] 8 rfl (World.shaped_of_RefB (by kernel_rfl) (by kernel_rfl)) (by kernel_rfl) (by kernel_rfl) (by kernel_rfl) (door1p os _)) ?_
  intro W base args ds gs before hval0 hW _ hsz hL _
  have hval : ∀ (j : Nat) t v, Tryd.f4.params[j]? = some t → args[j]? = some v → Value.okWide Tryd.prog W .any base t v := hval0
  have hW' := hW
  obtain ⟨p, q, hA0, hV, rfl, hfz, hnd⟩ := hW
  have hA : DataW.TrodAll enc Tryd.prog W 0 (fun _ => true) true Tryd.f4.params.toList args.toList ds p := hA0
  rw [Tryd.params4] at hA hval hsz
  obtain ⟨v0, v1, v2, d0, d1, d2, p0, p1, p2, rfl, rfl, rfl, h0, h1, h2⟩ := trodAll_three hA
  obtain ⟨rfl, rfl⟩ := trodVars_none hV
  obtain ⟨y, rfl, rfl, rfl, wy⟩ := open_int Tryd.underlying3 (hval 1 3 v1 rfl rfl) h1
  have hk := kc_of_laid hL
  obtain ⟨a0, n0, c0, rfl⟩ := okWide_slice Tryd.underlying28 (hval 0 28 v0 rfl rfl)
  obtain ⟨a2, n2, c2, rfl⟩ := okWide_slice Tryd.underlying28 (hval 2 28 v2 rfl rfl)
  have h0' := h0
  have h2' := h2
  obtain ⟨fuel, hf⟩ := h0
  obtain ⟨fuel2, hf2⟩ := h2
  obtain ⟨q0, hb0, hnil0, hd0⟩ := bytes_open hf
  obtain ⟨q2, hb2, _, hd2⟩ := bytes_open hf2
  have b5 : Tryd.checked.prog.bytesOf 5 = 1 := by kernel_rfl
  have hn0 : n0 ≤ 140737488355328 := by
    rcases hd0 with h | ⟨el, sp, rfl, h⟩
    · omega
    · have := sized_slice hsz (j := 0) (t := 28) (e := 5) rfl rfl Tryd.underlying28
      rw [b5] at this
      unfold reachBytes at this
      omega
  have hn2 : n2 ≤ 140737488355328 := by
    rcases hd2 with h | ⟨el, sp, rfl, h⟩
    · omega
    · have := sized_slice hsz (j := 2) (t := 28) (e := 5) rfl rfl Tryd.underlying28
      rw [b5] at this
      unfold reachBytes at this
      omega
  simp only [List.append_nil] at hW'
  have hlt : ∀ x ∈ p0 ++ p2, x.block < W.heap.size := fun x hx => hW'.lt x hx
  refine (parts_any a0 n0 c0 y a2 n2 c2 q0 q2 W hb0 hnil0 hb2 hk hn0 hn2).mono fun e W' ⟨he, hg⟩ => ?_
  subst he
  have hB := below_of hg
  refine ⟨_, rfl, _, _, _, [], p0 ++ ([] ++ p2), [], hW', trodAll_mk1 (shut_bool Tryd.underlying4 _), ?_, rfl, hB.frame _, fun h => by cases h⟩
  have t0 := Below.trod (t := 28) laidOut (by kernel_rfl) (of_decide_eq_true (by kernel_rfl)) h0' hB (fun x hx => hlt x (by simp [hx]))
  have t2 := Below.trod (t := 28) laidOut (by kernel_rfl) (of_decide_eq_true (by kernel_rfl)) h2' hB (fun x hx => hlt x (by simp [hx]))
  exact trodAll_mk3 t0 (shut_int Tryd.underlying3 wy) t2

theorem parts_row : Rows.ShaPartsSaid :=
  OpenClaim.holds_of_wide 4 Tryd.f4 rfl rfl rfl rfl rfl rfl rfl ⟨rfl, rfl, rfl, rfl, rfl⟩ rfl rfl rfl rfl rfl (by kernel_rfl) Tryd.func4 (by kernel_rfl)
    (of_decide_eq_true (by kernel_rfl)) (by unfold Func.isWrapper; first | (rw [if_pos (by decide +kernel)]; kernel_rfl) | (rw [if_neg (by decide +kernel)]; exact ⟨rfl, rfl⟩))
    (fun os started H enc _ => parts_lifted os started H enc)

theorem parts_holds : Rows.ShaPartsCardSaid :=
  Claim7.holds_tied_plain_at .later [] [.data] true (true, "d7b73e59ffa91acfd60e92f85651834578087b3840a8500a262309813c2c7fc3") false
    parts_row (fun _ h => by cases h) (by kernel_rfl) (fun _ h => by cases h) shaParts_row_tie rfl ⟨rfl, rfl⟩ (by kernel_rfl) rfl
    (fun f fn hf hfn => by
      obtain rfl : f = 4 := Option.some.inj ((show Tryd.prog.funcNamed "joust/joustlaw01.ShaParts" = some 4 by kernel_rfl).symm.trans hf) |>.symm
      obtain rfl : fn = Tryd.f4 := (Option.some.inj (Tryd.func4.symm.trans hfn)).symm
      exact ⟨by kernel_rfl, fun j t ht => by
        rw [Tryd.params4] at ht
        have hm : t ∈ [28, 3, 28] := by simpa using Array.mem_of_getElem? ht
        have hall : ([28, 3, 28].all fun u => !Tryd.prog.wantsStandIn u) = true := by kernel_rfl
        exact (show Tryd.prog.wantsStandIn t = false by simpa using List.all_eq_true.1 hall t hm)⟩)
    (by kernel_rfl)
#print axioms parts_holds
end Go.Proofs.YtbjmibihopddcaaDoor
