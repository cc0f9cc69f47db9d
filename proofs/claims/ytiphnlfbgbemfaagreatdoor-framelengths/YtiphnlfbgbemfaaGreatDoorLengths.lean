import Derived.Test.YtiphnlfbgbemfaaGreatDoorX6
import Derived.Test.YtiphnlfbgbemfaaGreatDoorX9
import Derived.Test.YtiphnlfbgbemfaaGreatDoorX10
import Derived.Test.YtiphnlfbgbemfaaGreatDoorX11
import Derived.Test.YtiphnlfbgbemfaaGreatDoorX12
import Derived.Test.YtiphnlfbgbemfaaGreatDoorX13
import Derived.Test.YtiphnlfbgbemfaaGreatDoorX14
import Derived.Test.YtiphnlfbgbemfaaGreatDoorX15
import Derived.Test.YtiphnlfbgbemfaaGreatDoorX16
import Derived.Test.YtiphnlfbgbemfaaGreatDoorX17
import Derived.Test.YtiphnlfbgbemfaaGreatDoorX18
import Derived.Test.YtiphnlfbgbemfaaGreatDoorTie
import Derived.Test.YtiphnlfbgbemfaaGreatDoorCards
import Derived.SevenTiedAt
import Derived.ChangeMaps5
import Derived.LaidMore
/- FrameLengths: the row and its card. -/
namespace Go.Proofs.YtiphnlfbgbemfaaGreatDoor
open Go Go.ChangeShapes Go.WideShapes Go.ChangeAt Go.RowKit

theorem lengths_any (x y : Int) (c : UInt8) (w : World) (hk : Kc w) :
    Calls Tryz.prog 5 #[.int .i64 x, .int .i64 y, .int .u8 (c.toNat : Int)] w fun e w' => e = .returned (.bool true) ∧ w.grownBy w' none := by
  by_cases hb : 1200 < 4 + Pk.u64 y % 1300
  · exact Pk.lengths_A x y c w hk hb
  · have h9 : Pk.u64 x % 9 = 0 ∨ Pk.u64 x % 9 = 1 ∨ Pk.u64 x % 9 = 2 ∨ Pk.u64 x % 9 = 3 ∨ Pk.u64 x % 9 = 4 ∨ Pk.u64 x % 9 = 5 ∨ Pk.u64 x % 9 = 6 ∨ Pk.u64 x % 9 = 7 ∨ Pk.u64 x % 9 = 8 := by omega
    rcases h9 with h | h | h | h | h | h | h | h | h
    · exact Pk.lengths_0 x y c w hk h hb
    · exact Pk.lengths_1 x y c w hk h hb
    · exact Pk.lengths_2 x y c w hk h hb
    · exact Pk.lengths_3 x y c w hk h hb
    · exact Pk.lengths_4 x y c w hk h hb
    · exact Pk.lengths_5 x y c w hk h hb
    · exact Pk.lengths_6 x y c w hk h hb
    · exact Pk.lengths_7 x y c w hk h hb
    · exact Pk.lengths_8 x y c w hk h hb
theorem in_u8 {a : Int} (h : (Lit.int .u8 a).wf = true) : ∃ c : UInt8, a = (c.toNat : Int) := by
  have m1 : IntKind.u8.min = 0 := by decide
  have m2 : IntKind.u8.max = 255 := by decide
  simp [Lit.wf, m1, m2] at h
  exact ⟨UInt8.ofNat a.toNat, by simp; omega⟩
set_option maxRecDepth 100000 in
theorem door1 (os : Os) (args : Array Value) : laidMetH Tryz.prog [("joust/sha.roundWords", Rows.laid_joust_sha_roundWords)] ((World.doorLaid Tryz.prog 400 os).forCall (fun _ _ => 0) ⟨#[], args, []⟩).memory :=
  laidMetH_of_parts3 (fuel := 8) (laidMet_of_run' 8 (by kernel_rfl) (by kernel_rfl)) (by kernel_rfl) (by kernel_rfl)

set_option maxRecDepth 100000 in
theorem lengths_lifted (os : Os) (started : os.Started) (H : Type) (enc : TypeId × Value → H) :
    ReturnsInHanded {} Tryz.checked os 5 .any (fun w args => (Rows.frameLengthsSpec.pre enc Tryz.prog Tryz.f5 [] false w args ∧ laidMetH Tryz.prog [("joust/sha.roundWords", Rows.laid_joust_sha_roundWords)] w) ∧ sizedMet enc Tryz.prog Tryz.f5 (OpenSpec.ofChange Rows.frameLengthsSpec) false w args)
      (Rows.frameLengthsSpec.post enc Tryz.prog Tryz.f5 false true false false) := by
  refine returnsInHanded_of_change_and (C := Tryz.checked) (X := fun w _ => laidMetH Tryz.prog [("joust/sha.roundWords", Rows.laid_joust_sha_roundWords)] w) (fun _ _ _ hh h => h.of_heap hh) own started (by kernel_rfl) Tryz.func5
    (ChangeSpec.witness_shaped (enc := enc) (C := Tryz.checked) (os := os) (X := fun w _ => laidMetH Tryz.prog [("joust/sha.roundWords", Rows.laid_joust_sha_roundWords)] w) false (World.doorLaid Tryz.prog 400 os) #[.int .i64 0, .int .i64 0, .int .u8 0] 8 rfl (World.shaped_of_RefB (by kernel_rfl) (by kernel_rfl)) (by kernel_rfl) (by kernel_rfl) (by kernel_rfl) (door1 os _)) ?_
  intro W base args ds gs before hval0 hW _ hsz hL _
  have hval : ∀ (j : Nat) t v, Tryz.f5.params[j]? = some t → args[j]? = some v → Value.okWide Tryz.prog W .any base t v := hval0
  have hW' := hW
  obtain ⟨p, q, hA0, hV, rfl, hfz, hnd⟩ := hW
  have hA : DataW.TrodAll enc Tryz.prog W 0 (fun _ => true) true Tryz.f5.params.toList args.toList ds p := hA0
  rw [Tryz.params5] at hA hval hsz
  obtain ⟨v0, v1, v2, d0, d1, d2, p0, p1, p2, rfl, rfl, rfl, h0, h1, h2⟩ := trodAll_three hA
  obtain ⟨rfl, rfl⟩ := trodVars_none hV
  obtain ⟨x0, rfl, rfl, rfl, m0⟩ := open_int Tryz.underlying3 (hval 0 3 v0 rfl rfl) h0
  obtain ⟨x1, rfl, rfl, rfl, m1⟩ := open_int Tryz.underlying3 (hval 1 3 v1 rfl rfl) h1
  obtain ⟨x2, rfl, rfl, rfl, m2⟩ := open_int Tryz.underlying5 (hval 2 5 v2 rfl rfl) h2
  have hk := kc_of_laid hL
  obtain ⟨c, rfl⟩ := in_u8 m2
  simp only [List.append_nil] at hW'
  refine (lengths_any x0 x1 c W hk).mono fun e W' ⟨he, hg⟩ => ?_
  subst he
  refine ⟨_, rfl, _, _, _, [], [], [], hW', trodAll_mk1 (shut_bool Tryz.underlying4 _), trodAll_mk3 (shut_int Tryz.underlying3 m0) (shut_int Tryz.underlying3 m1) (shut_int Tryz.underlying5 m2), rfl, (below_of hg).frame _, fun h => by cases h⟩

set_option maxRecDepth 100000 in
theorem lengths_row : Rows.FrameLengthsSaid :=
  OpenClaim.holds_of_wide 5 Tryz.f5 rfl rfl rfl rfl rfl rfl rfl ⟨rfl, rfl, rfl, rfl, rfl⟩ rfl rfl rfl rfl rfl (by kernel_rfl) Tryz.func5 (by kernel_rfl)
    (of_decide_eq_true (by kernel_rfl)) (by unfold Func.isWrapper; first | (rw [if_pos (by decide +kernel)]; kernel_rfl) | (rw [if_neg (by decide +kernel)]; exact ⟨rfl, rfl⟩))
    (fun os started H enc _ => lengths_lifted os started H enc)

set_option maxRecDepth 100000 in
theorem lengths_holds : Rows.FrameLengthsCardSaid :=
  Claim7.holds_tied_plain_at .later [] [.data] true (true, "9f33483563638262fe67135a7f6ae14a92255b4538d6e44824e026b29e9ba311") false
    lengths_row (fun _ h => by cases h) (by kernel_rfl) (fun _ h => by cases h) frameLengths_row_tie rfl ⟨rfl, rfl⟩ (by kernel_rfl) rfl
    (fun f fn hf hfn => by
      obtain rfl : f = 5 := Option.some.inj ((show Tryz.prog.funcNamed "joust/joustlaw07.FrameLengths" = some 5 by kernel_rfl).symm.trans hf) |>.symm
      obtain rfl : fn = Tryz.f5 := (Option.some.inj (Tryz.func5.symm.trans hfn)).symm
      exact ⟨by kernel_rfl, fun j t ht => by
        rw [Tryz.params5] at ht
        have hm : t ∈ [3, 3, 5] := by simpa using Array.mem_of_getElem? ht
        have hall : ([3, 3, 5].all fun u => !Tryz.prog.wantsStandIn u) = true := by kernel_rfl
        exact (show Tryz.prog.wantsStandIn t = false by simpa using List.all_eq_true.1 hall t hm)⟩)
    (by kernel_rfl)
#print axioms lengths_holds
end Go.Proofs.YtiphnlfbgbemfaaGreatDoor

