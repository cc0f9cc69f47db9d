/- alive -/
import Derived.Test.YtfhhneibdmjfgaaQ8
namespace Go.Proofs.Ytfhhneibdmjfgaa
open Go Go.RowKit Ieee Fx
namespace Sm
set_option maxRecDepth 100000
attribute [local go_sem] run_store_fl
theorem mixA : mixV ⟨V 0, V 0, V 1135542272⟩ ⟨V 1082130432, V 1090519040, V 1092616192⟩ (V 1056964608) = ⟨some 1073741824, some 1082130432, some 0⟩ := by kernel_rfl
theorem ofA : ofV 65536 (-32768) 64 = ⟨some 1065353216, some 3204448256, some 1119092736⟩ := by kernel_rfl
theorem meanA : meanV [1065353216, 1073741824, 1086324736] = some 1077936128 := by decide +kernel
theorem eqF_c {x k : Nat} (h : V x = some k) (hk : (single.order k k == some .eq) = true) : eqF x k = true := by
  have hn : V k = some k := by
    unfold V at h
    split at h
    · cases h
    · rename_i q
      injection h with h
      subst h
      exact V_num (by simpa using q)
  rw [eqF_V, h, hn]
  exact hk
theorem alive_c (w : World) : Calls Try.prog 9 #[] w fun e w' => e = .returned (.bool true) ∧ w.grownBy w' none := by
  go_enter Try.func9, Try.ntmps9
  go_wp2_with fail
  refine (mix_c 0 0 1135542272 1082130432 1090519040 1092616192 1056964608 w).mono ?_
  rintro e w1 ⟨v, rfl, hp, g1⟩
  rw [mixA] at hp
  obtain ⟨x, y, a, rfl, hx, hy, ha⟩ := hp
  have HE : Keep (∀ W, (binOp .eql 37 (pv x y a) (pv 1073741824 1082130432 0)).run Try.prog W = .ok (.bool true) W) := ⟨fun W => by
    rw [eqlP, eqF_c hx (by decide +kernel), eqF_c hy (by decide +kernel), eqF_c ha (by decide +kernel)]; rfl⟩
  clear hx hy ha
  have HG1 := Keep.mk g1
  clear g1
  have HS1 := Keep.mk ((Sep.nil w1).newBox #[fv x, fv y, fv a] 37)
  go_wp2_with fail
  obtain ⟨b1, hb1⟩ : ∃ b, w1.heap.size = b := ⟨_, rfl⟩
  have HG2 := Keep.mk (HG1.out.trans HS1.out.1)
  rw [hb1] at HS1 ⊢
  clear hb1 HG1
  generalize w1.alloc (.cells #[fv x, fv y, fv a] 37) = w2 at HS1 HG2 ⊢
  refine (of_c 65536 (-32768) 64 w2).mono ?_
  rintro e w3 ⟨v, rfl, hp, g3⟩
  rw [ofA] at hp
  obtain ⟨p, q, r, rfl, hx, hy, ha⟩ := hp
  have HE2 : Keep (∀ W, (binOp .eql 37 (pv p q r) (pv 1065353216 3204448256 1119092736)).run Try.prog W = .ok (.bool true) W) := ⟨fun W => by
    rw [eqlP, eqF_c hx (by decide +kernel), eqF_c hy (by decide +kernel), eqF_c ha (by decide +kernel)]; rfl⟩
  clear hx hy ha
  have HS3 := HS1.out.grown g3
  have HG3 := Keep.mk (HG2.out.trans g3)
  clear HS1 g3 HG2
  have HS4 := Keep.mk (HS3.newBox #[fv p, fv q, fv r] 37)
  have HG4 := Keep.mk (HG3.out.trans (gr_alloc w3 (.cells #[fv p, fv q, fv r] 37) none))
  clear HS3 HG3
  go_upto_region 3 with fail
  obtain ⟨b2, hb2⟩ : ∃ b, w3.heap.size = b := ⟨_, rfl⟩
  rw [hb2] at HS4 ⊢
  clear hb2
  generalize w3.alloc (.cells #[fv p, fv q, fv r] 37) = w4 at HS4 HG4 ⊢
  have l0 := (HS4.out.boxGet k1m).cellv 0 _ rfl
  have l1 := (HS4.out.boxGet k1m).cellv 1 _ rfl
  have l2 := (HS4.out.boxGet k1m).cellv 2 _ rfl
  have m0 := (HS4.out.boxGet k0m).cellv 0 _ rfl
  have m1 := (HS4.out.boxGet k0m).cellv 1 _ rfl
  have m2 := (HS4.out.boxGet k0m).cellv 2 _ rfl
  have h1 := HE.out
  have h2 := HE2.out
  have HR : Keep (RdF (w4.alloc (.cells #[fv 1065353216, fv 1073741824, fv 1086324736] 30)) (.slice (some ⟨w4.heap.size, 0, none⟩) 3 3) [1065353216, 1073741824, 1086324736]) := ⟨⟨_, _, rfl, fun _ => ⟨_, _, rfl, fun j x hx => by
    have hN := Has.newA w4 #[fv 1065353216, fv 1073741824, fv 1086324736] 30
    rw [Nat.zero_add]
    match j, hx with
    | 0, hx => cases hx; exact hN.cellv 0 _ rfl
    | 1, hx => cases hx; exact hN.cellv 1 _ rfl
    | 2, hx => cases hx; exact hN.cellv 2 _ rfl
    | j + 3, hx => cases hx⟩⟩⟩
  have HG5 := Keep.mk (HG4.out.trans (gr_alloc w4 (.cells #[fv 1065353216, fv 1073741824, fv 1086324736] 30) none))
  go_wp2_with fail
  clear l0 l1 l2 m0 m1 m2 h1 h2
  refine (mean_c _ _ _ HR.out (by decide)).mono ?_
  rintro e w6 ⟨⟨v, rfl, z, rfl, hz⟩, g6⟩
  rw [meanA] at hz
  have d : (FloatKind.f32.format.order z 1077936128 == some .eq) = true := eqF_c hz (by decide +kernel)
  clear hz
  go_wp2_with fail
  go_ret
  exact ⟨rfl, HG5.out.trans g6⟩
end Sm
end Go.Proofs.Ytfhhneibdmjfgaa
