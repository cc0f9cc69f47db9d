import Derived.Test.YtkdjcknikhgfkabGreatDoorX10
import Derived.Test.YtkdjcknikhgfkabGreatDoorFL1
import Derived.Test.YtkdjcknikhgfkabGreatDoorX8
import Derived.Test.YtkdjcknikhgfkabGreatDoorX3
namespace Go.Proofs.YtkdjcknikhgfkabGreatDoor.Pk
open Go Go.RowKit
set_option maxHeartbeats 4000000 in
set_option maxRecDepth 100000 in
theorem rbody_c (s : ByteArray) (w : World) (hs : s.size ≤ 281474976710656) :
    Calls Tryz.prog 38 #[.string s] w fun e w' => e = .returned (.string (bodyB s)) ∧ w' = w := by
  by_cases h36 : s.size < 36
  · have hb : bodyB s = nob := by rw [bodyB, bodyL, if_pos (.inl (by rw [sl_len]; exact h36))]; rfl
    rw [hb]
    have hd : decide ((s.size : Int) < 36) = true := decide_eq_true (by omega)
    have hd2 : (s.size : Int) < 36 := by omega
    unfold nob
    go_enter Tryz.func38, Tryz.ntmps38
    go_wp2_with fail
    go_ret
    exact ⟨rfl, rfl⟩
  · have hd : decide ((s.size : Int) < 36) = false := decide_eq_false (by omega)
    have hd2 : ¬ (s.size : Int) < 36 := by omega
    have i3 : (3 : Int) ≤ (s.size : Int) := by omega
    obtain ⟨Y3, hY3⟩ : ∃ Y, s.extract 0 3 = Y := ⟨_, rfl⟩
    have s3 : sl Y3 = (sl s).take 3 := by rw [← hY3, ext_to]; exact sl_mk _
    have hl3 : 3 < s.size := by omega
    obtain ⟨y, hy⟩ : ∃ y, (sl s)[3]? = some y := ⟨_, List.getElem?_eq_getElem (by rw [sl_len]; exact hl3)⟩
    have ix : ∀ W, (Instr.index 9 (.string s) (.int .i64 3)).run Tryz.prog W = .ok (.int .u8 y.toNat) W := fun W => idx9 s 3 y hl3 hy W
    have hkd : (sl s).take 3 = magic → kindL (sl s) = (y.toNat : Int) := fun q => by
      rw [kindL, if_neg (by rw [sl_len]; simp [q]; omega)]
      simp [List.getD, hy]
    have hyl := UInt8.toNat_lt y
    by_cases hm : (sl s).take 3 = magic
    · have e3 : Y3 = { data := #[74, 48, 49] } := by
        apply sl_inj; rw [s3, hm]; rfl
      subst e3
      have hk := hkd hm
      obtain ⟨z, hz⟩ : ∃ z : Int, (y.toNat : Int) = z := ⟨_, rfl⟩
      rw [hz] at hk
      have ix2 : ∀ W, (Instr.index 9 (.string s) (.int .i64 3)).run Tryz.prog W = .ok (.int .u8 z) W := fun W => by rw [ix W, hz]
      have z0 : 0 ≤ z := by omega
      have z1 : z ≤ 255 := by omega
      clear ix hz hkd
      by_cases k3 : z < 3
      · have hb : bodyB s = nob := by rw [bodyB, bodyL, if_pos (.inr (by rw [hk]; omega))]; rfl
        rw [hb]
        unfold nob
        clear hb hk hm s3
        go_enter Tryz.func38, Tryz.ntmps38
        go_wp2_with fail
        go_ret
        exact ⟨rfl, rfl⟩
      · by_cases k7 : 7 < z
        · have hb : bodyB s = nob := by rw [bodyB, bodyL, if_pos (.inr (by rw [hk]; omega))]; rfl
          rw [hb]
          unfold nob
          clear hb hk hm s3
          go_enter Tryz.func38, Tryz.ntmps38
          go_wp2_with fail
          go_ret
          exact ⟨rfl, rfl⟩
        · obtain ⟨m, hmm⟩ : ∃ m, s.size - 32 = m := ⟨_, rfl⟩
          have hb : bodyB s = s.extract 0 m := by rw [bodyB, bodyL, if_neg (by rw [hk, sl_len]; omega), ext_to, sl_len, hmm]
          have wm : IntKind.i64.wrap ((s.size : Int) - 32) = (m : Int) := by rw [show (s.size : Int) - 32 = (m : Int) by omega]; exact IntWalk.i64_in _ (by omega)
          have m0 : (0 : Int) ≤ (m : Int) := by omega
          have m1 : (m : Int) ≤ (s.size : Int) := by omega
          rw [hb]
          clear hb hk hm s3 hmm
          go_enter Tryz.func38, Tryz.ntmps38
          go_wp2_with fail
          go_ret
          exact ⟨rfl, rfl⟩
    · have hb : bodyB s = nob := by
        have hk : kindL (sl s) = 0 := by rw [kindL, if_pos (.inr hm)]
        rw [bodyB, bodyL, if_pos (.inr (by rw [hk]; omega))]; rfl
      have e1 : (Y3.toList == ({ data := #[74, 48, 49] } : ByteArray).toList) = false := by
        rw [beqL]
        exact decide_eq_false (fun q => hm (by rw [← s3]; exact q))
      have e2 : (Y3.toList != ({ data := #[74, 48, 49] } : ByteArray).toList) = true := by simp only [bne, e1]; rfl
      have e0 : ({ data := #[74, 48, 49] } : ByteArray).toList = [74, 48, 49] := by rw [ByteArray.toList_eq]
      rw [e0] at e1 e2
      have e4 : ¬ Y3.toList = [74, 48, 49] := fun q => by rw [q] at e1; simp at e1
      have e3 : ¬ Y3 = { data := #[74, 48, 49] } := fun q => hm (by rw [← s3, q]; rfl)
      rw [hb]
      unfold nob
      clear hb hm s3 hkd hyl
      go_enter Tryz.func38, Tryz.ntmps38
      go_wp2_with fail
      go_ret
      exact ⟨rfl, rfl⟩
end Go.Proofs.YtkdjcknikhgfkabGreatDoor.Pk

namespace Go.Proofs.YtkdjcknikhgfkabGreatDoor
open Go Go.ChangeShapes Go.WideShapes Go.ChangeAt Go.RowKit

set_option maxRecDepth 100000 in
theorem gR : Tryz.prog.globalNamed "joust/joustref01.roots" = some 2 := by kernel_rfl
set_option maxRecDepth 100000 in
theorem gC : Tryz.prog.globalNamed "joust/joustref01.cubes" = some 3 := by kernel_rfl
set_option maxRecDepth 100000 in
theorem tR : (Tryz.prog.globals[2]?).map (·.type) = some 182 := by kernel_rfl
set_option maxRecDepth 100000 in
theorem tC : (Tryz.prog.globals[3]?).map (·.type) = some 193 := by kernel_rfl
set_option maxRecDepth 100000 in
theorem iv_datum : (Rows.laid_joust_joustref01_roots : DataW Unit) = .agg (Sha.iv.map fun x => .lit (.int .u32 x.toNat)) := by kernel_rfl
set_option maxRecDepth 100000 in
theorem cs_datum : (Rows.laid_joust_joustref01_cubes : DataW Unit) = .agg (Sha.ks.map fun x => .lit (.int .u32 x.toNat)) := by kernel_rfl
abbrev laid3 : List (String × DataW Unit) := [("joust/joustref01.roots", Rows.laid_joust_joustref01_roots), ("joust/joustref01.cubes", Rows.laid_joust_joustref01_cubes), ("joust/sha.roundWords", Rows.laid_joust_sha_roundWords)]

set_option maxRecDepth 100000 in
theorem all_of_laid {W : World} (h : laidMetH Tryz.prog laid3 W) : Kc W ∧ RK W ∧ 4 ≤ W.heap.size := by
  rw [MakeChecks.laidMetH_plain _ _ _ (by kernel_rfl)] at h
  obtain ⟨ps, ⟨g0, t0, cs0, f0, p0, q0, hg0, ht0, hv0, hd0, ⟨g1, t1, cs1, f1, p1, q1, hg1, ht1, hv1, hd1, ⟨g2, t2, cs2, f2, p2, q2, hg2, ht2, hv2, hd2, _, _⟩, _⟩, _⟩, _, _⟩ := h
  obtain rfl := Option.some.inj (gR.symm.trans hg0)
  obtain rfl := Option.some.inj (gC.symm.trans hg1)
  obtain rfl := Option.some.inj (gK.symm.trans hg2)
  obtain rfl := Option.some.inj (tR.symm.trans ht0)
  obtain rfl := Option.some.inj (tC.symm.trans ht1)
  obtain rfl := Option.some.inj (tK.symm.trans ht2)
  have hk : Kc W := fun j hj => by
    rw [World.var?_cell hg2 hv2 j, ← Array.getElem?_toList]
    exact words_of under50 rfl hd2 ks_datum j hj
  have hr : RK W := ⟨fun j hj => by
    rw [World.var?_cell hg0 hv0 j, ← Array.getElem?_toList]
    exact words_of under40 rfl hd0 iv_datum j hj, fun j hj => by
    rw [World.var?_cell hg1 hv1 j, ← Array.getElem?_toList]
    exact words_of under50 rfl hd1 cs_datum j hj⟩
  have h3 := World.block_lt_of_cell? W ⟨3, 0, none⟩ (hr.c 0 (by omega))
  exact ⟨hk, hr, h3⟩
end Go.Proofs.YtkdjcknikhgfkabGreatDoor

