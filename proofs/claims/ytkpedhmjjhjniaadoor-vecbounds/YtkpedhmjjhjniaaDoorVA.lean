/- the laws' alive: the chapter's examples. -/
import Derived.Test.YtkpedhmjjhjniaaDoorV9
namespace Go.Proofs.YtkpedhmjjhjniaaDoor
open Go Go.RowKit

theorem ex_best : ∀ n : Fin 256, pr (n.val : Int) 0 (-7) ≤ pr 192 0 (-7) ∧ (n.val < 192 → pr (n.val : Int) 0 (-7) < pr 192 0 (-7)) := by decide +kernel
theorem ex_tow : twd 0 0 0 (-7) = 192 := by
  have e1 : df 0 0 = 0 := df_self 0
  have e2 : df (-7) 0 = -7 := by decide
  unfold twd
  rw [e1, e2]
  refine tow_eq ⟨by omega, by omega, fun k h0 h1 => ?_, fun k h0 h1 => ?_⟩
  · have h := (ex_best ⟨k.toNat, by omega⟩).1
    have e : ((k.toNat : Nat) : Int) = k := by omega
    simp only [e] at h
    exact h
  · have h := (ex_best ⟨k.toNat, by omega⟩).2 (by simp only; omega)
    have e : ((k.toNat : Nat) : Int) = k := by omega
    simp only [e] at h
    exact h
theorem ex_len : rt (sq2 3 (-4)) = 5 := by
  have e : sq2 3 (-4) = 25 := by decide
  rw [e]
  exact rt_eq (by omega) (by omega) ⟨by omega, by omega, by omega⟩
theorem ex_d2 : d2 0 0 3 4 = 25 := by decide
theorem in_small (a : Int) (h1 : -1000000000000 ≤ a) (h2 : a ≤ 1000000000000) : In a := by unfold In; omega
set_option maxHeartbeats 4000000 in
theorem alive_c (w : World) (hk : Kc w) :
    Calls Tryd.prog 8 #[] w fun e w' => e = .returned (.bool true) ∧ w.grownBy w' none := by
  have i : ∀ a : Int, -1000000000000 ≤ a → a ≤ 1000000000000 → In a := in_small
  have c1 := fun W => vadd_c 1 2 3 (-5) (i _ (by omega) (by omega)) (i _ (by omega) (by omega)) (i _ (by omega) (by omega)) (i _ (by omega) (by omega)) W
  have c2 := fun W => vscale_c 65536 (-3) 32768 (i _ (by omega) (by omega)) (i _ (by omega) (by omega)) (i _ (by omega) (by omega)) W
  have c3 := fun W hk => unit_c 64 W hk
  have c4 := fun W => turn_c 250 10 W
  have c5 := fun W hk => dist_c 0 0 3 4 (i _ (by omega) (by omega)) (i _ (by omega) (by omega)) (i _ (by omega) (by omega)) (i _ (by omega) (by omega)) W hk
  have c6 := fun W hk => len_c 3 (-4) W hk
  have c7 := fun W hk => toward_c 0 0 0 (-7) (i _ (by omega) (by omega)) (i _ (by omega) (by omega)) (i _ (by omega) (by omega)) (i _ (by omega) (by omega)) W hk
  have e1 : addZ 1 3 = 4 := by decide
  have e2 : addZ 2 (-5) = -3 := by decide
  have e3 : mulZ 65536 32768 = 32768 := by decide
  have e4 : mulZ (-3) 32768 = -2 := by decide
  have e5 : sinZ (64 + 64) = 0 := by decide
  have e6 : sinZ 64 = 65536 := by decide
  have e7 : ((250 : Int) + 10) % 256 = 4 := by decide
  rw [e1, e2] at c1
  rw [e3, e4] at c2
  rw [e5, e6] at c3
  rw [e7] at c4
  rw [ex_d2] at c5
  rw [ex_len] at c6
  rw [ex_tow] at c7
  clear e1 e2 e3 e4 e5 e6 e7 i
  have HK := Keep.mk (Bx.start hk)
  clear hk
  go_enter Tryd.func8, Tryd.ntmps8
  go_wp2_with fail
  refine (c1 _).mono ?_
  rintro e w1 ⟨rfl, hg⟩
  have HB1 := Keep.mk ((HK.out.kept hg).new 4 (-3))
  clear hg HK c1
  obtain ⟨b1, hb1⟩ : ∃ b, w1.heap.size = b := ⟨_, rfl⟩
  obtain ⟨W1, hW1⟩ : ∃ W, w1.alloc (.cells #[.int .i64 4, .int .i64 (-3)] 25) = W := ⟨_, rfl⟩
  rw [hb1, hW1] at HB1
  go_wp2_with fail
  clear hb1 hW1 w1
  refine (c2 _).mono ?_
  rintro e w1 ⟨rfl, hg⟩
  have HB2 := Keep.mk ((HB1.out.kept hg).new 32768 (-2))
  clear hg HB1 c2
  obtain ⟨b2, hb2⟩ : ∃ b, w1.heap.size = b := ⟨_, rfl⟩
  obtain ⟨W2, hW2⟩ : ∃ W, w1.alloc (.cells #[.int .i64 32768, .int .i64 (-2)] 25) = W := ⟨_, rfl⟩
  rw [hb2, hW2] at HB2
  go_wp2_with fail
  clear hb2 hW2 w1
  refine (c3 _ HB2.out.k).mono ?_
  rintro e w1 ⟨rfl, hg⟩
  have HB3 := Keep.mk ((HB2.out.kept hg).new 0 65536)
  clear hg HB2 c3
  obtain ⟨b3, hb3⟩ : ∃ b, w1.heap.size = b := ⟨_, rfl⟩
  obtain ⟨W3, hW3⟩ : ∃ W, w1.alloc (.cells #[.int .i64 0, .int .i64 65536] 25) = W := ⟨_, rfl⟩
  rw [hb3, hW3] at HB3
  have x0 := (HB3.out.has _ _ _ (.head _)).cellv 0 _ rfl
  have x1 := (HB3.out.has _ _ _ (.head _)).cellv 1 _ rfl
  have y0 := (HB3.out.has _ _ _ (.tail _ (.head _))).cellv 0 _ rfl
  have y1 := (HB3.out.has _ _ _ (.tail _ (.head _))).cellv 1 _ rfl
  have z0 := (HB3.out.has _ _ _ (.tail _ (.tail _ (.head _)))).cellv 0 _ rfl
  have z1 := (HB3.out.has _ _ _ (.tail _ (.tail _ (.head _)))).cellv 1 _ rfl
  go_wp2_with fail
  refine (c4 _).mono ?_
  rintro e w' ⟨rfl, hw⟩; rw [hw]
  clear x0 x1 y0 y1 z0 z1 hw w'
  go_wp2_with fail
  refine (c5 _ HB3.out.k).mono ?_
  rintro e w2 ⟨rfl, hg⟩
  have HB4 := Keep.mk (HB3.out.kept hg).drop
  clear hg HB3 c4 c5
  go_wp2_with fail
  refine (c6 _ HB4.out.k).mono ?_
  rintro e w3 ⟨rfl, hg⟩
  have HB5 := Keep.mk (HB4.out.kept hg)
  clear hg HB4 c6
  go_wp2_with fail
  refine (c7 _ HB5.out.k).mono ?_
  rintro e w4 ⟨rfl, hg⟩
  have HB6 := Keep.mk (HB5.out.kept hg)
  clear hg HB5 c7
  go_wp2_with fail
  go_ret
  exact ⟨rfl, HB6.out.g⟩
end Go.Proofs.YtkpedhmjjhjniaaDoor
