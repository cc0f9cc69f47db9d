/- the reference: Toward; the laws' alive. -/
import Derived.Test.YtkpedhmjjhjniaaDoorV8
namespace Go.Proofs.YtkpedhmjjhjniaaDoor
open Go Go.RowKit

theorem Bx.drop {w0 W : World} {L : List (Nat × Int × Int)} (h : Bx w0 W L) : Bx w0 W [] := ⟨h.g, h.k, fun _ _ _ h => (by cases h), fun _ h => (by cases h), List.Pairwise.nil⟩
set_option maxHeartbeats 16000000 in
theorem rtoward_c (ax ay bx by' : Int) (h1 : In ax) (h2 : In ay) (h3 : In bx) (h4 : In by') (w : World) (hk : Kc w) :
    Calls Tryd.prog 32 #[vv ax ay, vv bx by'] w fun e w' => e = .returned (.int .i64 (twd ax ay bx by')) ∧ w.grownBy w' none := by
  have c1 := fun W => rless_c bx ax 2147483647 h3 h1 (by omega) W
  have c2 := fun W => rless_c by' ay 2147483647 h4 h2 (by omega) W
  have e1 : lz bx ax 2147483647 = df bx ax := rfl
  have e2 : lz by' ay 2147483647 = df by' ay := rfl
  rw [e1] at c1
  rw [e2] at c2
  clear e1 e2 h1 h2 h3 h4
  unfold twd
  have HB := Keep.mk (((Bx.start hk).new ax ay).new bx by')
  clear hk
  rw [size_alloc] at HB
  have x0 := (HB.out.has _ _ _ (.head _)).cellv 0 _ rfl
  have x1 := (HB.out.has _ _ _ (.head _)).cellv 1 _ rfl
  have y0 := (HB.out.has _ _ _ (.tail _ (.head _))).cellv 0 _ rfl
  have y1 := (HB.out.has _ _ _ (.tail _ (.head _))).cellv 1 _ rfl
  have hx := Keep.mk (df_range bx ax)
  have hy := Keep.mk (df_range by' ay)
  generalize df bx ax = x at *
  generalize df by' ay = y at *
  by_cases cx : x = 0
  · subst cx
    by_cases cy : y = 0
    · subst cy
      rw [tow_zero]
      go_enter Tryd.func32, Tryd.ntmps32
      go_wp2_with fail
      refine (c1 _).mono ?_
      rintro e w' ⟨rfl, hw⟩; rw [hw]; clear hw w'
      go_wp2_with fail
      refine (c2 _).mono ?_
      rintro e w' ⟨rfl, hw⟩; rw [hw]; clear hw w'
      go_wp2_with fail
      go_ret
      exact ⟨rfl, HB.out.g⟩
    · go_enter Tryd.func32, Tryd.ntmps32
      go_wp2_with fail
      refine (c1 _).mono ?_
      rintro e w' ⟨rfl, hw⟩; rw [hw]; clear hw w'
      go_wp2_with fail
      refine (c2 _).mono ?_
      rintro e w' ⟨rfl, hw⟩; rw [hw]; clear hw w'
      go_wp2_with fail
      clear c1 c2 x0 x1 y0 y1
      generalize hW : (w.alloc (.cells #[.int .i64 ax, .int .i64 ay] 25)).alloc (.cells #[.int .i64 bx, .int .i64 by'] 25) = W at HB ⊢
      clear hW
      clear hx
      obtain ⟨x, hx0⟩ : ∃ x : Int, x = 0 := ⟨0, rfl⟩
      rw [← hx0]
      have HX := Keep.mk hx0
      have hx : Keep (-2147483647 ≤ x ∧ x ≤ 2147483647) := ⟨by omega⟩
      clear hx0
      have HP := Keep.mk (fun h => pr_range h x y hx.out hy.out)
      go_loopw [7, 8, 9] (fun s7 s8 s9 w' => ∃ n t q : Int, 0 ≤ n ∧ n ≤ 256 ∧ s7 = .int .i64 t ∧ s8 = .int .i64 q ∧ s9 = .int .i64 n ∧ Keep (Bx w w' [] ∧ ((n = 0 ∧ q = -9223372036854775808) ∨ (BestN x y n t ∧ q = pr t x y)))) (fun _ _ s9 _ => (256 - intOf s9).toNat)
      case atStart => exact ⟨x, x, -9223372036854775808, by rw [HX.out]; omega, by rw [HX.out]; omega, rfl, rfl, rfl, ⟨HB.out.drop, .inl ⟨HX.out, rfl⟩⟩⟩
      case round =>
        clear HB
        obtain ⟨n, t, q, n0, n1, rfl, rfl, rfl, HI⟩ := hrel
        by_cases d : n < 256
        · have cn := fun W (hk : Kc W) => runit_c n ⟨by omega, by omega⟩ W hk
          have h1 := mul_bd _ x (sin_range (n + 64)) hx.out
          have h2 := mul_bd _ y (sin_range n) hy.out
          have HN : Keep (if q < pr n x y then (BestN x y (n + 1) n) else (BestN x y (n + 1) t ∧ q = pr t x y)) := ⟨by
            rcases HI.out.2 with ⟨rfl, rfl⟩ | ⟨hb, rfl⟩
            · rw [if_pos (by have := (HP.out 0).1; omega)]; exact BestN.first x y
            · split
              · rename_i g; exact hb.next.1 g
              · rename_i g; exact ⟨hb.next.2 g, rfl⟩⟩
          have HD : Keep (pr n x y = sinZ (n + 64) * x + sinZ n * y) := ⟨rfl⟩
          obtain ⟨p, hp⟩ : ∃ p, pr n x y = p := ⟨_, rfl⟩
          rw [hp] at HN HD
          have HPn := Keep.mk hp
          clear hp
          generalize sinZ (n + 64) = u at *
          generalize sinZ n = v at *
          have e1 : IntKind.i64.wrap (u * x) = u * x := by rw [IntKind.wrap_i64]; omega
          have e2 : IntKind.i64.wrap (v * y) = v * y := by rw [IntKind.wrap_i64]; omega
          have e3 : IntKind.i64.wrap (u * x + v * y) = p := by rw [IntKind.wrap_i64, HD.out]; omega
          clear h1 h2
          by_cases g : q < p
          · rw [if_pos g] at HN
            go_wp2_with fail
            refine (cn _ HI.out.1.k).mono ?_
            rintro e w3 ⟨rfl, hg⟩
            have HB3 := Keep.mk ((HI.out.1.kept hg).new u v)
            clear hg HI cn
            have x0 := (HB3.out.has _ _ _ (.head _)).cellv 0 _ rfl
            have x1 := (HB3.out.has _ _ _ (.head _)).cellv 1 _ rfl
            go_wp2_with fail
            refine ⟨⟨n + 1, n, p, by omega, by omega, rfl, rfl, rfl, ⟨HB3.out.drop, .inr ⟨HN.out, HPn.out.symm⟩⟩⟩, ?_⟩
            simp only [intOf]; omega
          · rw [if_neg g] at HN
            go_wp2_with fail
            refine (cn _ HI.out.1.k).mono ?_
            rintro e w3 ⟨rfl, hg⟩
            have HB3 := Keep.mk ((HI.out.1.kept hg).new u v)
            clear hg HI cn
            have x0 := (HB3.out.has _ _ _ (.head _)).cellv 0 _ rfl
            have x1 := (HB3.out.has _ _ _ (.head _)).cellv 1 _ rfl
            go_wp2_with fail
            refine ⟨⟨n + 1, t, q, by omega, by omega, rfl, rfl, rfl, ⟨HB3.out.drop, .inr HN.out⟩⟩, ?_⟩
            simp only [intOf]; omega
        · obtain rfl : n = 256 := by omega
          have HE : Keep (tow x y = t) := ⟨by
            rcases HI.out.2 with ⟨h, _⟩ | ⟨h, _⟩
            · omega
            · exact tow_eq h⟩
          go_wp2_with fail
          go_ret
          exact ⟨ret_int (by rw [← HE.out, HX.out]), HI.out.1.g⟩
  · go_enter Tryd.func32, Tryd.ntmps32
    go_wp2_with fail
    refine (c1 _).mono ?_
    rintro e w' ⟨rfl, hw⟩; rw [hw]; clear hw w'
    go_wp2_with fail
    refine (c2 _).mono ?_
    rintro e w' ⟨rfl, hw⟩; rw [hw]; clear hw w'
    go_wp2_with fail
    clear c1 c2 x0 x1 y0 y1
    generalize hW : (w.alloc (.cells #[.int .i64 ax, .int .i64 ay] 25)).alloc (.cells #[.int .i64 bx, .int .i64 by'] 25) = W at HB ⊢
    clear hW
    have HP := Keep.mk (fun h => pr_range h x y hx.out hy.out)
    go_loopw [7, 8, 9] (fun s7 s8 s9 w' => ∃ n t q : Int, 0 ≤ n ∧ n ≤ 256 ∧ s7 = .int .i64 t ∧ s8 = .int .i64 q ∧ s9 = .int .i64 n ∧ Keep (Bx w w' [] ∧ ((n = 0 ∧ q = -9223372036854775808) ∨ (BestN x y n t ∧ q = pr t x y)))) (fun _ _ s9 _ => (256 - intOf s9).toNat)
    case atStart => exact ⟨0, 0, -9223372036854775808, by omega, by omega, rfl, rfl, rfl, ⟨HB.out.drop, .inl ⟨rfl, rfl⟩⟩⟩
    case round =>
      clear HB
      obtain ⟨n, t, q, n0, n1, rfl, rfl, rfl, HI⟩ := hrel
      by_cases d : n < 256
      · have cn := fun W (hk : Kc W) => runit_c n ⟨by omega, by omega⟩ W hk
        have h1 := mul_bd _ x (sin_range (n + 64)) hx.out
        have h2 := mul_bd _ y (sin_range n) hy.out
        have HN : Keep (if q < pr n x y then (BestN x y (n + 1) n) else (BestN x y (n + 1) t ∧ q = pr t x y)) := ⟨by
          rcases HI.out.2 with ⟨rfl, rfl⟩ | ⟨hb, rfl⟩
          · rw [if_pos (by have := (HP.out 0).1; omega)]; exact BestN.first x y
          · split
            · rename_i g; exact hb.next.1 g
            · rename_i g; exact ⟨hb.next.2 g, rfl⟩⟩
        have HD : Keep (pr n x y = sinZ (n + 64) * x + sinZ n * y) := ⟨rfl⟩
        obtain ⟨p, hp⟩ : ∃ p, pr n x y = p := ⟨_, rfl⟩
        rw [hp] at HN HD
        have HPn := Keep.mk hp
        clear hp
        generalize sinZ (n + 64) = u at *
        generalize sinZ n = v at *
        have e1 : IntKind.i64.wrap (u * x) = u * x := by rw [IntKind.wrap_i64]; omega
        have e2 : IntKind.i64.wrap (v * y) = v * y := by rw [IntKind.wrap_i64]; omega
        have e3 : IntKind.i64.wrap (u * x + v * y) = p := by rw [IntKind.wrap_i64, HD.out]; omega
        clear h1 h2
        by_cases g : q < p
        · rw [if_pos g] at HN
          go_wp2_with fail
          refine (cn _ HI.out.1.k).mono ?_
          rintro e w3 ⟨rfl, hg⟩
          have HB3 := Keep.mk ((HI.out.1.kept hg).new u v)
          clear hg HI cn
          have x0 := (HB3.out.has _ _ _ (.head _)).cellv 0 _ rfl
          have x1 := (HB3.out.has _ _ _ (.head _)).cellv 1 _ rfl
          go_wp2_with fail
          refine ⟨⟨n + 1, n, p, by omega, by omega, rfl, rfl, rfl, ⟨HB3.out.drop, .inr ⟨HN.out, HPn.out.symm⟩⟩⟩, ?_⟩
          simp only [intOf]; omega
        · rw [if_neg g] at HN
          go_wp2_with fail
          refine (cn _ HI.out.1.k).mono ?_
          rintro e w3 ⟨rfl, hg⟩
          have HB3 := Keep.mk ((HI.out.1.kept hg).new u v)
          clear hg HI cn
          have x0 := (HB3.out.has _ _ _ (.head _)).cellv 0 _ rfl
          have x1 := (HB3.out.has _ _ _ (.head _)).cellv 1 _ rfl
          go_wp2_with fail
          refine ⟨⟨n + 1, t, q, by omega, by omega, rfl, rfl, rfl, ⟨HB3.out.drop, .inr HN.out⟩⟩, ?_⟩
          simp only [intOf]; omega
      · obtain rfl : n = 256 := by omega
        have HE : Keep (tow x y = t) := ⟨by
          rcases HI.out.2 with ⟨h, _⟩ | ⟨h, _⟩
          · omega
          · exact tow_eq h⟩
        go_wp2_with fail
        go_ret
        exact ⟨ret_int HE.out.symm, HI.out.1.g⟩
end Go.Proofs.YtkpedhmjjhjniaaDoor
