/- board: Blocked. -/
import Derived.Test.YtobdcngjpgndiabDoorBA2
namespace Go.Proofs.YtobdcngjpgndiabDoor.Bo
open Go Go.RowKit

set_option maxRecDepth 100000 in
theorem nm_mid {n : Nat} {p : Int} (h0 : 0 ≤ p) (h1 : p < (n : Int) * 524288) (hn : n ≤ 64) : nm p = ((p / 524288).toNat : Int) ∧ (p / 524288).toNat < n := by
  unfold nm
  rw [if_neg (by omega)]
  omega
set_option maxRecDepth 100000 in
set_option maxHeartbeats 8000000 in
theorem blocked_go (w : World) (v : Value) (L : Bo) (h : Bd w v L) (x y q : Int) (hx : In x) (hy : In y) (hq : In q) (h1 : 1 ≤ q) (hX : hld (wd L) x q) (hY : hld L.length y q) : Calls Tryd.prog 69 #[v, vv x y, iv q] w fun e w' => e = .returned (.bool (decide (blk L (x, y) q))) ∧ w.grownBy w' none := by
  have hb := h.kept (World.grownBy_alloc w (.cells #[iv x, iv y] 23) none)
  have hsh := h.sh
  have z := Has.newA w #[iv x, iv y] 23
  obtain ⟨W, hW⟩ : ∃ W, w.alloc (.cells #[iv x, iv y] 23) = W := ⟨_, rfl⟩
  obtain ⟨kb, kr, cr, rfl, c0, c1, c2, hr⟩ := h.o
  have ga := World.grownBy_alloc w (.cells #[iv x, iv y] 23) none
  replace c0 := ga.cell c0 (by simp)
  replace c1 := ga.cell c1 (by simp)
  obtain ⟨kp, hkp⟩ : ∃ kp, w.heap.size = kp := ⟨_, rfl⟩
  rw [hkp] at z
  rw [hW] at hb z ga c0 c1
  have z0 := z.cellv 0 _ rfl
  have z1 := z.cellv 1 _ rfl
  have i1 : 3 ≤ wd L ∧ wd L ≤ 64 := hsh.2.1
  have i2 : 3 ≤ L.length ∧ L.length ≤ 64 := hsh.1
  have HHX := Keep.mk (fun W => holds_c W (wd L) x q i1.2 hx h1)
  have HHY := Keep.mk (fun W => holds_c W L.length y q i2.2 hy h1)
  rw [decide_eq_true hX] at HHX
  rw [decide_eq_true hY] at HHY
  unfold hld at hX hY
  have w1 : IntKind.i64.wrap (y - q) = y - q := wi _ (by omega) (by omega)
  have w2 : IntKind.i64.wrap (y + q) = y + q := wi _ (by omega) (by omega)
  have w3 : IntKind.i64.wrap (y + q - 1) = y + q - 1 := wi _ (by omega) (by omega)
  have w4 : IntKind.i64.wrap (x - q) = x - q := wi _ (by omega) (by omega)
  have w5 : IntKind.i64.wrap (x + q) = x + q := wi _ (by omega) (by omega)
  have w6 : IntKind.i64.wrap (x + q - 1) = x + q - 1 := wi _ (by omega) (by omega)
  obtain ⟨n1, n1'⟩ := nm_mid (n := L.length) (p := y - q) (by omega) (by omega) i2.2
  obtain ⟨n2, n2'⟩ := nm_mid (n := L.length) (p := y + q - 1) (by omega) (by omega) i2.2
  obtain ⟨n3, n3'⟩ := nm_mid (n := wd L) (p := x - q) (by omega) (by omega) i1.2
  obtain ⟨n4, n4'⟩ := nm_mid (n := wd L) (p := x + q - 1) (by omega) (by omega) i1.2
  obtain ⟨Y0, hY0⟩ : ∃ n, ((y - q) / 524288).toNat = n := ⟨_, rfl⟩
  obtain ⟨Y1, hY1⟩ : ∃ n, ((y + q - 1) / 524288).toNat = n := ⟨_, rfl⟩
  obtain ⟨X0, hX0⟩ : ∃ n, ((x - q) / 524288).toNat = n := ⟨_, rfl⟩
  obtain ⟨X1, hX1⟩ : ∃ n, ((x + q - 1) / 524288).toNat = n := ⟨_, rfl⟩
  have hYY : Y0 ≤ Y1 := by omega
  have hXX : X0 ≤ X1 := by omega
  rw [hY0] at n1 n1'
  rw [hY1] at n2 n2'
  rw [hX0] at n3 n3'
  rw [hX1] at n4 n4'
  have HN1 := Keep.mk (fun W => number_c W (y - q) (by constructor <;> omega))
  have HN2 := Keep.mk (fun W => number_c W (y + q - 1) (by constructor <;> omega))
  have HN3 := Keep.mk (fun W => number_c W (x - q) (by constructor <;> omega))
  have HN4 := Keep.mk (fun W => number_c W (x + q - 1) (by constructor <;> omega))
  rw [n1] at HN1
  rw [n2] at HN2
  rw [n3] at HN3
  rw [n4] at HN4
  have HBK : Keep (blk L (x, y) q ↔ ∃ b a : Nat, Y0 ≤ b ∧ b ≤ Y1 ∧ X0 ≤ a ∧ a ≤ X1 ∧ cel L a b = 35) := ⟨by
    unfold blk
    rw [if_neg (by omega)]
    simp only [n1, n2, n3, n4]
    constructor
    · rintro (q1 | q1 | ⟨b, a, q1, q2, q3, q4, q5⟩)
      · exact absurd hX q1
      · exact absurd hY q1
      · exact ⟨b, a, by omega, by omega, by omega, by omega, q5⟩
    · rintro ⟨b, a, q1, q2, q3, q4, q5⟩
      exact .inr (.inr ⟨b, a, by omega, by omega, by omega, by omega, q5⟩)⟩
  have HB := Keep.mk hb
  have HGA := Keep.mk ga
  have k1 : ¬ q < 1 := by omega
  have b1 : Y1 ≤ 64 := by omega
  have b2 : X1 ≤ 64 := by omega
  clear h hx hy hq h1 hX hY hb hsh z hr c2 n1 n1' n2 n2' n3 n3' n4 n4' hY0 hY1 hX0 hX1 ga i1 i2
  generalize wd L = p at *
  generalize L.length = n at *
  go_enter Tryd.func69, Tryd.ntmps69
  go_wp2_with fail
  go_quiet ((go_at_call 73; first | with_reducible exact Calls.quiet_of_same (HHX.out _) | with_reducible exact Calls.quiet_of_same (HHY.out _)))
  go_wp2_with fail
  refine (HN1.out _).mono ?_
  rintro e w1 ⟨rfl, rfl⟩
  obtain ⟨W2, hW2⟩ : ∃ W2, W.drewN nq = W2 := ⟨_, rfl⟩
  replace z0 : W2.cell? ⟨kp, 0, none⟩ = some (iv x) := by rw [← hW2]; exact z0
  replace z1 : W2.cell? ⟨kp, 1, none⟩ = some (iv y) := by rw [← hW2]; exact z1
  have HB2 : Keep (Bd W2 (.pointer (some ⟨kb, 0, none⟩)) L) := ⟨by rw [← hW2]; exact HB.out.kept (gr_drewN _ _ none)⟩
  have HG : Keep (w.grownBy W2 none) := ⟨by rw [← hW2]; exact HGA.out.trans (gr_drewN _ _ none)⟩
  rw [hW2]
  clear hW2 HB HGA c0 c1 hW hkp HN1 HHX HHY
  go_wp2_with fail
  go_loopw [7] (fun u wr => ∃ b : Nat, Y0 ≤ b ∧ b ≤ Y1 + 1 ∧ u = iv b ∧ wr = W2 ∧ Keep (∀ b' a' : Nat, Y0 ≤ b' → b' < b → X0 ≤ a' → a' ≤ X1 → cel L a' b' ≠ 35)) (fun u _ => (Y1 + 1 - intOf u).toNat)
  case atStart => exact ⟨Y0, by omega, by omega, rfl, rfl, ⟨fun b' a' h1 h2 => by omega⟩⟩
  case round =>
    obtain ⟨b, hb0, hb1, rfl, rfl, hR⟩ := hrel
    by_cases hlt : (b : Int) ≤ (Y1 : Int)
    · go_wp2_with fail
      refine (HN2.out _).mono ?_
      rintro e w1 ⟨rfl, rfl⟩
      go_wp2_with fail
      refine (HN3.out _).mono ?_
      rintro e w1 ⟨rfl, rfl⟩
      go_wp2_with fail
      go_loopw [8] (fun u ws => ∃ a : Nat, X0 ≤ a ∧ a ≤ X1 + 1 ∧ u = iv a ∧ ws = w1 ∧ Keep (∀ a' : Nat, X0 ≤ a' → a' < a → cel L a' b ≠ 35)) (fun u _ => (X1 + 1 - intOf u).toNat)
      case atStart => exact ⟨X0, by omega, by omega, rfl, rfl, ⟨fun a' h1 h2 => by omega⟩⟩
      case round =>
        obtain ⟨a, ha0, ha1, rfl, rfl, hA⟩ := hrel
        by_cases hlu : (a : Int) ≤ (X1 : Int)
        · have HC := cell_c _ _ _ HB2.out (a : Int) (b : Int)
          have HE := Keep.mk (show blk L (x, y) q ↔ ∃ b a : Nat, Y0 ≤ b ∧ b ≤ Y1 ∧ X0 ≤ a ∧ a ≤ X1 ∧ cel L a b = 35 from HBK.out)
          have hai : IntKind.i64.wrap ((a : Int) + 1) = ((a + 1 : Nat) : Int) := by rw [wi _ (by omega) (by omega)]; omega
          have HCE : Keep (cel L a b = cel L a b) := ⟨rfl⟩
          clear HBK
          obtain ⟨cv, hcv⟩ : ∃ cv, cel L a b = cv := ⟨_, rfl⟩
          rw [hcv] at HC
          have HCV := Keep.mk hcv
          clear hcv HCE
          by_cases h35 : cv = 35
          · have HT : Keep (blk L (x, y) q) := ⟨HE.out.2 ⟨b, a, by omega, by omega, by omega, by omega, by rw [HCV.out]; exact h35⟩⟩
            subst h35
            go_wp2_with fail
            refine (HN4.out _).mono ?_
            rintro e w1 ⟨rfl, rfl⟩
            go_wp2_with fail
            refine HC.mono ?_
            rintro e w1 ⟨rfl, rfl⟩
            go_wp2_with fail
            go_ret
            exact ⟨by rw [decide_eq_true HT.out]; rfl, HG.out⟩
          · go_wp2_with fail
            refine (HN4.out _).mono ?_
            rintro e w1 ⟨rfl, rfl⟩
            go_wp2_with fail
            refine HC.mono ?_
            rintro e w1 ⟨rfl, rfl⟩
            go_wp2_with fail
            go_roundw
            case rel =>
              refine ⟨a + 1, by omega, by omega, rfl, trivial, ⟨fun a' h1 h2 => ?_⟩⟩
              by_cases h3 : a' = a
              · subst h3; rw [HCV.out]; exact h35
              · exact hA.out a' h1 (by omega)
            case measure => simp [intOf]; omega
        · have hbi : IntKind.i64.wrap ((b : Int) + 1) = ((b + 1 : Nat) : Int) := by rw [wi _ (by omega) (by omega)]; omega
          go_wp2_with fail
          refine (HN4.out _).mono ?_
          rintro e w1 ⟨rfl, rfl⟩
          go_wp2_with fail
          go_roundw
          case rel =>
            refine ⟨b + 1, by omega, by omega, rfl, trivial, ⟨fun b' a' h1 h2 h3 h4 => ?_⟩⟩
            by_cases h5 : b' = b
            · subst h5; exact hA.out a' h3 (by omega)
            · exact hR.out b' a' h1 (by omega) h3 h4
          case measure => simp [intOf]; omega
    · have HT : Keep (¬ blk L (x, y) q) := ⟨fun hh => by
        obtain ⟨b', a', q1, q2, q3, q4, q5⟩ := HBK.out.1 hh
        exact hR.out b' a' q1 (by omega) q3 q4 q5⟩
      go_wp2_with fail
      refine (HN2.out _).mono ?_
      rintro e w1 ⟨rfl, rfl⟩
      go_wp2_with fail
      go_ret
      exact ⟨by rw [decide_eq_false HT.out]; rfl, HG.out⟩
set_option maxRecDepth 100000 in
set_option maxHeartbeats 8000000 in
theorem blocked_no (w : World) (v : Value) (L : Bo) (h : Bd w v L) (x y q : Int) (hx : In x) (hy : In y) (h1 : 1 ≤ q) (hN : ¬ (hld (wd L) x q ∧ hld L.length y q)) : Calls Tryd.prog 69 #[v, vv x y, iv q] w fun e w' => e = .returned (.bool (decide (blk L (x, y) q))) ∧ w.grownBy w' none := by
  have hT : blk L (x, y) q := by
    unfold blk
    rw [if_neg (by omega)]
    by_cases hX : hld (wd L) x q
    · exact .inr (.inl (fun hY => hN ⟨hX, hY⟩))
    · exact .inl hX
  rw [decide_eq_true hT]
  have hsh := h.sh
  have z := Has.newA w #[iv x, iv y] 23
  obtain ⟨W, hW⟩ : ∃ W, w.alloc (.cells #[iv x, iv y] 23) = W := ⟨_, rfl⟩
  obtain ⟨kb, kr, cr, rfl, c0, c1, c2, hr⟩ := h.o
  have ga := World.grownBy_alloc w (.cells #[iv x, iv y] 23) none
  replace c0 := ga.cell c0 (by simp)
  replace c1 := ga.cell c1 (by simp)
  obtain ⟨kp, hkp⟩ : ∃ kp, w.heap.size = kp := ⟨_, rfl⟩
  rw [hkp] at z
  rw [hW] at z ga c0 c1
  have z0 := z.cellv 0 _ rfl
  have z1 := z.cellv 1 _ rfl
  have HHX := Keep.mk (fun W => holds_c W (wd L) x q hsh.2.1.2 hx h1)
  have HHY := Keep.mk (fun W => holds_c W L.length y q hsh.1.2 hy h1)
  have HGA := Keep.mk ga
  have k1 : ¬ q < 1 := by omega
  by_cases hX : hld (wd L) x q
  · have hY : ¬ hld L.length y q := fun hY => hN ⟨hX, hY⟩
    rw [decide_eq_true hX] at HHX
    rw [decide_eq_false hY] at HHY
    clear h hx hy h1 hX hY hsh z hr c2 ga hN hT
    generalize wd L = p at *
    generalize L.length = n at *
    go_enter Tryd.func69, Tryd.ntmps69
    go_wp2_with fail
    go_quiet ((go_at_call 73; first | with_reducible exact Calls.quiet_of_same (HHX.out _) | with_reducible exact Calls.quiet_of_same (HHY.out _)))
    go_wp2_with fail
    go_ret
    exact ⟨rfl, HGA.out.trans (gr_drewN _ _ _)⟩
  · rw [decide_eq_false hX] at HHX
    clear h hx hy h1 hX hsh z hr c2 ga hN hT
    generalize wd L = p at *
    generalize L.length = n at *
    go_enter Tryd.func69, Tryd.ntmps69
    go_wp2_with fail
    go_quiet ((go_at_call 73; first | with_reducible exact Calls.quiet_of_same (HHX.out _)))
    go_wp2_with fail
    go_ret
    exact ⟨rfl, HGA.out.trans (gr_drewN _ _ _)⟩
set_option maxRecDepth 100000 in
set_option maxHeartbeats 8000000 in
theorem blocked_c (w : World) (v : Value) (L : Bo) (h : Bd w v L) (x y q : Int) (hx : In x) (hy : In y) (hq : In q) : Calls Tryd.prog 69 #[v, vv x y, iv q] w fun e w' => e = .returned (.bool (decide (blk L (x, y) q))) ∧ w.grownBy w' none := by
  by_cases h1 : q < 1
  · have e : decide (blk L (x, y) q) = decide (atL L (x, y) = 35) := by
      have : blk L (x, y) q ↔ atL L (x, y) = 35 := by unfold blk; rw [if_pos h1]
      simp only [this]
    rw [e]
    have hb := h.kept (World.grownBy_alloc w (.cells #[iv x, iv y] 23) none)
    have z := Has.newA w #[iv x, iv y] 23
    have ga := World.grownBy_alloc w (.cells #[iv x, iv y] 23) none
    obtain ⟨W, hW⟩ : ∃ W, w.alloc (.cells #[iv x, iv y] 23) = W := ⟨_, rfl⟩
    obtain ⟨kp, hkp⟩ : ∃ kp, w.heap.size = kp := ⟨_, rfl⟩
    rw [hkp] at z
    rw [hW] at hb z ga
    have z0 := z.cellv 0 _ rfl
    have z1 := z.cellv 1 _ rfl
    have HC := solid_c _ _ _ hb x y hx hy
    have HGA := Keep.mk ga
    clear h hb z ga hx hy hq e
    generalize decide (atL L (x, y) = 35) = r at *
    go_enter Tryd.func69, Tryd.ntmps69
    go_wp2_with fail
    refine HC.mono ?_
    rintro e w1 ⟨rfl, g1⟩
    have HG := Keep.mk (HGA.out.trans g1)
    clear HC g1 z0 z1
    go_wp2_with fail
    go_ret
    exact ⟨rfl, HG.out⟩
  · by_cases hN : hld (wd L) x q ∧ hld L.length y q
    · exact blocked_go w v L h x y q hx hy hq (by omega) hN.1 hN.2
    · exact blocked_no w v L h x y q hx hy (by omega) hN
end Go.Proofs.YtobdcngjpgndiabDoor.Bo
