/- scripts as they read; BucketLeft's walk. -/
import Derived.Test.YtgdifgflofjeiaaL1
namespace Go.Proofs.Ytgdifgflofjeiaa
open Go Go.RowKit
/-- a script as it reads -/
structure Scr (w : World) (a : Option Addr) (n : Nat) (xs : List (Int × Int)) : Prop where
  len : xs.length = n
  at_ : 0 < n → ∃ B o, a = some ⟨B, o, none⟩ ∧ ∀ (j : Nat) k m, xs[j]? = some (k, m) → w.cell? ⟨B, o + j * 2, none⟩ = some (.int .i64 k) ∧ w.cell? ⟨B, o + j * 2 + 1, none⟩ = some (.int .u64 m) ∧ 0 ≤ m ∧ m < 18446744073709551616
theorem cell_kept {w w' : World} {x : Addr} {v : Value} (hg : w.grownBy w' none) (h : w.cell? x = some v) : w'.cell? x = some v := by
  have hb : x.block < w.heap.size := World.block_lt_of_cell? w x h
  rw [← h]
  simp only [World.cell?]
  rw [hg.block x.block hb (by simp)]
theorem Scr.step {w : World} {a : Option Addr} {n : Nat} {xs : List (Int × Int)} (h : Scr w a n xs) {i : Nat} (hi : i < n) : ∃ B o k m, a = some ⟨B, o, none⟩ ∧ xs[i]? = some (k, m) ∧ 0 ≤ m ∧ m < 18446744073709551616 ∧ ∀ w', w.grownBy w' none → w'.cell? ⟨B, o + i * 2, none⟩ = some (.int .i64 k) ∧ w'.cell? ⟨B, o + i * 2 + 1, none⟩ = some (.int .u64 m) := by
  obtain ⟨B, o, e, hc⟩ := h.at_ (by omega)
  have hl := h.len
  obtain ⟨k, m, hx⟩ : ∃ k m, xs[i]? = some (k, m) := ⟨_, _, List.getElem?_eq_getElem (by omega)⟩
  obtain ⟨c1, c2, m0, m1⟩ := hc i k m hx
  exact ⟨B, o, k, m, e, hx, m0, m1, fun w' g => ⟨cell_kept g c1, cell_kept g c2⟩⟩
set_option maxRecDepth 100000 in
set_option maxHeartbeats 16000000 in
theorem left_law (x x2 : Int) (a : Option Addr) (n c : Nat) (xs : List (Int × Int)) (w : World) (hs : Scr w a n xs) (hn : n * 16 ≤ 140737488355328) :
    Calls Try.prog 5 #[.int .i64 x, .int .i64 x2, .slice a n c] w fun e w' => e = .returned (.bool true) ∧ w.grownBy w' none := by
  have HX : Keep (Scr w a n xs) := ⟨hs⟩
  clear hs
  go_enter Try.func5, Try.ntmps5
  go_wp2_with fail
  refine (lfull_c x x2 _).mono ?_
  rintro e w1 ⟨r, u, hk, rfl, g1⟩
  have HM : Keep (MB w (w1.alloc (.cells #[.int .i64 r, .int .i64 u, .int .i64 (16 * u)] 24)) w1.heap.size r u (16 * u)) := ⟨MB.full g1 hk⟩
  obtain ⟨hr0, hr1, hu0, hu1⟩ := hk
  clear g1
  go_wp2_with fail
  generalize w1.alloc _ = w2 at *
  generalize w1.heap.size = kb at *
  clear w1
  go_loopw [11] (fun s w' => ∃ (i : Nat) (Y : Int), i ≤ n ∧ i ≤ 300 ∧ s = .int .i64 (i : Nat) ∧ Keep (MB w w' kb r u Y)) (fun s _ => 300 - (intOf s).toNat)
  case atStart => exact ⟨0, 16 * u, by omega, by omega, rfl, HM⟩
  case round =>
    clear HM
    obtain ⟨i, Y, i1, i2, rfl, HM⟩ := hrel
    by_cases hi : i < n ∧ i < 300
    · obtain ⟨hi, hi3⟩ := hi
      have hia : (i : Int) < (n : Int) := by omega
      have hib : (i : Int) < 300 := by omega
      obtain ⟨B, o, k, m, rfl, hxi, m0, m1, hcc⟩ := HX.out.step hi
      obtain ⟨c1, c2⟩ := hcc wr HM.out.g
      have HCC := Keep.mk hcc
      clear hcc hxi
      have hwi : IntKind.i64.wrap ((i : Int) + 1) = ((i + 1 : Nat) : Int) := wi _ (by omega) (by omega)
      by_cases k1 : k = 1
      · subst k1
        go_wp2_with fail
        have c := my_take HM.out
        refine c.mono ?_
        rintro e w6 ⟨rfl, hb, -⟩
        replace HM := Keep.mk hb
        clear c hb c1 c2
        generalize took Y = YY at *
        go_wp2_with fail
        have HY : Keep (0 ≤ YY / 16 ∧ YY / 16 ≤ u) := ⟨by have := HM.out.b.h0; omega, by have := HM.out.b.h1; omega⟩
        have cL := my_left HM.out
        refine cL.mono ?_
        rintro e w7 ⟨rfl, rfl⟩
        clear cL
        have cL := my_left HM.out
        generalize YY / 16 = q at *
        have hq0 : ¬ q < 0 := by have := HY.out; omega
        have hq1 : ¬ u < q := by have := HY.out; omega
        go_wp2_with fail
        refine cL.mono ?_
        rintro e w8 ⟨rfl, rfl⟩
        clear cL
        go_wp2_with fail
        refine ⟨⟨i + 1, _, by omega, by omega, rfl, HM⟩, ?_⟩
        simp only [intOf]; omega
      by_cases k2 : k = 2
      · subst k2
        go_wp2_with fail
        have c := my_tick HM.out
        refine c.mono ?_
        rintro e w6 ⟨rfl, hb, -⟩
        replace HM := Keep.mk hb
        clear c hb c1 c2
        generalize tk r u Y 1 = YY at *
        go_wp2_with fail
        have HY : Keep (0 ≤ YY / 16 ∧ YY / 16 ≤ u) := ⟨by have := HM.out.b.h0; omega, by have := HM.out.b.h1; omega⟩
        have cL := my_left HM.out
        refine cL.mono ?_
        rintro e w7 ⟨rfl, rfl⟩
        clear cL
        have cL := my_left HM.out
        generalize YY / 16 = q at *
        have hq0 : ¬ q < 0 := by have := HY.out; omega
        have hq1 : ¬ u < q := by have := HY.out; omega
        go_wp2_with fail
        refine cL.mono ?_
        rintro e w8 ⟨rfl, rfl⟩
        clear cL
        go_wp2_with fail
        refine ⟨⟨i + 1, _, by omega, by omega, rfl, HM⟩, ?_⟩
        simp only [intOf]; omega
      by_cases k3 : k = 3
      · subst k3
        go_wp2_with fail
        have c := my_ticks m HM.out m0 m1
        refine c.mono ?_
        rintro e w6 ⟨rfl, hb, -⟩
        replace HM := Keep.mk hb
        clear c hb c1 c2
        generalize tk r u Y m = YY at *
        go_wp2_with fail
        have HY : Keep (0 ≤ YY / 16 ∧ YY / 16 ≤ u) := ⟨by have := HM.out.b.h0; omega, by have := HM.out.b.h1; omega⟩
        have cL := my_left HM.out
        refine cL.mono ?_
        rintro e w7 ⟨rfl, rfl⟩
        clear cL
        have cL := my_left HM.out
        generalize YY / 16 = q at *
        have hq0 : ¬ q < 0 := by have := HY.out; omega
        have hq1 : ¬ u < q := by have := HY.out; omega
        go_wp2_with fail
        refine cL.mono ?_
        rintro e w8 ⟨rfl, rfl⟩
        clear cL
        go_wp2_with fail
        refine ⟨⟨i + 1, _, by omega, by omega, rfl, HM⟩, ?_⟩
        simp only [intOf]; omega
      · generalize Y = YY at *
        go_wp2_with fail
        have HY : Keep (0 ≤ YY / 16 ∧ YY / 16 ≤ u) := ⟨by have := HM.out.b.h0; omega, by have := HM.out.b.h1; omega⟩
        have cL := my_left HM.out
        refine cL.mono ?_
        rintro e w7 ⟨rfl, rfl⟩
        clear cL
        have cL := my_left HM.out
        generalize YY / 16 = q at *
        have hq0 : ¬ q < 0 := by have := HY.out; omega
        have hq1 : ¬ u < q := by have := HY.out; omega
        go_wp2_with fail
        refine cL.mono ?_
        rintro e w8 ⟨rfl, rfl⟩
        clear cL
        go_wp2_with fail
        refine ⟨⟨i + 1, _, by omega, by omega, rfl, HM⟩, ?_⟩
        simp only [intOf]; omega
    · have hc : ¬ i < n ∨ (i < n ∧ ¬ i < 300) := by omega
      clear hi
      obtain ⟨q, hq⟩ : ∃ q, Y / 16 = q := ⟨_, rfl⟩
      have HQ : Keep (Y / 16 = q ∧ 0 ≤ q ∧ q ≤ 1000) := ⟨hq, by have := HM.out.b.h0; omega, by have := HM.out.b.h1; omega⟩
      clear hq
      have HYY : Keep (0 ≤ Y) := ⟨HM.out.b.h0⟩
      rcases hc with hi | ⟨hi, hi3⟩
      case' inl => have hia : ¬ (i : Int) < (n : Int) := by omega
      case' inr => have hia : (i : Int) < (n : Int) := by omega
      case' inr => have hib : ¬ (i : Int) < 300 := by omega
      all_goals
        go_wp2_with fail
        have c := my_left HM.out
        rw [HQ.out.1] at c
        refine c.mono ?_
        rintro e w5 ⟨rfl, rfl⟩
        clear c
        have q0 := HM.out.b.has.cellv 0 _ rfl
        have q1 := HM.out.b.has.cellv 1 _ rfl
        have q2 := HM.out.b.has.cellv 2 _ rfl
        have HH : Keep (M2 w (w5.alloc (.cells #[.int .i64 r, .int .i64 u, .int .i64 Y] 24)) kb w5.heap.size r u (Y - 16 * 0) Y) := ⟨by rw [Int.mul_zero, Int.sub_zero]; exact HM.out.al _, HM.out.copy, by have := HM.out.lt; omega⟩
        go_wp2_with fail
        clear q0 q1 q2 HM
        generalize w5.alloc _ = w6 at *
        generalize w5.heap.size = kc at *
        have hqa := HQ.out.2.1
        have hqb := HQ.out.2.2
        go_loopw [14] (fun s w' => ∃ j : Int, 0 ≤ j ∧ j ≤ q ∧ s = .int .i64 j ∧ Keep (M2 w w' kb kc r u (Y - 16 * j) Y)) (fun s _ => (q - intOf s).toNat)
        case atStart => exact ⟨0, by omega, hqa, rfl, HH⟩
        case round =>
          clear HH
          obtain ⟨j, j0, j1, rfl, HH⟩ := hrel
          have hw1 : IntKind.i64.wrap (q - j) = q - j := wi _ (by omega) (by omega)
          have hw2 : IntKind.i64.wrap (q - j - 1) = q - j - 1 := wi _ (by omega) (by omega)
          have hw3 : IntKind.i64.wrap (j + 1) = j + 1 := wi _ (by omega) (by omega)
          by_cases hj : j < q
          · go_wp2_with fail
            have c := my_take HH.out.b
            rw [show tcode (Y - 16 * j) = 0 by unfold tcode; rw [if_neg (by have := HQ.out; omega)], show took (Y - 16 * j) = Y - 16 * (j + 1) by unfold took; rw [if_neg (by have := HQ.out; omega)]; omega] at c
            refine c.mono ?_
            rintro e w7 ⟨rfl, hb, g⟩
            have HH2 : Keep (M2 w w7 kb kc r u (Y - 16 * (j + 1)) Y) := ⟨hb, HH.out.c.other g HH.out.b.lo (Ne.symm HH.out.n), HH.out.n⟩
            clear c hb g HH
            go_wp2_with fail
            have c := my_left HH2.out.b
            rw [show (Y - 16 * (j + 1)) / 16 = q - j - 1 by have := HQ.out; omega] at c
            refine c.mono ?_
            rintro e w8 ⟨rfl, rfl⟩
            clear c
            go_wp2_with fail
            refine ⟨⟨j + 1, by omega, by omega, rfl, HH2⟩, ?_⟩
            simp only [intOf]; omega
          · have e : j = q := by omega
            subst e
            go_wp2_with fail
            have c := my_take HH.out.b
            rw [show tcode (Y - 16 * j) = 80 by unfold tcode; rw [if_pos (by have := HQ.out; omega)], show took (Y - 16 * j) = Y - 16 * j by unfold took; rw [if_pos (by have := HQ.out; omega)]] at c
            refine c.mono ?_
            rintro e w7 ⟨rfl, hb, g⟩
            have HH2 : Keep (M2 w w7 kb kc r u (Y - 16 * j) Y) := ⟨hb, HH.out.c.other g HH.out.b.lo (Ne.symm HH.out.n), HH.out.n⟩
            clear c hb g HH
            go_wp2_with fail
            have c := my_left HH2.out.b
            rw [show (Y - 16 * j) / 16 = 0 by have := HQ.out; have := HYY.out; omega] at c
            refine c.mono ?_
            rintro e w8 ⟨rfl, rfl⟩
            clear c
            go_wp2_with fail
            have c := my_left HH2.out.c
            rw [HQ.out.1] at c
            refine c.mono ?_
            rintro e w9 ⟨rfl, rfl⟩
            clear c
            go_wp2_with fail
            go_ret
            exact ⟨rfl, HH2.out.b.g⟩
end Go.Proofs.Ytgdifgflofjeiaa
