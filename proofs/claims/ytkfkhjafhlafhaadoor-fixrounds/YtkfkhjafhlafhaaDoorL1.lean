/- FixBounds -/
import Derived.Test.YtkfkhjafhlafhaaDoorL0
namespace Go.Proofs.YtkfkhjafhlafhaaDoor
open Go Go.RowKit

theorem bd_range (n : Int) : -1099511627776 ≤ bd n ∧ bd n ≤ 1099511627776 := by rw [bd_eq]; (repeat' split) <;> omega
theorem side_range (bl : Bool) (q r : Int) (h : 0 ≤ q) : -1099511627776 ≤ sideZ bl q r ∧ sideZ bl q r ≤ 1099511627776 := by
  unfold sideZ; cases bl <;> simp only [Bool.false_eq_true, if_true, if_false] <;> (repeat' split) <;> omega
theorem div_range (a b : Int) : -1099511627776 ≤ divZ a b ∧ divZ a b ≤ 1099511627776 := by
  unfold divZ
  split
  · unfold clampZ; (repeat' split) <;> omega
  · refine side_range _ _ _ (Int.ediv_nonneg ?_ ?_)
    · unfold abs64; split <;> omega
    · unfold abs64; split <;> omega
theorem add_comm' (a b : Int) : addZ b a = addZ a b := by unfold addZ; rw [Int.add_comm]
theorem mul_comm' (a b : Int) : mulZ b a = mulZ a b := by unfold mulZ; rw [Int.mul_comm]
theorem add_zero' (a : Int) : addZ a 0 = bd a := by unfold addZ; rw [Int.add_zero]
theorem mul_one' (a : Int) : mulZ a 65536 = bd a := by unfold mulZ; rw [Int.mul_ediv_cancel _ (by decide)]
theorem mul_zero' (a : Int) : mulZ a 0 = 0 := by unfold mulZ; rw [Int.mul_zero]; decide
theorem div_one' (a : Int) : divZ a 65536 = bd a := by
  unfold divZ
  rw [if_neg (by decide)]
  have e1 : abs64 65536 = 65536 := by decide
  have e2 : decide ((65536 : Int) < 0) = false := by decide
  rw [e1, e2, Int.mul_ediv_cancel _ (by decide), Int.mul_emod_left, Bool.bne_false, bd_eq]
  unfold sideZ abs64
  by_cases c : a < 0
  · simp only [c, decide_true, if_true]; (repeat' split) <;> omega
  · simp only [c, decide_false, Bool.false_eq_true, if_false]; (repeat' split) <;> omega
theorem div_zero' (b : Int) : divZ 0 b = 0 := by
  unfold divZ
  have e1 : abs64 0 = 0 := by decide
  rw [e1, Int.zero_mul, Int.zero_ediv, Int.zero_emod]
  split
  · decide
  · generalize (decide ((0 : Int) < 0) != decide (b < 0)) = bl
    cases bl <;> decide
theorem div_self' (a : Int) (h : a ≠ 0) : divZ a a = 65536 := by
  unfold divZ
  rw [if_neg h, bne_self_eq_false]
  have hp := abs64_pos a h
  rw [Int.mul_comm, Int.mul_ediv_cancel _ (by omega)]
  unfold sideZ
  simp
theorem root_steps : ∀ (k : Nat) (n root : Int), RInv n root (((2 ^ k : Nat) : Int)) → ∃ r, IsRt n r
  | 0, n, root, h => by
    have h1 : ((2 ^ 0 : Nat) : Int) = 1 := rfl
    rw [h1] at h
    obtain ⟨a, b⟩ := h.next (by omega)
    have e : (1 : Int) / 2 = 0 := by decide
    rw [e] at a b
    by_cases c : (root + 1) * (root + 1) ≤ n
    · exact ⟨_, (a c).last⟩
    · exact ⟨_, (b c).last⟩
  | k + 1, n, root, h => by
    have hp := Nat.two_pow_pos (k + 1)
    obtain ⟨a, b⟩ := h.next (by omega)
    have e : ((2 ^ (k + 1) : Nat) : Int) / 2 = ((2 ^ k : Nat) : Int) := by rw [Nat.pow_succ]; omega
    rw [e] at a b
    by_cases c : (root + ((2 ^ (k + 1) : Nat) : Int)) * (root + ((2 ^ (k + 1) : Nat) : Int)) ≤ n
    · exact root_steps k n _ (a c)
    · exact root_steps k n _ (b c)
theorem root_is (a : Int) (c : ¬ a < 0) (h : In a) : ∃ r, IsRt (a * 65536) r ∧ r < 1099511627776 := by
  obtain ⟨h1, h2⟩ := h
  have e : ((2 ^ 39 : Nat) : Int) = 549755813888 := rfl
  obtain ⟨r, hr⟩ := root_steps 39 (a * 65536) 0 (RInv.first 39 rfl (by rw [e]; omega) (by omega) (by rw [e]; omega))
  refine ⟨r, hr, Int.lt_of_not_ge fun g => ?_⟩
  have h1 := sq_le (show (0 : Int) ≤ 1099511627776 by omega) g
  have h2 := hr.le
  omega

theorem root_range (a : Int) (h : In a) : 0 ≤ rootZ a ∧ rootZ a < 1099511627776 := by
  by_cases c : a < 0
  · rw [rootZ_neg c]; omega
  · obtain ⟨r, hr, hl⟩ : ∃ r, IsRt (a * 65536) r ∧ r < 1099511627776 := root_is a c h
    rw [rootZ_of c hr]
    exact ⟨hr.p, hl⟩

set_option maxHeartbeats 4000000 in
theorem bounds_any (a b : Int) (ha : In a) (hb : In b) (w : World) (hk : Kc w) :
    Calls Tryd.prog 4 #[.int .i64 a, .int .i64 b] w fun e w' => e = .returned (.bool true) ∧ w.grownBy w' none := by
  have c0 := fixed_c w hk
  have cs := fun W => add_c a b ha hb W
  have cp := fun W => mul_c a b ha hb W
  have cq := fun W => div_c a b ha hb W
  have cr := fun W => root_c a ha W
  have cs2 := fun W => add_c b a hb ha W
  have cp2 := fun W => mul_c b a hb ha W
  rw [add_comm' a b] at cs2
  rw [mul_comm' a b] at cp2
  have i0 : In 0 := in_small _ (by decide) (by decide)
  have i1 : In 65536 := in_small _ (by decide) (by decide)
  have cx := fun W => clamp_c a (-1099511627776) 1099511627776 W
  have d1 := fun W => add_c a 0 ha i0 W
  have d2 := fun W => mul_c a 65536 ha i1 W
  have d3 := fun W => div_c a 65536 ha i1 W
  have d4 := fun W => mul_c a 0 ha i0 W
  have d5 := fun W => div_c 0 b i0 hb W
  have d6 := fun W => div_c a a ha ha W
  rw [add_zero'] at d1
  rw [mul_one'] at d2
  rw [div_one'] at d3
  rw [mul_zero'] at d4
  rw [div_zero'] at d5
  have HX : Keep (clampZ a (-1099511627776) 1099511627776 = bd a) := ⟨rfl⟩
  rw [HX.out] at cx
  have rs := bd_range (a + b)
  have rp := bd_range (a * b / 65536)
  have rq := div_range a b
  have rr := root_range a ha
  have es : addZ a b = bd (a + b) := rfl
  have ep : mulZ a b = bd (a * b / 65536) := rfl
  rw [es] at cs cs2
  rw [ep] at cp cp2
  generalize bd (a + b) = s at *
  generalize bd (a * b / 65536) = p at *
  generalize divZ a b = q at *
  generalize rootZ a = r at *
  generalize bd a = x at *
  have k1 := fun W => within_c s rs.1 rs.2 W
  have k2 := fun W => within_c p rp.1 rp.2 W
  have k3 := fun W => within_c q rq.1 rq.2 W
  obtain ⟨r0, r1⟩ := rr
  clear HX es ep rs rp rq hk i0 i1 hb
  go_enter Tryd.func4, Tryd.ntmps4
  go_wp2_with fail
  refine c0.mono ?_
  rintro e w1 ⟨rfl, hg⟩
  have HG1 := Keep.mk hg
  clear hg
  go_wp2_with fail
  refine (cs _).mono ?_
  rintro e w' ⟨rfl, hw⟩; rw [hw]
  go_wp2_with fail
  refine (cp _).mono ?_
  rintro e w' ⟨rfl, hw⟩; rw [hw]
  go_wp2_with fail
  refine (cq _).mono ?_
  rintro e w2 ⟨rfl, hg⟩
  have HG2 := Keep.mk (HG1.out.trans hg)
  clear hg
  go_wp2_with fail
  refine (cr _).mono ?_
  rintro e w' ⟨rfl, hw⟩; rw [hw]
  go_wp2_with fail
  refine (k1 _).mono ?_
  rintro e w' ⟨rfl, hw⟩; rw [hw]
  go_wp2_with fail
  refine (k2 _).mono ?_
  rintro e w' ⟨rfl, hw⟩; rw [hw]
  go_wp2_with fail
  refine (k3 _).mono ?_
  rintro e w' ⟨rfl, hw⟩; rw [hw]
  go_wp2_with fail
  refine (cs2 _).mono ?_
  rintro e w' ⟨rfl, hw⟩; rw [hw]
  go_wp2_with fail
  refine (cp2 _).mono ?_
  rintro e w' ⟨rfl, hw⟩; rw [hw]
  go_wp2_with fail
  refine (cx _).mono ?_
  rintro e w' ⟨rfl, hw⟩; rw [hw]
  go_wp2_with fail
  refine (d1 _).mono ?_
  rintro e w' ⟨rfl, hw⟩; rw [hw]
  go_wp2_with fail
  refine (d2 _).mono ?_
  rintro e w' ⟨rfl, hw⟩; rw [hw]
  go_wp2_with fail
  refine (d3 _).mono ?_
  rintro e w4 ⟨rfl, hg⟩
  have HG4 := Keep.mk (HG2.out.trans hg)
  clear hg
  go_wp2_with fail
  refine (d4 _).mono ?_
  rintro e w' ⟨rfl, hw⟩; rw [hw]
  go_wp2_with fail
  refine (d5 _).mono ?_
  rintro e w5 ⟨rfl, hg⟩
  have HG5 := Keep.mk (HG4.out.trans hg)
  clear hg
  by_cases hz : a = 0
  · go_wp2_with fail
    go_ret
    exact ⟨rfl, HG5.out⟩
  · rw [div_self' a hz] at d6
    go_wp2_with fail
    refine (d6 _).mono ?_
    rintro e w6 ⟨rfl, hg⟩
    have HG6 := Keep.mk (HG5.out.trans hg)
    clear hg
    go_wp2_with fail
    go_ret
    exact ⟨rfl, HG6.out⟩
end Go.Proofs.YtkfkhjafhlafhaaDoor
