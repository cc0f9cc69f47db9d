import Derived.Laws.FloatArith
namespace Go.Proofs.Ytfhhneibdmjfgaa
namespace Fx
open Ieee

theorem f_least : single.leastPlace = -149 := by decide
theorem f_binade : single.binade = 8388608 := by decide
theorem f_inf : single.infRung = 2139095040 := by decide
theorem f_sign : single.signWeight = 2147483648 := by decide

theorem read_word (s : Bool) (rung : Nat) (h : rung < 2147483648) : single.read (single.word s rung) =
    (if rung < 8388608 then .number s rung (-149)
     else if rung < 2139095040 then .number s (8388608 + rung % 8388608) (-149 + (rung / 8388608 - 1 : Nat))
     else if rung = 2139095040 then .infinity s else .nan s (rung - 2139095040)) := by
  unfold Format.read Format.word
  simp only [f_least, f_binade, f_inf, f_sign]
  cases s
  · have e1 : rung / 2147483648 % 2 = 0 := by omega
    have e2 : rung % 2147483648 = rung := by omega
    simp only [Bool.false_eq_true, if_false, e1, e2]
    rfl
  · have e1 : (2147483648 + rung) / 2147483648 % 2 = 1 := by omega
    have e2 : (2147483648 + rung) % 2147483648 = rung := by omega
    simp only [if_true, e1, e2]
    rfl

theorem cut_zero (way : Toward) (s : Bool) (n : Nat) : way.cut s n 0 = n := by
  unfold Toward.cut
  cases way <;> simp [Nat.mod_one]

theorem cut_pow (way : Toward) (s : Bool) (m j : Nat) (hm : 0 < m) : way.cut s (m * 2 ^ j) j = m := by
  unfold Toward.cut
  have hl : j ≤ (m * 2 ^ j).log2 := by
    rw [Nat.le_log2 (by have := Nat.two_pow_pos j; exact Nat.ne_of_gt (Nat.mul_pos hm this))]
    exact Nat.le_mul_of_pos_left _ hm
  have hmin : min j ((m * 2 ^ j).log2 + 2) = j := by omega
  have e1 : m * 2 ^ j / 2 ^ j = m := Nat.mul_div_cancel m (Nat.two_pow_pos j)
  have e2 : m * 2 ^ j % 2 ^ j = 0 := Nat.mul_mod_left m (2 ^ j)
  simp only [hmin, Nat.one_shiftLeft, e1, e2]
  have := Nat.two_pow_pos j
  cases way <;> simp <;> omega

theorem log2_norm (m j : Nat) (h1 : 8388608 ≤ m) (h2 : m < 16777216) : (m * 2 ^ j).log2 = 23 + j := by
  rw [Nat.log2_eq_iff (by have := Nat.two_pow_pos j; exact Nat.ne_of_gt (Nat.mul_pos (by omega) this))]
  refine ⟨?_, ?_⟩
  · rw [Nat.pow_add]
    exact Nat.mul_le_mul_right _ h1
  · rw [show 23 + j + 1 = 24 + j by omega, Nat.pow_add]
    exact (Nat.mul_lt_mul_right (Nat.two_pow_pos j)).2 h2

/-- the nearest word to a number whose first 24 digits are all of it -/
theorem near_norm (s : Bool) (m j : Nat) (e : Int) (h1 : 8388608 ≤ m) (h2 : m < 16777216) (l1 : -149 ≤ e + j) (l2 : e + j ≤ 104) :
    single.nearest s (m * 2 ^ j) e = single.word s ((e + j + 149).toNat * 8388608 + m) := by
  unfold Format.nearest
  have hz : ¬ m * 2 ^ j = 0 := by have := Nat.two_pow_pos j; exact Nat.ne_of_gt (Nat.mul_pos (by omega) this)
  rw [if_neg hz]
  simp only [log2_norm m j h1 h2, f_least, f_binade, f_inf]
  have hf : single.fractionBits = 23 := rfl
  simp only [hf]
  have hlast : max (e + ((23 + j : Nat) : Int) - ((23 : Nat) : Int)) (-149) = e + j := by omega
  rw [hlast]
  have t1 : (e - (e + (j : Int))).toNat = 0 := by omega
  have t2 : (e + (j : Int) - e).toNat = j := by omega
  have t3 : e + (j : Int) - -149 = e + j + 149 := by omega
  rw [t1, t2, t3, Nat.shiftLeft_zero, cut_pow _ _ _ _ (by omega)]
  congr 1
  omega

theorem read_near (s : Bool) (m j : Nat) (e : Int) (h1 : 8388608 ≤ m) (h2 : m < 16777216) (l1 : -149 ≤ e + j) (l2 : e + j ≤ 104) :
    single.read (single.nearest s (m * 2 ^ j) e) = .number s m (e + j) := by
  rw [near_norm s m j e h1 h2 l1 l2, read_word _ _ (by omega)]
  have a1 : ¬ (e + (j : Int) + 149).toNat * 8388608 + m < 8388608 := by omega
  have a2 : (e + (j : Int) + 149).toNat * 8388608 + m < 2139095040 := by omega
  rw [if_neg a1, if_pos a2]
  have a3 : ((e + (j : Int) + 149).toNat * 8388608 + m) % 8388608 = m - 8388608 := by omega
  have a4 : ((e + (j : Int) + 149).toNat * 8388608 + m) / 8388608 = (e + (j : Int) + 149).toNat + 1 := by omega
  rw [a3, a4]
  have a5 : 8388608 + (m - 8388608) = m := by omega
  have a6 : (-149 : Int) + (((e + (j : Int) + 149).toNat + 1 - 1 : Nat) : Int) = e + j := by omega
  rw [a5, a6]

/-- 65536, Max and -Max as words -/
theorem read_one : single.read 1199570944 = .number false 8388608 (-7) := by decide
theorem read_max : single.read 1400897536 = .number false 8388608 17 := by decide
theorem read_min : single.read 3548381184 = .number true 8388608 17 := by decide

end Fx
end Go.Proofs.Ytfhhneibdmjfgaa
