namespace Go.Proofs.YtkfkhjafhlafhaaDoor
namespace Fx

/-- the school division's digit: what the estimate is and how it is mended -/
theorem kn_lt {u un1 y : Nat} (hu : u < y) (h1 : un1 < 4294967296) : (u * 4294967296 + un1) / y < 4294967296 := by
  rw [Nat.div_lt_iff_lt_mul (by omega)]
  have := Nat.mul_le_mul_right 4294967296 (show u + 1 ≤ y from hu)
  rw [Nat.add_mul] at this
  rw [Nat.mul_comm 4294967296 y]
  omega

theorem kn_first {u un1 y yn1 yn0 : Nat} (hy : y = yn1 * 4294967296 + yn0) (h1 : un1 < 4294967296) (hp : 0 < yn1) :
    (u * 4294967296 + un1) / y ≤ u / yn1 := by
  have h : u < (u / yn1 + 1) * yn1 := by
    have := Nat.lt_div_mul_add hp (a := u)
    rw [Nat.add_mul]; omega
  have h2 := Nat.mul_le_mul_right 4294967296 (show u + 1 ≤ (u / yn1 + 1) * yn1 from h)
  have h3 : (u / yn1 + 1) * y = (u / yn1 + 1) * yn1 * 4294967296 + (u / yn1 + 1) * yn0 := by
    rw [hy, Nat.mul_add, Nat.mul_assoc]
  have : (u * 4294967296 + un1) / y < u / yn1 + 1 := by
    rw [Nat.div_lt_iff_lt_mul (by omega)]
    rw [h3]
    rw [Nat.add_mul] at h2
    omega
  omega

theorem kn_eq {q y yn1 yn0 : Nat} (hy : y = yn1 * 4294967296 + yn0) : q * y = q * yn1 * 4294967296 + q * yn0 := by
  rw [hy, Nat.mul_add, Nat.mul_assoc]

theorem kn_more {u un1 y yn1 yn0 q r : Nat} (hy : y = yn1 * 4294967296 + yn0) (h1 : un1 < 4294967296) (hu : u < y)
    (hi : u = q * yn1 + r) (c : 4294967296 ≤ q ∨ 4294967296 * r + un1 < q * yn0) :
    (u * 4294967296 + un1) / y < q := by
  rcases c with c | c
  · exact Nat.lt_of_lt_of_le (kn_lt hu h1) c
  · rw [Nat.div_lt_iff_lt_mul (by omega), kn_eq hy]
    generalize q * yn1 = A at *
    generalize q * yn0 = B at *
    omega

theorem kn_step {u un1 y yn1 yn0 q r : Nat} (hy : y = yn1 * 4294967296 + yn0) (h1 : un1 < 4294967296) (hu : u < y)
    (hi : u = q * yn1 + r) (c : 4294967296 ≤ q ∨ 4294967296 * r + un1 < q * yn0) :
    1 ≤ q ∧ u = (q - 1) * yn1 + (r + yn1) ∧ (u * 4294967296 + un1) / y ≤ q - 1 := by
  have h := kn_more hy h1 hu hi c
  clear c hy hu
  generalize (u * 4294967296 + un1) / y = z at *
  obtain ⟨p, rfl⟩ : ∃ p, q = p + 1 := ⟨q - 1, by omega⟩
  rw [Nat.add_mul, Nat.one_mul] at hi
  rw [Nat.add_sub_cancel]
  exact ⟨by omega, by omega, by omega⟩

theorem kn_exit {u un1 y yn1 yn0 q r : Nat} (hy : y = yn1 * 4294967296 + yn0) (hu : u < y)
    (hi : u = q * yn1 + r) (hle : (u * 4294967296 + un1) / y ≤ q) (c : q * yn0 ≤ 4294967296 * r + un1) :
    q = (u * 4294967296 + un1) / y := by
  have : q ≤ (u * 4294967296 + un1) / y := by
    rw [Nat.le_div_iff_mul_le (by omega), kn_eq hy]
    generalize q * yn1 = A at *
    generalize q * yn0 = B at *
    omega
  omega

theorem kn_exit2 {u un1 y yn1 yn0 q r : Nat} (hy : y = yn1 * 4294967296 + yn0) (h0 : yn0 < 4294967296) (hu : u < y)
    (hi : u = q * yn1 + r) (hle : (u * 4294967296 + un1) / y ≤ q) (c : 4294967296 ≤ r) :
    q = (u * 4294967296 + un1) / y := by
  have hq : q < 4294967296 := by
    apply Classical.byContradiction
    intro hn
    have := Nat.mul_le_mul_right yn1 (show 4294967296 ≤ q by omega)
    generalize q * yn1 = A at *
    omega
  refine kn_exit hy hu hi hle ?_
  have h2 := Nat.mul_le_mul (show q ≤ 4294967295 by omega) (show yn0 ≤ 4294967295 by omega)
  generalize q * yn0 = B at *
  omega

/-- the two digits together -/
theorem kn_two' {n un0 y : Nat} (hy : 0 < y) :
    (n / y) * 4294967296 + (n % y * 4294967296 + un0) / y = (n * 4294967296 + un0) / y
    ∧ (n % y * 4294967296 + un0) % y = (n * 4294967296 + un0) % y := by
  have e := Nat.div_add_mod n y
  revert e
  generalize n / y = q
  generalize n % y = r
  intro e
  have e2 : n * 4294967296 + un0 = y * (q * 4294967296) + (r * 4294967296 + un0) := by
    rw [← e, Nat.add_mul, Nat.mul_assoc, Nat.add_assoc]
  refine ⟨?_, ?_⟩
  · rw [e2, Nat.mul_add_div hy]
  · rw [e2, Nat.mul_add_mod]

/-- square roots, digit by digit -/
structure Rt (n root bit : Nat) : Prop where
  le : root * root ≤ n
  lt : n < (root + 2 * bit) * (root + 2 * bit)

structure IsRoot (n r : Nat) : Prop where
  le : r * r ≤ n
  lt : n < (r + 1) * (r + 1)

theorem IsRoot.eq {n r s : Nat} (h : IsRoot n r) (k : IsRoot n s) : r = s := by
  have a : r < s + 1 := Nat.lt_of_not_le fun c => by
    have := Nat.mul_le_mul c c
    have := h.le; have := k.lt; omega
  have b : s < r + 1 := Nat.lt_of_not_le fun c => by
    have := Nat.mul_le_mul c c
    have := k.le; have := h.lt; omega
  omega

theorem Rt.more {n root bit : Nat} (h : Rt n root bit) (c : (root + bit) * (root + bit) ≤ n) :
    root + bit * 2 = root + 2 * bit ∧ (root + bit) * (root + bit) ≤ n ∧ n < (root + bit + bit) * (root + bit + bit) := by
  refine ⟨by omega, c, ?_⟩
  have e : root + bit + bit = root + 2 * bit := by omega
  rw [e]; exact h.lt

theorem Rt.next {n root k : Nat} (h : Rt n root (2 ^ (k + 1))) :
    Rt n (if (root + 2 ^ (k + 1)) * (root + 2 ^ (k + 1)) ≤ n then root + 2 ^ (k + 1) else root) (2 ^ k) := by
  have e2 : 2 * 2 ^ k = 2 ^ (k + 1) := by rw [Nat.pow_succ]; omega
  split
  · rename_i c
    refine ⟨c, ?_⟩
    rw [e2]; exact (h.more c).2.2
  · rename_i c
    refine ⟨h.le, ?_⟩
    rw [e2]; omega

theorem Rt.last {n root : Nat} (h : Rt n root 1) :
    IsRoot n (if (root + 1) * (root + 1) ≤ n then root + 1 else root) := by
  split
  · rename_i c
    exact ⟨c, (h.more c).2.2⟩
  · rename_i c
    exact ⟨h.le, by omega⟩

/-- the two halves of a number, held against two others -/
theorem halves_le (x n : Nat) : (x / 18446744073709551616 < n / 18446744073709551616 ∨ (x / 18446744073709551616 = n / 18446744073709551616 ∧ x % 18446744073709551616 ≤ n % 18446744073709551616)) ↔ x ≤ n := by omega

/-- long division, bit by bit, with a lid on the quotient -/
theorem dv_step {T y C b n : Nat} (hy : 0 < y) (hb : b ≤ 1) (hn : n = min (T / y) C) :
    (if y ≤ T % y * 2 + b then T % y * 2 + b - y else T % y * 2 + b) = (2 * T + b) % y ∧
    min (n * 2 + (if y ≤ T % y * 2 + b then 1 else 0)) C = min ((2 * T + b) / y) C := by
  have e := Nat.div_add_mod T y
  have l := Nat.mod_lt T hy
  generalize T / y = q at *
  generalize T % y = r at *
  have e2 : 2 * T + b = y * (2 * q) + (r * 2 + b) := by rw [← e, Nat.mul_left_comm]; omega
  rw [e2, Nat.mul_add_div hy, Nat.mul_add_mod]
  by_cases c : y ≤ r * 2 + b
  · have d1 : (r * 2 + b) / y = 1 := by
      rw [Nat.div_eq_iff hy]; omega
    have d2 : (r * 2 + b) % y = r * 2 + b - y := by
      rw [Nat.mod_eq_sub_mod c, Nat.mod_eq_of_lt (by omega)]
    simp only [if_pos c, d1, d2]
    subst hn
    refine ⟨trivial, ?_⟩
    omega
  · have d1 : (r * 2 + b) / y = 0 := Nat.div_eq_of_lt (by omega)
    have d2 : (r * 2 + b) % y = r * 2 + b := Nat.mod_eq_of_lt (by omega)
    simp only [if_neg c, d1, d2]
    subst hn
    refine ⟨trivial, ?_⟩
    omega

end Fx
end Go.Proofs.YtkfkhjafhlafhaaDoor
