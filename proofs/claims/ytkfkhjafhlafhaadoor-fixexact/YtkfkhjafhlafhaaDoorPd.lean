import Derived.Test.YtkfkhjafhlafhaaDoorPc
namespace Go.Proofs.YtkfkhjafhlafhaaDoor
namespace Fx
open Ieee

/-- of a number below 2^24, made 24 digits long -/
theorem norm24 (n : Nat) (h0 : 0 < n) (h : n < 16777216) : ∃ k, k ≤ 23 ∧ 8388608 ≤ n * 2 ^ k ∧ n * 2 ^ k < 16777216 := by
  refine ⟨23 - n.log2, by omega, ?_, ?_⟩
  · have h1 := Nat.log2_self_le (n := n) (by omega)
    have h2 := Nat.mul_le_mul_right (2 ^ (23 - n.log2)) h1
    have hl : n.log2 < 24 := (Nat.log2_lt (by omega)).2 h
    rw [← Nat.pow_add, show n.log2 + (23 - n.log2) = 23 by omega] at h2
    exact h2
  · have h1 := Nat.lt_log2_self (n := n)
    have hl : n.log2 < 24 := (Nat.log2_lt (by omega)).2 h
    have h2 := (Nat.mul_lt_mul_right (Nat.two_pow_pos (23 - n.log2))).2 h1
    rw [← Nat.pow_add, show n.log2 + 1 + (23 - n.log2) = 24 by omega] at h2
    exact h2

theorem read_nearest (s : Bool) (n k : Nat) (hk : k ≤ 23) (h1 : 8388608 ≤ n * 2 ^ k) (h2 : n * 2 ^ k < 16777216) :
    single.read (single.nearest s n 0) = .number s (n * 2 ^ k) (-k) := by
  have hp := Nat.two_pow_pos k
  have hz : ¬ n = 0 := by
    intro h; subst h; simp at h1
  have hlog : n.log2 = 23 - k := by
    rw [Nat.log2_eq_iff hz]
    refine ⟨?_, ?_⟩
    · apply Nat.le_of_mul_le_mul_right _ hp
      rw [← Nat.pow_add, show 23 - k + k = 23 by omega]; exact h1
    · apply Nat.lt_of_mul_lt_mul_right (a := 2 ^ k)
      rw [← Nat.pow_add, show 23 - k + 1 + k = 24 by omega]; exact h2
  have e : single.nearest s n 0 = single.word s ((-(k : Int) + 149).toNat * 8388608 + n * 2 ^ k) := by
    unfold Format.nearest
    rw [if_neg hz]
    simp only [hlog, f_least, f_binade, f_inf]
    have hf : single.fractionBits = 23 := rfl
    simp only [hf]
    have hlast : max ((0 : Int) + ((23 - k : Nat) : Int) - ((23 : Nat) : Int)) (-149) = -k := by omega
    rw [hlast]
    have t1 : ((0 : Int) - -(k : Int)).toNat = k := by omega
    have t2 : (-(k : Int) - 0).toNat = 0 := by omega
    have t3 : -(k : Int) - -149 = -k + 149 := by omega
    rw [t1, t2, t3, cut_zero, Nat.shiftLeft_eq]
    clear hlog
    generalize n * 2 ^ k = m at *
    have : min ((-(k : Int) + 149).toNat * 8388608 + m) 2139095040 = (-(k : Int) + 149).toNat * 8388608 + m := by
      apply Nat.min_eq_left; omega
    rw [this]
  clear hlog
  rw [e]
  clear e
  generalize n * 2 ^ k = m at *
  rw [read_word _ _ (by omega)]
  have a1 : ¬ (-(k : Int) + 149).toNat * 8388608 + m < 8388608 := by omega
  have a2 : (-(k : Int) + 149).toNat * 8388608 + m < 2139095040 := by omega
  rw [if_neg a1, if_pos a2]
  have a3 : ((-(k : Int) + 149).toNat * 8388608 + m) % 8388608 = m - 8388608 := by omega
  have a4 : ((-(k : Int) + 149).toNat * 8388608 + m) / 8388608 = (-(k : Int) + 149).toNat + 1 := by omega
  rw [a3, a4]
  have a5 : 8388608 + (m - 8388608) = m := by omega
  have a6 : (-149 : Int) + (((-(k : Int) + 149).toNat + 1 - 1 : Nat) : Int) = -k := by omega
  rw [a5, a6]

theorem log2_24 {m : Nat} (h1 : 8388608 ≤ m) (h2 : m < 16777216) : m.log2 = 23 := by
  have := log2_norm m 0 h1 h2
  simpa using this

/-- divided by 65536 -/
theorem read_div {w m : Nat} {s : Bool} {e : Int} (h : single.read w = .number s m e) (h1 : 8388608 ≤ m) (h2 : m < 16777216) (l1 : -133 ≤ e) (l2 : e ≤ 104) :
    ∃ r, single.div w 1199570944 = some r ∧ single.read r = .number s m (e - 16) := by
  unfold Format.div
  rw [h, read_one]
  simp only [Datum.quotient]
  rw [if_neg (by omega)]
  refine ⟨_, rfl, ?_⟩
  have hf : single.fractionBits + 2 = 25 := rfl
  have hl : Nat.log2 8388608 = 23 := by decide
  rw [hf, hl, log2_24 h1 h2]
  have hd : m <<< (25 + 23 - 23) / 8388608 = m * 4 := by rw [Nat.shiftLeft_eq]; omega
  have hm : m <<< (25 + 23 - 23) % 8388608 = 0 := by rw [Nat.shiftLeft_eq]; omega
  rw [hd, hm]
  have hb : ((0 : Nat) != 0).toNat = 0 := rfl
  rw [hb, show 2 * (m * 4) + 0 = m * 2 ^ 3 by omega, Bool.xor_false]
  generalize hE : e - -7 - ((25 + 23 - 23 : Nat) : Int) - 1 = E
  have hE' : E + ((3 : Nat) : Int) = e - 16 := by omega
  unfold Format.write
  simp only
  rw [read_near _ m 3 E h1 h2 (by omega) (by omega), hE']

theorem read_mul {w m : Nat} {s : Bool} {e : Int} (h : single.read w = .number s m e) (h1 : 8388608 ≤ m) (h2 : m < 16777216) (l1 : -149 ≤ e) (l2 : e ≤ 88) :
    ∃ r, single.mul w 1199570944 = some r ∧ single.read r = .number s m (e + 16) := by
  unfold Format.mul
  rw [h, read_one]
  refine ⟨_, rfl, ?_⟩
  have h23 : m * 8388608 = m * 2 ^ 23 := rfl
  have hE' : e + -7 + ((23 : Nat) : Int) = e + 16 := by omega
  unfold Format.write
  simp only
  rw [h23, Bool.xor_false, read_near _ m 23 (e + -7) h1 h2 (by omega) (by omega), hE']

theorem order_mid {r m k : Nat} {s : Bool} (h : single.read r = .number s m (-(k : Int))) (h2 : m < 16777216) : ge r 1400897536 = false ∧ le r 3548381184 = false := by
  unfold ge le Format.order
  rw [read_max, read_min, h]
  simp only [Datum.order]
  have c1 := compare_int (signed s m (-(k : Int) - min (-(k : Int)) 17).toNat) (signed false 8388608 (17 - min (-(k : Int)) 17).toNat)
  have c2 := compare_int (signed s m (-(k : Int) - min (-(k : Int)) 17).toNat) (signed true 8388608 (17 - min (-(k : Int)) 17).toNat)
  have hmin : min (-(k : Int)) 17 = -k := by omega
  rw [hmin] at c1 c2 ⊢
  have z : (-(k : Int) - -(k : Int)).toNat = 0 := by omega
  have y : ((17 : Int) - -(k : Int)).toNat = 17 + k := by omega
  rw [z, y] at c1 c2 ⊢
  have a0 := sgn_abs s m 0
  have a1 : signed false 8388608 (17 + k) = ((8388608 * 2 ^ (17 + k) : Nat) : Int) := by
    unfold signed; rw [Nat.shiftLeft_eq]; rfl
  have a2 : signed true 8388608 (17 + k) = -((8388608 * 2 ^ (17 + k) : Nat) : Int) := by
    unfold signed; rw [Nat.shiftLeft_eq]; rfl
  rw [a1] at c1 ⊢
  rw [a2] at c2 ⊢
  have p : 2 ^ 17 ≤ 2 ^ (17 + k) := Nat.pow_le_pow_right (by omega) (by omega)
  generalize signed s m 0 = q at *
  generalize 2 ^ (17 + k) = v at *
  have d1 : q < ((8388608 * v : Nat) : Int) := by omega
  have d2 : -((8388608 * v : Nat) : Int) < q := by omega
  rw [c1.1.2 d1, c2.2.2.2 d2]
  exact ⟨rfl, rfl⟩

theorem cutZ_eq {r n k : Nat} {s : Bool} (h : single.read r = .number s (n * 2 ^ k) (-(k : Int))) (hn : 0 < n) (h2 : n < 16777216) : cutZ r = signed s n 0 := by
  unfold cutZ floatToIntVal FloatKind.decode
  have e : (single.read r).toInt .zero = some (signed s n 0) := by
    rw [h]
    simp only [Datum.toInt, Datum.integral]
    have z : (-(k : Int)).toNat = 0 := by omega
    have y : (- -(k : Int)).toNat = k := by omega
    rw [z, y, Nat.shiftLeft_zero, cut_pow _ _ _ _ hn]
  show (match (single.read r).toInt .zero with | some n => if IntKind.i64.min ≤ n ∧ n ≤ IntKind.i64.max then some n else none | none => none).getD 0 = _
  rw [e]
  have a := sgn_abs s n 0
  have : IntKind.i64.min ≤ signed s n 0 ∧ signed s n 0 ≤ IntKind.i64.max := by
    have m1 : IntKind.i64.min = -9223372036854775808 := by decide
    have m2 : IntKind.i64.max = 9223372036854775807 := by decide
    rw [m1, m2]; omega
  simp only [this, and_self, if_true]
  rfl

theorem ofZ_fl_pos (s : Bool) (n : Nat) (h0 : 0 < n) (h : n < 16777216) : ofZ (fl (signed s n 0)) = signed s n 0 := by
  obtain ⟨k, hk, h1, h2⟩ := norm24 n h0 h
  have hw : single.read (FloatKind.f32.nearest (signed s n 0)) = .number s (n * 2 ^ k) (-k) := by
    show single.read (single.nearest (decide (signed s n 0 < 0)) (signed s n 0).natAbs 0) = _
    have a := sgn_abs s n 0
    have b : decide (signed s n 0 < 0) = s := by
      unfold signed
      cases s
      · simp <;> omega
      · simp <;> omega
    rw [a, b, Nat.pow_zero, Nat.mul_one]
    exact read_nearest s n k hk h1 h2
  obtain ⟨r, er, rr⟩ := read_div hw h1 h2 (by omega) (by omega)
  have ef : fl (signed s n 0) = r := by
    unfold fl; rw [er]; rfl
  obtain ⟨q, eq, rq⟩ := read_mul rr h1 h2 (by omega) (by omega)
  rw [ef, ofZ_some eq]
  have rq' : single.read q = .number s (n * 2 ^ k) (-(k : Int)) := by rw [rq]; congr 1; omega
  obtain ⟨o1, o2⟩ := order_mid rq' h2
  unfold ofR
  rw [o1, o2]
  simp only [Bool.false_eq_true, if_false]
  exact cutZ_eq rq' h0 h

/-- there and back -/
theorem ofZ_fl (n : Int) (h1 : -16777216 ≤ n) (h2 : n ≤ 16777216) : ofZ (fl n) = n := by
  rcases Int.lt_trichotomy n 0 with h | h | h
  · by_cases hb : n = -16777216
    · subst hb; decide +kernel
    · have := ofZ_fl_pos true n.natAbs (by omega) (by omega)
      have e : signed true n.natAbs 0 = n := by unfold signed; simp; omega
      rw [e] at this; exact this
  · subst h; decide +kernel
  · by_cases hb : n = 16777216
    · subst hb; decide +kernel
    · have := ofZ_fl_pos false n.natAbs (by omega) (by omega)
      have e : signed false n.natAbs 0 = n := by unfold signed; simp; omega
      rw [e] at this; exact this

/-- the answers that must be -/
theorem fl_half : fl (-32768) = 3204448256 := by decide +kernel
theorem of_15 : ofZ 1069547520 = 98304 := by decide +kernel
theorem ofZ_max : ofZ (fl 16777216) = 16777216 := ofZ_fl _ (by decide) (by decide)

end Fx
end Go.Proofs.YtkfkhjafhlafhaaDoor
