import Derived.Test.YtfhhneibdmjfgaaPb
namespace Go.Proofs.Ytfhhneibdmjfgaa
namespace Fx
open Ieee

theorem word_rung (s : Bool) (rung : Nat) : single.word s rung = if s then 2147483648 + rung else rung := by
  unfold Format.word; rw [f_sign]

/-- what is written of a number is no NaN -/
theorem near_rung (s : Bool) (m : Nat) (e : Int) : ∃ rung, rung ≤ 2139095040 ∧ single.nearest s m e = single.word s rung := by
  unfold Format.nearest
  by_cases h : m = 0
  · rw [if_pos h]; exact ⟨0, by omega, rfl⟩
  · rw [if_neg h]
    refine ⟨_, ?_, rfl⟩
    rw [f_inf]
    exact Nat.min_le_right ..

def Num (d : Datum) : Prop := (∃ s m e, d = .number s m e) ∨ ∃ s, d = .infinity s

theorem num_word (s : Bool) (rung : Nat) (h : rung ≤ 2139095040) : Num (single.read (single.word s rung)) := by
  rw [read_word s rung (by omega)]
  by_cases h1 : rung < 8388608
  · rw [if_pos h1]; exact .inl ⟨_, _, _, rfl⟩
  · rw [if_neg h1]
    by_cases h2 : rung < 2139095040
    · rw [if_pos h2]; exact .inl ⟨_, _, _, rfl⟩
    · rw [if_neg h2, if_pos (by omega)]; exact .inr ⟨_, rfl⟩

theorem num_near (s : Bool) (m : Nat) (e : Int) : Num (single.read (single.nearest s m e)) := by
  obtain ⟨r, h, e'⟩ := near_rung s m e
  rw [e']; exact num_word s r h

theorem num_inf (s : Bool) : Num (single.read (single.write (.infinity s))) := by
  show Num (single.read (single.word s single.infRung))
  rw [f_inf]; exact num_word s _ (Nat.le_refl _)

theorem num_write {d : Datum} (h : Num d) : Num (single.read (single.write d)) := by
  rcases h with ⟨s, m, e, rfl⟩ | ⟨s, rfl⟩
  · exact num_near s m e
  · exact num_inf s

/-- the float32 of a, divided by 65536 -/
def fl (a : Int) : Nat := (single.div (FloatKind.f32.nearest a) 1199570944).getD 0

theorem fl_some (a : Int) : single.div (FloatKind.f32.nearest a) 1199570944 = some (fl a) := by
  have h : ∃ r, single.div (FloatKind.f32.nearest a) 1199570944 = some r := by
    unfold Format.div
    rw [read_one]
    have hn : Num (single.read (FloatKind.f32.nearest a)) := num_near _ _ _
    rcases hn with ⟨s, m, e, h⟩ | ⟨s, h⟩
    · rw [h]
      exact ⟨_, rfl⟩
    · rw [h]
      exact ⟨_, rfl⟩
  obtain ⟨r, h⟩ := h
  unfold fl
  rw [h]; rfl

/-- f times 65536: none for what is no number -/
theorem mul_cases (f : Nat) : (single.mul f 1199570944 = none ∧ ∃ s t, single.read f = .nan s t) ∨
    (Num (single.read f) ∧ ∃ r, single.mul f 1199570944 = some r ∧ Num (single.read r)) := by
  unfold Format.mul
  rw [read_one]
  cases h : single.read f with
  | number s m e => exact .inr ⟨.inl ⟨_, _, _, rfl⟩, _, rfl, num_near _ _ _⟩
  | infinity s => exact .inr ⟨.inr ⟨_, rfl⟩, _, rfl, num_inf _⟩
  | nan s t => exact .inl ⟨rfl, _, _, rfl⟩

theorem order_self {d : Datum} (h : Num d) : d.order d = some .eq := by
  rcases h with ⟨s, m, e, rfl⟩ | ⟨s, rfl⟩
  · simp [Datum.order]
  · simp [Datum.order]

theorem order_nan (s : Bool) (t : Nat) (d : Datum) : Datum.order (.nan s t) d = none := by cases d <;> rfl

theorem order_same (b : Nat) : single.order b b = some .eq ∨ single.order b b = none := by
  unfold Format.order
  cases h : single.read b with
  | number s m e => exact .inl (order_self (.inl ⟨_, _, _, rfl⟩))
  | infinity s => exact .inl (order_self (.inr ⟨_, rfl⟩))
  | nan s t => exact .inr (order_nan _ _ _)

theorem order_eq {b : Nat} (h : Num (single.read b)) : single.order b b = some .eq := order_self h
theorem order_none {b : Nat} {s : Bool} {t : Nat} (h : single.read b = .nan s t) : single.order b b = none := by
  unfold Format.order; rw [h]; rfl

/-- the bits that are drawn for what is no number -/
theorem nan_cut (x y t : Nat) : ∃ s u, single.read (Question.cut (.nanBits .f32 x y) t) = .nan s u := by
  show ∃ s u, single.read ((t % 2) * 2 ^ 31 + 0x7f800000 + 1 + (t / 2) % (2 ^ 23 - 1)) = .nan s u
  have h := read_word (t % 2 == 1) (2139095041 + (t / 2) % 8388607) (by omega)
  have e : single.word (t % 2 == 1) (2139095041 + (t / 2) % 8388607) = (t % 2) * 2 ^ 31 + 0x7f800000 + 1 + (t / 2) % (2 ^ 23 - 1) := by
    rw [word_rung]
    rcases Nat.mod_two_eq_zero_or_one t with h | h
    · simp [h] <;> omega
    · simp [h] <;> omega
  rw [e] at h
  rw [h, if_neg (by omega), if_neg (by omega), if_neg (by omega)]
  exact ⟨_, _, rfl⟩

/-- a float32 that is a number between the bounds is cut to a whole number -/
def ge (r b : Nat) : Bool := single.order r b == some .gt || single.order r b == some .eq
def le (r b : Nat) : Bool := single.order r b == some .lt || single.order r b == some .eq

theorem cut_le (s : Bool) (n d C : Nat) (h : n < C * 2 ^ d) (hC : 0 < C) : Toward.zero.cut s n d < C := by
  unfold Toward.cut
  simp only [Nat.one_shiftLeft, Bool.toNat_false, Nat.add_zero]
  by_cases hd : d ≤ n.log2 + 2
  · rw [Nat.min_eq_left hd]
    exact (Nat.div_lt_iff_lt_mul (Nat.two_pow_pos d)).2 h
  · rw [Nat.min_eq_right (by omega)]
    have : n < 2 ^ (n.log2 + 2) := Nat.lt_of_lt_of_le (Nat.lt_log2_self (n := n)) (Nat.pow_le_pow_right (by omega) (by omega))
    rw [Nat.div_eq_of_lt this]
    exact hC

theorem sgn_abs (s : Bool) (m u : Nat) : (signed s m u).natAbs = m * 2 ^ u := by
  unfold signed
  rw [Nat.shiftLeft_eq]
  cases s
  · simp only [Bool.false_eq_true, if_false]; exact Int.natAbs_natCast _
  · simp only [if_true]; rw [Int.natAbs_neg]; exact Int.natAbs_natCast _

theorem compare_int (a b : Int) : (compare a b = .lt ↔ a < b) ∧ (compare a b = .eq ↔ a = b) ∧ (compare a b = .gt ↔ b < a) := by
  refine ⟨?_, ?_, ?_⟩
  · exact Int.compare_eq_lt
  · exact Int.compare_eq_eq
  · exact Int.compare_eq_gt

/-- below Max and above -Max: how great it is -/
theorem mag_lt {r : Nat} (hn : Num (single.read r)) (h1 : ge r 1400897536 = false) (h2 : le r 3548381184 = false) :
    ∃ s m e, single.read r = .number s m e ∧ m * 2 ^ (e - min e 17).toNat < 2 ^ (40 - min e 17).toNat := by
  unfold ge Format.order at h1
  unfold le Format.order at h2
  rw [read_max] at h1
  rw [read_min] at h2
  rcases hn with ⟨s, m, e, h⟩ | ⟨s, h⟩
  · refine ⟨s, m, e, h, ?_⟩
    rw [h] at h1 h2
    simp only [Datum.order] at h1 h2
    have c1 := compare_int (signed s m (e - min e 17).toNat) (signed false 8388608 (17 - min e 17).toNat)
    have c2 := compare_int (signed s m (e - min e 17).toNat) (signed true 8388608 (17 - min e 17).toNat)
    have p : 8388608 * 2 ^ ((17 - min e 17).toNat) = 2 ^ (40 - min e 17).toNat := by
      rw [show (8388608 : Nat) = 2 ^ 23 from rfl, ← Nat.pow_add]
      congr 1; omega
    have k1 : signed false 8388608 (17 - min e 17).toNat = ((2 ^ (40 - min e 17).toNat : Nat) : Int) := by
      rw [← p]; unfold signed; rw [Nat.shiftLeft_eq]; rfl
    have k2 : signed true 8388608 (17 - min e 17).toNat = -((2 ^ (40 - min e 17).toNat : Nat) : Int) := by
      rw [← p]; unfold signed; rw [Nat.shiftLeft_eq]; rfl
    have k3 := sgn_abs s m (e - min e 17).toNat
    rw [k1] at h1 c1
    rw [k2] at h2 c2
    generalize signed s m (e - min e 17).toNat = z at *
    generalize m * 2 ^ (e - min e 17).toNat = u at *
    generalize 2 ^ (40 - min e 17).toNat = v at *
    have d1 : ¬ ((v : Int) < z ∨ z = v) := by
      intro hc
      rcases hc with hc | hc
      · rw [c1.2.2.2 hc] at h1; simp at h1
      · rw [c1.2.1.2 hc] at h1; simp at h1
    have d2 : ¬ (z < -(v : Int) ∨ z = -(v : Int)) := by
      intro hc
      rcases hc with hc | hc
      · rw [c2.1.2 hc] at h2; simp at h2
      · rw [c2.2.1.2 hc] at h2; simp at h2
    omega
  · rw [h] at h1 h2
    cases s
    · simp [Datum.order] at h1
    · simp [Datum.order] at h2

theorem toInt_lt {r : Nat} (hn : Num (single.read r)) (h1 : ge r 1400897536 = false) (h2 : le r 3548381184 = false) :
    ∃ n : Int, (FloatKind.f32.decode r).toInt .zero = some n ∧ -1099511627776 < n ∧ n < 1099511627776 := by
  obtain ⟨s, m, e, h, hm⟩ := mag_lt hn h1 h2
  show ∃ n : Int, (single.read r).toInt .zero = some n ∧ _
  rw [h]
  have hc : Toward.zero.cut s (m <<< e.toNat) (-e).toNat < 1099511627776 := by
    refine cut_le s _ _ _ ?_ (by omega)
    rw [Nat.shiftLeft_eq]
    by_cases he : 0 ≤ e
    · have e0 : (-e).toNat = 0 := by omega
      rw [e0, Nat.pow_zero, Nat.mul_one]
      by_cases hb : e ≤ 17
      · have : min e 17 = e := by omega
        rw [this] at hm
        have e1 : (e - e).toNat = 0 := by omega
        rw [e1, Nat.pow_zero, Nat.mul_one] at hm
        have : m * 2 ^ e.toNat < 2 ^ (40 - e).toNat * 2 ^ e.toNat := (Nat.mul_lt_mul_right (Nat.two_pow_pos _)).2 hm
        rw [← Nat.pow_add, show (40 - e).toNat + e.toNat = 40 by omega] at this
        exact this
      · have : min e 17 = 17 := by omega
        rw [this] at hm
        have : m * 2 ^ (e - 17).toNat * 2 ^ 17 < 2 ^ ((40 - 17 : Int)).toNat * 2 ^ 17 := (Nat.mul_lt_mul_right (Nat.two_pow_pos _)).2 hm
        rw [Nat.mul_assoc, ← Nat.pow_add, ← Nat.pow_add, show (e - 17).toNat + 17 = e.toNat by omega] at this
        exact this
    · have e0 : e.toNat = 0 := by omega
      rw [e0, Nat.pow_zero, Nat.mul_one]
      have : min e 17 = e := by omega
      rw [this] at hm
      have e1 : (e - e).toNat = 0 := by omega
      rw [e1, Nat.pow_zero, Nat.mul_one] at hm
      rw [show (1099511627776 : Nat) = 2 ^ 40 from rfl, ← Nat.pow_add, show 40 + (-e).toNat = (40 - e).toNat by omega]
      exact hm
  refine ⟨signed s (Toward.zero.cut s (m <<< e.toNat) (-e).toNat) 0, rfl, ?_⟩
  have := sgn_abs s (Toward.zero.cut s (m <<< e.toNat) (-e).toNat) 0
  rw [Nat.pow_zero, Nat.mul_one] at this
  omega

/-- the whole number that a float32 comes to, as bits -/
def cutZ (r : Nat) : Int := (floatToIntVal .f32 r .i64).getD 0

theorem cutZ_some {r : Nat} (hn : Num (single.read r)) (h1 : ge r 1400897536 = false) (h2 : le r 3548381184 = false) :
    floatToIntVal .f32 r .i64 = some (cutZ r) := by
  obtain ⟨n, e, a, b⟩ := toInt_lt hn h1 h2
  have : floatToIntVal .f32 r .i64 = some n := by
    unfold floatToIntVal
    rw [e]
    have : IntKind.i64.min ≤ n ∧ n ≤ IntKind.i64.max := by
      have m1 : IntKind.i64.min = -9223372036854775808 := by decide
      have m2 : IntKind.i64.max = 9223372036854775807 := by decide
      rw [m1, m2]; omega
    simp only [this, and_self, if_true]
  unfold cutZ
  rw [this]; rfl

def ofR (r : Nat) : Int := if ge r 1400897536 then 1099511627776 else if le r 3548381184 then -1099511627776 else cutZ r
/-- what Of answers -/
def ofZ (b : Nat) : Int := match single.mul b 1199570944 with
  | none => 0
  | some r => ofR r

theorem ofZ_nan {b : Nat} (h : single.mul b 1199570944 = none) : ofZ b = 0 := by unfold ofZ; rw [h]
theorem ofZ_some {b r : Nat} (h : single.mul b 1199570944 = some r) : ofZ b = ofR r := by unfold ofZ; rw [h]
theorem ofZ_of_nan {b : Nat} {s : Bool} {t : Nat} (h : single.read b = .nan s t) : ofZ b = 0 := by
  refine ofZ_nan ?_
  unfold Format.mul; rw [h, read_one]; rfl

/-- f - f -/
theorem sub_self (f : Nat) : single.sub f f = none ∨ single.sub f f = some 0 := by
  unfold Format.sub
  cases h : single.read f with
  | number s m e =>
    right
    simp only [Datum.opposite, Datum.sum]
    have : signed s m (e - min e e).toNat + signed (!s) m (e - min e e).toNat = 0 := by
      unfold signed
      cases s
      · simp; omega
      · simp; omega
    rw [this]
    simp only [if_true, Option.map]
    have hb : (s && !s) = false := by cases s <;> rfl
    rw [hb]
    rfl
  | infinity s =>
    left
    cases s <;> rfl
  | nan s t => left; rfl

theorem ofZ_zero : ofZ 0 = 0 := by decide +kernel

end Fx
end Go.Proofs.Ytfhhneibdmjfgaa
