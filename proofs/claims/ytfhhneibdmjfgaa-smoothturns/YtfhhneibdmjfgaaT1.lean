/- rounding to float32: what is written lies between all floats between which the number lies -/
import Derived.Test.YtfhhneibdmjfgaaPc
namespace Go.Proofs.Ytfhhneibdmjfgaa
namespace Fx
open Ieee

/-- great powers of two, unread -/
def pw (n : Nat) : Nat := 2 ^ n
theorem pw_def (n : Nat) : pw n = 2 ^ n := rfl
theorem pw_ge {k n : Nat} (h : k ≤ n) : 2 ^ k ≤ pw n := Nat.pow_le_pow_right (by omega) h
theorem pw_le {k n : Nat} (h : n ≤ k) : pw n ≤ 2 ^ k := Nat.pow_le_pow_right (by omega) h
theorem pw_pos (n : Nat) : 0 < pw n := Nat.two_pow_pos n
theorem pw_split {a b c n : Nat} (h : a + n = b + c) : 2 ^ a * pw n = 2 ^ b * 2 ^ c := by unfold pw; rw [← Nat.pow_add, h, Nat.pow_add]
/-- a magnitude that a float may have -/
structure Sml (x : Nat) : Prop where
  le : x ≤ 16777215 * pw 402
/-- a share: from 0 to 1 -/
structure Shr (t : Int) : Prop where
  lo : 0 ≤ t
  hi : t ≤ ((pw 298 : Nat) : Int)
theorem big_no : ¬ 8388608 * pw 403 ≤ 16777215 * pw 402 := by decide +kernel
theorem read_fin {g : Nat} {s : Bool} {m : Nat} {e : Int} (h : single.read g = .number s m e) : -149 ≤ e ∧ e ≤ 104 ∧ m < 16777216 := by
  unfold Format.read at h
  simp only [f_least, f_binade, f_inf, f_sign] at h
  split at h
  · cases h; omega
  · split at h
    · cases h; omega
    · split at h <;> cases h

theorem cut_near (s : Bool) (m j : Nat) :
    Toward.even.cut s m j = m / 2 ^ j ∨ (Toward.even.cut s m j = m / 2 ^ j + 1 ∧ 0 < m % 2 ^ j) := by
  unfold Toward.cut
  simp only [Nat.one_shiftLeft]
  by_cases hj : j ≤ m.log2 + 2
  · rw [Nat.min_eq_left hj]
    have hp := Nat.two_pow_pos j
    generalize 2 ^ j = p at hp ⊢
    cases hb : (decide (p < 2 * (m % p)) || (p == 2 * (m % p) && m / p % 2 == 1))
    · left; rfl
    · right
      refine ⟨rfl, ?_⟩
      rw [Bool.or_eq_true, decide_eq_true_iff, Bool.and_eq_true, beq_iff_eq] at hb
      rcases hb with hb | hb <;> omega
  · rw [Nat.min_eq_right (by omega)]
    have h1 : m < 2 ^ (m.log2 + 1) := Nat.lt_log2_self
    have h2 : 2 ^ (m.log2 + 2) = 2 * 2 ^ (m.log2 + 1) := by rw [Nat.pow_succ 2 (m.log2 + 1)]; omega
    have h3 : 2 ^ (m.log2 + 1) ≤ 2 ^ j := Nat.pow_le_pow_right (by omega) (by omega)
    have e1 : m / 2 ^ (m.log2 + 2) = 0 := Nat.div_eq_of_lt (by omega)
    have e2 : m % 2 ^ (m.log2 + 2) = m := Nat.mod_eq_of_lt (by omega)
    have e3 : m / 2 ^ j = 0 := Nat.div_eq_of_lt (by omega)
    rw [e1, e2, e3]
    left
    have b1 : decide (2 ^ (m.log2 + 2) < 2 * m) = false := decide_eq_false (by omega)
    rw [b1]
    simp

theorem pow_add_toNat {a b : Int} (ha : 0 ≤ a) (hb : 0 ≤ b) : 2 ^ (a + b).toNat = 2 ^ a.toNat * 2 ^ b.toNat := by
  rw [← Nat.pow_add]; congr 1; omega

/-- what is written: so many units of the last place -/
theorem near_kept (s : Bool) (m : Nat) (e : Int) (he : -298 ≤ e) (hb : Sml (m * 2 ^ (e + 298).toNat)) :
    ∃ (k q f : Nat) (c : Int) (l : Int), single.read (single.nearest s m e) = .number s q c ∧ -149 ≤ c ∧ q * 2 ^ (c + 298).toNat = k * 2 ^ (l + 298).toNat ∧
      -149 ≤ l ∧ f * 2 ^ (l + 298).toNat ≤ m * 2 ^ (e + 298).toNat ∧ m * 2 ^ (e + 298).toNat < (f + 1) * 2 ^ (l + 298).toNat ∧
      (k = f ∨ (k = f + 1 ∧ f * 2 ^ (l + 298).toNat < m * 2 ^ (e + 298).toNat)) ∧ (l = -149 ∨ 8388608 ≤ f) := by
  by_cases hm : m = 0
  · subst hm
    refine ⟨0, 0, 0, -149, -149, ?_, by omega, by omega, by omega, by omega, ?_, .inl rfl, .inl rfl⟩
    · unfold Format.nearest
      rw [if_pos rfl, read_word _ _ (by omega), if_pos (by omega)]
    · rw [Nat.zero_mul, Nat.zero_add, Nat.one_mul]; exact Nat.two_pow_pos _
  have hL1 : 2 ^ m.log2 ≤ m := Nat.log2_self_le hm
  have hL2 : m < 2 ^ (m.log2 + 1) := Nat.lt_log2_self
  unfold Format.nearest
  rw [if_neg hm]
  have hf : single.fractionBits = 23 := rfl
  simp only [f_least, f_binade, f_inf, hf]
  obtain ⟨L, hL⟩ : ∃ L, m.log2 = L := ⟨_, rfl⟩
  rw [hL] at hL1 hL2 ⊢
  obtain ⟨l, hl⟩ : ∃ l, max (e + (L : Int) - ((23 : Nat) : Int)) (-149) = l := ⟨_, rfl⟩
  rw [hl]
  obtain ⟨k, hk⟩ : ∃ k, Toward.even.cut s (m <<< (e - l).toNat) (l - e).toNat = k := ⟨_, rfl⟩
  rw [hk]
  have l1 : -149 ≤ l := by omega
  -- so many whole units
  have hF : ∃ f, f * 2 ^ (l + 298).toNat ≤ m * 2 ^ (e + 298).toNat ∧ m * 2 ^ (e + 298).toNat < (f + 1) * 2 ^ (l + 298).toNat ∧
      (k = f ∨ (k = f + 1 ∧ f * 2 ^ (l + 298).toNat < m * 2 ^ (e + 298).toNat)) ∧ (l = -149 ∨ 8388608 ≤ f) ∧ f < 16777216 := by
    by_cases hle : l ≤ e
    · have t1 : (l - e).toNat = 0 := by omega
      rw [t1, cut_zero, Nat.shiftLeft_eq] at hk
      have hp : 2 ^ (e + 298).toNat = 2 ^ (e - l).toNat * 2 ^ (l + 298).toNat := by
        rw [← pow_add_toNat (by omega) (by omega)]; congr 2; omega
      have hM : m * 2 ^ (e + 298).toNat = k * 2 ^ (l + 298).toNat := by rw [hp, ← Nat.mul_assoc, hk]
      have hT := Nat.two_pow_pos (l + 298).toNat
      refine ⟨k, by omega, ?_, .inl rfl, ?_, ?_⟩
      · rw [hM]; exact (Nat.mul_lt_mul_right hT).2 (by omega)
      · by_cases h9 : l = -149
        · exact .inl h9
        · right
          have e1 : (e - l).toNat + L = 23 := by omega
          have : 2 ^ L * 2 ^ (e - l).toNat ≤ m * 2 ^ (e - l).toNat := Nat.mul_le_mul_right _ hL1
          rw [← Nat.pow_add, Nat.add_comm, e1, hk] at this
          exact this
      · have e1 : (e - l).toNat + (L + 1) ≤ 24 := by omega
        have h1 : m * 2 ^ (e - l).toNat < 2 ^ (L + 1) * 2 ^ (e - l).toNat := (Nat.mul_lt_mul_right (Nat.two_pow_pos _)).2 hL2
        have h2 : 2 ^ ((e - l).toNat + (L + 1)) ≤ 2 ^ 24 := Nat.pow_le_pow_right (by omega) e1
        rw [← Nat.pow_add, Nat.add_comm, hk] at h1
        omega
    · have t1 : (e - l).toNat = 0 := by omega
      rw [t1, Nat.shiftLeft_zero] at hk
      have hp : 2 ^ (l + 298).toNat = 2 ^ (l - e).toNat * 2 ^ (e + 298).toNat := by
        rw [← pow_add_toNat (by omega) (by omega)]; congr 2; omega
      have hE := Nat.two_pow_pos (e + 298).toNat
      have hj := Nat.two_pow_pos (l - e).toNat
      have hc := cut_near s m (l - e).toNat
      rw [hk] at hc
      have d1 := Nat.div_add_mod m (2 ^ (l - e).toNat)
      have d2 := Nat.mod_lt m hj
      have d3 : m / 2 ^ (l - e).toNat * 2 ^ (l - e).toNat ≤ m := Nat.div_mul_le_self _ _
      have d4 : m < (m / 2 ^ (l - e).toNat + 1) * 2 ^ (l - e).toNat := by
        rw [Nat.add_mul, Nat.one_mul, Nat.mul_comm]; omega
      refine ⟨m / 2 ^ (l - e).toNat, ?_, ?_, ?_, ?_, ?_⟩
      · rw [hp, ← Nat.mul_assoc]; exact Nat.mul_le_mul_right _ d3
      · rw [hp, ← Nat.mul_assoc]; exact (Nat.mul_lt_mul_right hE).2 d4
      · rcases hc with hc | ⟨hc, hr⟩
        · exact .inl hc
        · right
          refine ⟨hc, ?_⟩
          rw [hp, ← Nat.mul_assoc]
          refine (Nat.mul_lt_mul_right hE).2 ?_
          rw [Nat.mul_comm]; omega
      · by_cases h9 : l = -149
        · exact .inl h9
        · right
          refine (Nat.le_div_iff_mul_le hj).2 ?_
          rw [show (8388608 : Nat) = 2 ^ 23 from rfl, ← Nat.pow_add, show 23 + (l - e).toNat = L by omega]
          exact hL1
      · refine (Nat.div_lt_iff_lt_mul hj).2 (Nat.lt_of_lt_of_le hL2 ?_)
        rw [show (16777216 : Nat) = 2 ^ 24 from rfl, ← Nat.pow_add]
        exact Nat.pow_le_pow_right (by omega) (by omega)
  obtain ⟨f, f1, f2, f3, f4, f5⟩ := hF
  -- it is not too great
  have hl4 : l ≤ 104 := by
    by_cases hq : l ≤ 104
    · exact hq
    · exfalso
      have f6 : 8388608 ≤ f := by omega
      have : 8388608 * pw 403 ≤ f * 2 ^ (l + 298).toNat := Nat.mul_le_mul f6 (pw_le (by omega))
      have h3 := Nat.le_trans this (Nat.le_trans f1 hb.le)
      exact absurd h3 big_no
  have hk4 : l = 104 → k ≤ 16777215 := by
    intro h4
    rcases f3 with f3 | ⟨f3, f6⟩
    · omega
    · have h4' : (l + 298).toNat = 402 := by omega
      have hp : 2 ^ (l + 298).toNat = pw 402 := by rw [pw_def, h4']
      rw [hp] at f6
      have : f < 16777215 := by
        have := Nat.lt_of_lt_of_le f6 hb.le
        exact Nat.lt_of_mul_lt_mul_right this
      omega
  have hr : (l - -149).toNat * 8388608 + k < 2139095040 := by omega
  rw [Nat.min_eq_left (by omega), read_word _ _ (by omega)]
  by_cases h1 : (l - -149).toNat * 8388608 + k < 8388608
  · rw [if_pos h1]
    have h9 : l = -149 := by omega
    subst h9
    exact ⟨k, k, f, -149, -149, by simp, by omega, rfl, by omega, f1, f2, f3, f4⟩
  · rw [if_neg h1, if_pos hr]
    by_cases h2 : k = 16777216
    · refine ⟨k, 8388608, f, l + 1, l, ?_, by omega, ?_, l1, f1, f2, f3, f4⟩
      · have a1 : ((l - -149).toNat * 8388608 + k) % 8388608 = 0 := by omega
        have a2 : ((l - -149).toNat * 8388608 + k) / 8388608 = (l - -149).toNat + 2 := by omega
        rw [a1, a2]
        congr 1; omega
      · rw [h2, show (l + 1 + 298).toNat = (l + 298).toNat + 1 by omega, Nat.pow_succ]; omega
    · refine ⟨k, k, f, l, l, ?_, by omega, rfl, l1, f1, f2, f3, f4⟩
      have k1 : 8388608 ≤ k := by omega
      have k2 : k < 16777216 := by omega
      have a1 : ((l - -149).toNat * 8388608 + k) % 8388608 = k - 8388608 := by omega
      have a2 : ((l - -149).toNat * 8388608 + k) / 8388608 = (l - -149).toNat + 1 := by omega
      have a5 : 8388608 + (k - 8388608) = k := by omega
      have a6 : (-149 : Int) + (((l - -149).toNat + 1 - 1 : Nat) : Int) = l := by omega
      rw [a1, a2, a5, a6]

/-- it lies between all floats between which the number lies -/
theorem near_between (s : Bool) (m : Nat) (e : Int) (he : -298 ≤ e) (hb : Sml (m * 2 ^ (e + 298).toNat)) :
    ∃ (q : Nat) (c : Int), single.read (single.nearest s m e) = .number s q c ∧ ∀ (n : Nat) (i : Int), -149 ≤ i → n < 16777216 →
      (n * 2 ^ (i + 298).toNat ≤ m * 2 ^ (e + 298).toNat → n * 2 ^ (i + 298).toNat ≤ q * 2 ^ (c + 298).toNat) ∧
      (m * 2 ^ (e + 298).toNat ≤ n * 2 ^ (i + 298).toNat → q * 2 ^ (c + 298).toNat ≤ n * 2 ^ (i + 298).toNat) := by
  obtain ⟨k, q, f, c, l, h1, h2, h3, h4, f1, f2, f3, f4⟩ := near_kept s m e he hb
  refine ⟨q, c, h1, fun n i hi hn => ?_⟩
  rw [h3]
  clear h1 h3 h2 hb
  generalize m * 2 ^ (e + 298).toNat = M at f1 f2 f3 ⊢
  have hT := Nat.two_pow_pos (l + 298).toNat
  have hkf : f * 2 ^ (l + 298).toNat ≤ k * 2 ^ (l + 298).toNat := Nat.mul_le_mul_right _ (by omega)
  by_cases hle : l ≤ i
  · have hp : 2 ^ (i + 298).toNat = 2 ^ (i - l).toNat * 2 ^ (l + 298).toNat := by
      rw [← pow_add_toNat (by omega) (by omega)]; congr 2; omega
    rw [hp, ← Nat.mul_assoc]
    generalize n * 2 ^ (i - l).toNat = N
    generalize 2 ^ (l + 298).toNat = T at *
    refine ⟨fun h => ?_, fun h => ?_⟩
    · have : N < f + 1 := Nat.lt_of_mul_lt_mul_right (Nat.lt_of_le_of_lt h f2)
      exact Nat.mul_le_mul_right _ (by omega)
    · rcases f3 with f3 | ⟨f3, f6⟩
      · rw [f3]; omega
      · have : f < N := Nat.lt_of_mul_lt_mul_right (Nat.lt_of_lt_of_le f6 h)
        exact Nat.mul_le_mul_right _ (by omega)
  · have f5 : 8388608 ≤ f := by omega
    have hp : 2 ^ (l + 298).toNat = 2 ^ (l - i).toNat * 2 ^ (i + 298).toNat := by
      rw [← pow_add_toNat (by omega) (by omega)]; congr 2; omega
    have h2 : 2 ^ 1 ≤ 2 ^ (l - i).toNat := Nat.pow_le_pow_right (by omega) (by omega)
    have h5 : 2 * 2 ^ (i + 298).toNat ≤ 2 ^ (l + 298).toNat := by rw [hp]; exact Nat.mul_le_mul_right _ h2
    have h6 : n * 2 ^ (i + 298).toNat < 16777216 * 2 ^ (i + 298).toNat := (Nat.mul_lt_mul_right (Nat.two_pow_pos _)).2 hn
    have h7 : 8388608 * 2 ^ (l + 298).toNat ≤ f * 2 ^ (l + 298).toNat := Nat.mul_le_mul_right _ f5
    omega
end Fx
end Go.Proofs.Ytfhhneibdmjfgaa
