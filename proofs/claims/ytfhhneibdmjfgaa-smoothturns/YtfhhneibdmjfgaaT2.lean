/- floats by what they are worth, in units of 2^-298 -/
import Derived.Test.YtfhhneibdmjfgaaT1
namespace Go.Proofs.Ytfhhneibdmjfgaa
namespace Fx
open Ieee

def sg (s : Bool) (x : Nat) : Int := if s then -(x : Int) else x
def vD : Datum → Int
  | .number s m e => sg s (m * 2 ^ (e + 298).toNat)
  | _ => 0
/-- what a float is worth -/
def vl (g : Nat) : Int := vD (single.read g)
/-- it is finite -/
def Fi (g : Nat) : Prop := ∃ s m e, single.read g = .number s m e
/-- r lies between all floats between which x lies -/
structure Near (x : Int) (r : Nat) : Prop where
  fi : Fi r
  le : ∀ c, Fi c → vl c ≤ x → vl c ≤ vl r
  ge : ∀ c, Fi c → x ≤ vl c → vl r ≤ vl c

theorem sg_mul (s : Bool) (x p : Nat) : sg s x * (p : Int) = sg s (x * p) := by
  unfold sg
  cases s
  · simp
  · simp [Int.neg_mul]
theorem sg_not (s : Bool) (x : Nat) : sg (!s) x = - sg s x := by unfold sg; cases s <;> simp
theorem sg_xor (s t : Bool) (x y : Nat) : sg (s ^^ t) (x * y) = sg s x * sg t y := by
  unfold sg
  cases s <;> cases t <;> simp [Int.neg_mul, Int.mul_neg]
theorem sg_abs (s : Bool) (x : Nat) : (sg s x).natAbs = x := by unfold sg; cases s <;> simp
theorem signed_sg (s : Bool) (m u : Nat) : signed s m u = sg s (m * 2 ^ u) := by
  unfold signed sg; rw [Nat.shiftLeft_eq]
theorem vl_of {g : Nat} {s : Bool} {m : Nat} {e : Int} (h : single.read g = .number s m e) : vl g = sg s (m * 2 ^ (e + 298).toNat) := by unfold vl; rw [h]; rfl

theorem near_of (s : Bool) (m : Nat) (e : Int) (he : -298 ≤ e) (hb : Sml (m * 2 ^ (e + 298).toNat)) : Near (sg s (m * 2 ^ (e + 298).toNat)) (single.nearest s m e) := by
  obtain ⟨q, c, h1, h2⟩ := near_between s m e he hb
  have hz := h2 0 (-149) (by omega) (by omega)
  rw [Nat.zero_mul] at hz
  clear hb
  refine ⟨⟨_, _, _, h1⟩, ?_, ?_⟩
  · rintro g ⟨t, n, i, hg⟩ h
    rw [vl_of hg] at h ⊢
    rw [vl_of h1]
    obtain ⟨r1, _, r3⟩ := read_fin hg
    have hh := h2 n i r1 r3
    generalize m * 2 ^ (e + 298).toNat = M at *
    generalize n * 2 ^ (i + 298).toNat = N at *
    generalize q * 2 ^ (c + 298).toNat = Q at *
    unfold sg at *
    cases s <;> cases t <;> simp at * <;> omega
  · rintro g ⟨t, n, i, hg⟩ h
    rw [vl_of hg] at h ⊢
    rw [vl_of h1]
    obtain ⟨r1, _, r3⟩ := read_fin hg
    have hh := h2 n i r1 r3
    generalize m * 2 ^ (e + 298).toNat = M at *
    generalize n * 2 ^ (i + 298).toNat = N at *
    generalize q * 2 ^ (c + 298).toNat = Q at *
    unfold sg at *
    cases s <;> cases t <;> simp at * <;> omega

theorem scale_up (s : Bool) (m : Nat) {i b : Int} (h1 : b ≤ i) (h2 : -298 ≤ b) : signed s m (i - b).toNat * ((2 ^ (b + 298).toNat : Nat) : Int) = sg s (m * 2 ^ (i + 298).toNat) := by
  rw [signed_sg, sg_mul, Nat.mul_assoc, ← pow_add_toNat (by omega) (by omega), show i - b + (b + 298) = i + 298 by omega]

theorem sum_near {x y : Datum} {s t : Bool} {m n : Nat} {i j : Int} (hx : x = .number s m i) (hy : y = .number t n j) (hi : -149 ≤ i) (hj : -149 ≤ j)
    (h : Sml (vD x + vD y).natAbs) : ∃ r, (x.sum y).map single.write = some r ∧ Near (vD x + vD y) r := by
  subst hx hy
  refine ⟨_, rfl, ?_⟩
  obtain ⟨z, hz⟩ : ∃ z, signed s m (i - min i j).toNat + signed t n (j - min i j).toNat = z := ⟨_, rfl⟩
  have e1 : vD (.number s m i) + vD (.number t n j) = z * ((2 ^ (min i j + 298).toNat : Nat) : Int) := by
    rw [← hz, Int.add_mul, scale_up s m (by omega) (by omega), scale_up t n (by omega) (by omega)]; rfl
  have e2 : z * ((2 ^ (min i j + 298).toNat : Nat) : Int) = sg (if z = 0 then s && t else decide (z < 0)) (z.natAbs * 2 ^ (min i j + 298).toNat) := by
    rw [← sg_mul]
    congr 1
    unfold sg
    by_cases h0 : z = 0
    · rw [if_pos h0, h0]; cases s <;> cases t <;> rfl
    · rw [if_neg h0]
      by_cases h1 : z < 0
      · rw [decide_eq_true h1]; simp; omega
      · rw [decide_eq_false h1]; simp; omega
  rw [e1] at h ⊢
  rw [e2] at h ⊢
  rw [sg_abs] at h
  show Near _ (single.nearest (if signed s m (i - min i j).toNat + signed t n (j - min i j).toNat = 0 then s && t else decide (signed s m (i - min i j).toNat + signed t n (j - min i j).toNat < 0)) (signed s m (i - min i j).toNat + signed t n (j - min i j).toNat).natAbs (min i j))
  rw [hz]
  exact near_of _ _ _ (by omega) h

theorem add_near {a b : Nat} (ha : Fi a) (hb : Fi b) (h : Sml (vl a + vl b).natAbs) : ∃ r, single.add a b = some r ∧ Near (vl a + vl b) r := by
  obtain ⟨s, m, i, ha⟩ := ha
  obtain ⟨t, n, j, hb⟩ := hb
  exact sum_near ha hb (read_fin ha).1 (read_fin hb).1 h
theorem vD_opp (d : Datum) : vD d.opposite = - vD d := by
  cases d with
  | number s m e => exact sg_not _ _
  | infinity s => rfl
  | nan s t => rfl
theorem sub_near {a b : Nat} (ha : Fi a) (hb : Fi b) (h : Sml (vl a - vl b).natAbs) : ∃ r, single.sub a b = some r ∧ Near (vl a - vl b) r := by
  obtain ⟨s, m, i, ha⟩ := ha
  obtain ⟨t, n, j, hb⟩ := hb
  have e : vl a - vl b = vD (single.read a) + vD (single.read b).opposite := by rw [vD_opp]; rfl
  rw [e] at h ⊢
  exact sum_near ha (y := (single.read b).opposite) (by rw [hb]; rfl) (read_fin ha).1 (read_fin hb).1 h

theorem order_fi {a b : Nat} (ha : Fi a) (hb : Fi b) : single.order a b = some (compare (vl a) (vl b)) := by
  obtain ⟨s, m, i, ha⟩ := ha
  obtain ⟨t, n, j, hb⟩ := hb
  have r1 := (read_fin ha).1
  have r2 := (read_fin hb).1
  unfold Format.order
  rw [ha, hb, vl_of ha, vl_of hb]
  show some (compare (signed s m (i - min i j).toNat) (signed t n (j - min i j).toNat)) = _
  rw [← scale_up s m (b := min i j) (by omega) (by omega), ← scale_up t n (b := min i j) (by omega) (by omega)]
  have hp : (0 : Int) < ((2 ^ (min i j + 298).toNat : Nat) : Int) := by have := Nat.two_pow_pos (min i j + 298).toNat; omega
  generalize ((2 ^ (min i j + 298).toNat : Nat) : Int) = p at *
  generalize signed s m (i - min i j).toNat = x
  generalize signed t n (j - min i j).toNat = y
  congr 1
  rcases Int.lt_trichotomy x y with h | h | h
  · rw [(compare_int x y).1.2 h, (compare_int _ _).1.2 (Int.mul_lt_mul_of_pos_right h hp)]
  · rw [(compare_int x y).2.1.2 h, (compare_int _ _).2.1.2 (by rw [h])]
  · rw [(compare_int x y).2.2.2 h, (compare_int _ _).2.2.2 (Int.mul_lt_mul_of_pos_right h hp)]

/-- a share of a way -/
theorem mul_share {d t : Nat} (hd : Fi d) (ht : Fi t) (h01 : Shr (vl t)) (hb : Sml (vl d).natAbs) :
    ∃ r, single.mul d t = some r ∧ Fi r ∧ (0 ≤ vl d → 0 ≤ vl r ∧ vl r ≤ vl d) ∧ (vl d ≤ 0 → vl d ≤ vl r ∧ vl r ≤ 0) := by
  obtain ⟨h0, h1⟩ := h01
  have hd0 := hd
  obtain ⟨s, m, i, hd⟩ := hd
  obtain ⟨z, n, j, ht⟩ := ht
  have r1 := (read_fin hd).1
  have r2 := (read_fin ht).1
  refine ⟨single.nearest (s ^^ z) (m * n) (i + j), by unfold Format.mul; rw [hd, ht]; rfl, ?_⟩
  have e1 : sg (s ^^ z) (m * n * 2 ^ (i + j + 298).toNat) * (pw 298 : Nat) = vl d * vl t := by
    rw [vl_of hd, vl_of ht, ← sg_xor, sg_mul]
    congr 1
    have : (i + j + 298).toNat + 298 = (i + 298).toNat + (j + 298).toNat := by omega
    rw [Nat.mul_assoc, pw_split this, Nat.mul_mul_mul_comm]
  have hp : (0 : Int) < ((pw 298 : Nat) : Int) := by have : 0 < pw 298 := pw_pos 298; omega
  have h1 : vl t ≤ ((pw 298 : Nat) : Int) := h1
  obtain ⟨x, hx⟩ : ∃ x, sg (s ^^ z) (m * n * 2 ^ (i + j + 298).toNat) = x := ⟨_, rfl⟩
  have p1 : 0 ≤ vl d → 0 ≤ x ∧ x ≤ vl d := by
    intro h
    rw [hx] at e1
    refine ⟨?_, ?_⟩
    · have q1 : 0 ≤ vl d * vl t := Int.mul_nonneg h h0
      rw [← e1] at q1
      exact Int.nonneg_of_mul_nonneg_left q1 hp
    · have q1 : vl d * vl t ≤ vl d * ((pw 298 : Nat) : Int) := Int.mul_le_mul_of_nonneg_left h1 h
      rw [← e1] at q1
      exact Int.le_of_mul_le_mul_right q1 hp
  have p2 : vl d ≤ 0 → vl d ≤ x ∧ x ≤ 0 := by
    intro h
    rw [hx] at e1
    refine ⟨?_, ?_⟩
    · have q1 : vl d * ((pw 298 : Nat) : Int) ≤ vl d * vl t := Int.mul_le_mul_of_nonpos_left h h1
      rw [← e1] at q1
      exact Int.le_of_mul_le_mul_right q1 hp
    · have q1 : vl d * vl t ≤ 0 := Int.mul_nonpos_of_nonpos_of_nonneg h h0
      rw [← e1] at q1
      have q2 : x * ((pw 298 : Nat) : Int) ≤ 0 * ((pw 298 : Nat) : Int) := by rw [Int.zero_mul]; exact q1
      exact Int.le_of_mul_le_mul_right q2 hp
  have hxb : Sml (m * n * 2 ^ (i + j + 298).toNat) := by
    have hb := hb.le
    refine ⟨?_⟩
    have := sg_abs (s ^^ z) (m * n * 2 ^ (i + j + 298).toNat)
    rw [hx] at this
    rw [← this]
    generalize 16777215 * pw 402 = B at *
    omega
  have N := near_of (s ^^ z) (m * n) (i + j) (by omega) hxb
  rw [hx] at N
  clear hx e1 hxb hp hb
  have z0 : Fi 0 := ⟨_, _, _, rfl⟩
  have z1 : vl 0 = 0 := by decide +kernel
  refine ⟨N.fi, fun h => ?_, fun h => ?_⟩
  · have := p1 h
    have a1 := N.le 0 z0 (by rw [z1]; exact this.1)
    have a2 := N.ge d hd0 this.2
    rw [z1] at a1
    exact ⟨a1, a2⟩
  · have := p2 h
    have a1 := N.le d hd0 this.1
    have a2 := N.ge 0 z0 (by rw [z1]; exact this.2)
    rw [z1] at a2
    exact ⟨a1, a2⟩

/-- all multiples of a power of two, not too great -/
theorem grid {k : Nat} (h1 : 149 ≤ k) (h2 : k ≤ 402) (n : Int) (hn : n.natAbs < 16777216) : ∃ c, Fi c ∧ vl c = n * ((2 ^ k : Nat) : Int) := by
  have ek : (((k : Int) - 298) + 298).toNat = k := by omega
  have hb : Sml (n.natAbs * 2 ^ (((k : Int) - 298) + 298).toNat) := by
    rw [ek]; exact ⟨Nat.mul_le_mul (by omega) (pw_ge h2)⟩
  obtain ⟨q, c, r1, r2⟩ := near_between (decide (n < 0)) n.natAbs ((k : Int) - 298) (by omega) hb
  have r3 := r2 n.natAbs ((k : Int) - 298) (by omega) hn
  refine ⟨_, ⟨_, _, _, r1⟩, ?_⟩
  rw [vl_of r1]
  have r4 : q * 2 ^ (c + 298).toNat = n.natAbs * 2 ^ k := by
    have a1 := r3.1 (Nat.le_refl _)
    have a2 := r3.2 (Nat.le_refl _)
    rw [ek] at a1 a2
    omega
  rw [r4, ← sg_mul]
  congr 1
  unfold sg
  by_cases h : n < 0
  · rw [decide_eq_true h]; simp; omega
  · rw [decide_eq_false h]; simp; omega

/-- how far off a float lies -/
theorem Near.within {x : Int} {r : Nat} (N : Near x r) {k : Nat} (h1 : 149 ≤ k) (h2 : k ≤ 402) {p : Int} (hp : ((2 ^ k : Nat) : Int) = p) (hx1 : -(16777214 * p) ≤ x) (hx2 : x ≤ 16777214 * p) : x - p ≤ vl r ∧ vl r ≤ x + p := by
  have p0 : 0 < p := by rw [← hp]; have := Nat.two_pow_pos k; omega
  have d1 : x / p * p ≤ x := Int.ediv_mul_le x (by omega)
  have d2 : x < (x / p + 1) * p := Int.lt_ediv_add_one_mul_self x p0
  have e1 : (x / p + 1) * p = x / p * p + p := by rw [Int.add_mul, Int.one_mul]
  have n1 : -16777215 < x / p + 1 := by
    have : -(16777215 : Int) * p < (x / p + 1) * p := by omega
    exact Int.lt_of_mul_lt_mul_right this (by omega)
  have n2 : x / p < 16777215 := by
    have : x / p * p < 16777215 * p := by omega
    exact Int.lt_of_mul_lt_mul_right this (by omega)
  obtain ⟨c1, f1, v1⟩ := grid h1 h2 (x / p) (by omega)
  obtain ⟨c2, f2, v2⟩ := grid h1 h2 (x / p + 1) (by omega)
  rw [hp] at v1 v2
  have a1 := N.le c1 f1 (by rw [v1]; exact d1)
  have a2 := N.ge c2 f2 (by rw [v2]; omega)
  rw [v1] at a1
  rw [v2, e1] at a2
  omega

theorem read_neg (b : Nat) : single.read (b ^^^ 2147483648) = (single.read b).opposite := by
  unfold Format.read
  simp only [f_least, f_binade, f_inf, f_sign]
  have e1 : (b ^^^ 2147483648) % 2147483648 = b % 2147483648 := by
    have := Nat.xor_mod_two_pow (a := b) (b := 2147483648) (n := 31)
    rw [show (2 : Nat) ^ 31 = 2147483648 from rfl] at this
    rw [this]; simp
  have e2 : (b ^^^ 2147483648) / 2147483648 % 2 = 1 - b / 2147483648 % 2 := by
    have := Nat.xor_div_two_pow (a := b) (b := 2147483648) (n := 31)
    rw [show (2 : Nat) ^ 31 = 2147483648 from rfl] at this
    rw [this]
    have h2 := Nat.xor_mod_two_pow (a := b / 2147483648) (b := 2147483648 / 2147483648) (n := 1)
    rw [show (2 : Nat) ^ 1 = 2 from rfl] at h2
    rw [h2]
    rcases Nat.mod_two_eq_zero_or_one (b / 2147483648) with h | h <;> rw [h] <;> rfl
  rw [e1, e2]
  rcases Nat.mod_two_eq_zero_or_one (b / 2147483648) with h | h
  · rw [h]
    split
    · rfl
    · split
      · rfl
      · split <;> rfl
  · rw [h]
    split
    · rfl
    · split
      · rfl
      · split <;> rfl
theorem neg_fi {b : Nat} (h : Fi b) : Fi (b ^^^ 2147483648) ∧ vl (b ^^^ 2147483648) = - vl b := by
  obtain ⟨s, m, e, hb⟩ := h
  have := read_neg b
  refine ⟨⟨!s, m, e, by rw [this, hb]; rfl⟩, ?_⟩
  unfold vl
  rw [this, vD_opp]
end Fx
end Go.Proofs.Ytfhhneibdmjfgaa
