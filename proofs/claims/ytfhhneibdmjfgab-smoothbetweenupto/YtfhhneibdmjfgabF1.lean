/- a place mixed with itself -/
import Derived.Test.YtfhhneibdmjfgabQ3
namespace Go.Proofs.Ytfhhneibdmjfgab
open Go Ieee Fx
namespace Sm

theorem cut_low (s : Bool) (n d : Nat) : Toward.even.cut s n d ≤ n / 2 ^ (min d (n.log2 + 2)) + 1 := by
  unfold Toward.cut
  simp only [Nat.one_shiftLeft]
  generalize (decide (2 ^ min d (n.log2 + 2) < 2 * (n % 2 ^ min d (n.log2 + 2))) || 2 ^ min d (n.log2 + 2) == 2 * (n % 2 ^ min d (n.log2 + 2)) && n / 2 ^ min d (n.log2 + 2) % 2 == 1) = b
  cases b <;> simp
/-- what is written of a number that is not great is finite -/
theorem near_fin (s : Bool) (m : Nat) (p : Int) (h : p + m.log2 ≤ 120) : ∃ rung, rung < 2139095040 ∧ single.nearest s m p = single.word s rung := by
  unfold Format.nearest
  by_cases h0 : m = 0
  · rw [if_pos h0]; exact ⟨0, by omega, rfl⟩
  · rw [if_neg h0]
    have hf : single.fractionBits = 23 := rfl
    simp only [hf, f_least, f_binade, f_inf]
    obtain ⟨last, hlast⟩ : ∃ l, max (p + (m.log2 : Int) - ((23 : Nat) : Int)) (-149) = l := ⟨_, rfl⟩
    rw [hlast]
    have hl1 : p + (m.log2 : Int) - 23 ≤ last := by rw [← hlast]; exact Int.le_max_left ..
    have hl2 : last ≤ 97 := by rw [← hlast]; omega
    have hl3 : -149 ≤ last := by rw [← hlast]; exact Int.le_max_right ..
    have hm := Nat.lt_log2_self (n := m)
    have hk : Toward.even.cut s (m <<< (p - last).toNat) (last - p).toNat ≤ 16777216 := by
      by_cases hp : last ≤ p
      · have e : (last - p).toNat = 0 := by omega
        rw [e, cut_zero, Nat.shiftLeft_eq]
        have hj : m.log2 + 1 + (p - last).toNat ≤ 24 := by omega
        have h1 : m * 2 ^ (p - last).toNat ≤ 2 ^ (m.log2 + 1) * 2 ^ (p - last).toNat := Nat.mul_le_mul_right _ (Nat.le_of_lt hm)
        rw [← Nat.pow_add] at h1
        exact Nat.le_trans h1 (Nat.le_trans (Nat.pow_le_pow_right (by omega) hj) (by decide))
      · have e : (p - last).toNat = 0 := by omega
        rw [e, Nat.shiftLeft_zero]
        refine Nat.le_trans (cut_low _ _ _) ?_
        have hd : m / 2 ^ (min (last - p).toNat (m.log2 + 2)) < 16777216 := by
          rw [Nat.div_lt_iff_lt_mul (Nat.two_pow_pos _)]
          refine Nat.lt_of_lt_of_le hm ?_
          rw [show (16777216 : Nat) = 2 ^ 24 from rfl, ← Nat.pow_add]
          exact Nat.pow_le_pow_right (by omega) (by omega)
        omega
    generalize Toward.even.cut s (m <<< (p - last).toNat) (last - p).toNat = kept at hk
    refine ⟨_, ?_, rfl⟩
    refine Nat.lt_of_le_of_lt (Nat.min_le_left _ _) ?_
    have : (last - -149).toNat ≤ 246 := by omega
    omega
def Fin1 (x : Nat) : Prop := ∃ s m e, single.read x = .number s m e
theorem fin_word (s : Bool) (r : Nat) (h : r < 2139095040) : Fin1 (single.word s r) := by
  unfold Fin1
  rw [read_word s r (by omega)]
  by_cases h1 : r < 8388608
  · rw [if_pos h1]; exact ⟨_, _, _, rfl⟩
  · rw [if_neg h1, if_pos h]; exact ⟨_, _, _, rfl⟩
/-- how a word is read -/
theorem read_shape {x : Nat} {s : Bool} {m : Nat} {e : Int} (h : single.read x = .number s m e) : (m < 8388608 ∧ e = -149) ∨ (8388608 ≤ m ∧ m < 16777216 ∧ -149 ≤ e ∧ e ≤ 104) := by
  unfold Format.read at h
  simp only [f_least, f_binade, f_inf, f_sign] at h
  split at h
  · rename_i q
    simp only [Datum.number.injEq] at h
    exact .inl ⟨by omega, by omega⟩
  · rename_i q
    split at h
    · rename_i q2
      simp only [Datum.number.injEq] at h
      refine .inr ?_
      omega
    · split at h <;> cases h
theorem sgn_zero (s : Bool) (m u : Nat) : signed s m u = 0 ↔ m = 0 := by
  have a := sgn_abs s m u
  constructor
  · intro h
    rw [h] at a
    have hp := Nat.two_pow_pos u
    rcases Nat.eq_zero_or_pos m with q | q
    · exact q
    · have := Nat.mul_pos q hp
      simp at a
      omega
  · intro h
    subst h
    unfold signed
    simp
theorem sgn_neg (s : Bool) (m u : Nat) (hm : 0 < m) : decide (signed s m u < 0) = s := by
  have hp := Nat.mul_pos hm (Nat.two_pow_pos u)
  unfold signed
  rw [Nat.shiftLeft_eq]
  generalize m * 2 ^ u = z at *
  cases s
  · simp only [Bool.false_eq_true, if_false, decide_eq_false_iff_not]; omega
  · simp only [if_true, decide_eq_true_eq]; omega
/-- what is added to +0 is equal to itself -/
theorem add_zero1 {x : Nat} (hx : Fin1 x) : ∃ r, single.add x 0 = some r ∧ single.order r x = some .eq := by
  obtain ⟨s, m, e, hr⟩ := hx
  have h0 : single.read 0 = .number false 0 (-149) := by decide
  have sh := read_shape hr
  unfold Format.add
  rw [hr, h0]
  simp only [Datum.sum, Option.map]
  have hb : min e (-149) = -149 := by omega
  rw [hb]
  have hz : signed false 0 (-149 - -149 : Int).toNat = 0 := by decide
  rw [hz, Int.add_zero]
  by_cases hm : m = 0
  · subst hm
    have hs := (sgn_zero s 0 (e - -149).toNat).2 rfl
    rw [hs]
    simp only [if_true, Bool.and_false]
    refine ⟨_, rfl, ?_⟩
    have hw : single.write (.number false (0 : Int).natAbs (-149)) = 0 := by decide
    rw [hw]
    unfold Format.order
    rw [h0, hr]
    simp only [Datum.order]
    have z1 : signed false 0 (-149 - min (-149) e).toNat = 0 := (sgn_zero _ _ _).2 rfl
    have z2 : signed s 0 (e - min (-149) e).toNat = 0 := (sgn_zero _ _ _).2 rfl
    rw [z1, z2]
    rfl
  · have hne : ¬ signed s m (e - -149).toNat = 0 := fun h => hm ((sgn_zero _ _ _).1 h)
    rw [if_neg hne, sgn_neg s m _ (by omega), sgn_abs]
    refine ⟨_, rfl, ?_⟩
    have hrd : single.read (single.write (.number s (m * 2 ^ (e - -149).toNat) (-149))) = .number s m e := by
      unfold Format.write
      simp only
      rcases sh with ⟨h1, h2⟩ | ⟨h1, h2, h3, h4⟩
      · subst h2
        have e0 : ((-149 : Int) - -149).toNat = 0 := by decide
        rw [e0, Nat.pow_zero, Nat.mul_one]
        have hl : m.log2 ≤ 22 := by
          have := (Nat.log2_lt hm).2 (show m < 2 ^ 23 from h1)
          omega
        unfold Format.nearest
        rw [if_neg hm]
        have hf : single.fractionBits = 23 := rfl
        simp only [hf, f_least, f_binade, f_inf]
        have hlast : max ((-149 : Int) + (m.log2 : Int) - ((23 : Nat) : Int)) (-149) = -149 := by omega
        rw [hlast]
        have t1 : ((-149 : Int) - -149).toNat = 0 := by decide
        rw [t1, cut_zero, Nat.shiftLeft_zero, Nat.zero_mul, Nat.zero_add, Nat.min_eq_left (by omega), read_word _ _ (by omega), if_pos h1]
      · rw [read_near s m _ (-149) h1 h2 (by omega) (by omega)]
        congr 1
        omega
    unfold Format.order
    rw [hrd, hr]
    exact order_self (.inl ⟨_, _, _, rfl⟩)
theorem sub_self1 {x : Nat} (hx : Fin1 x) : single.sub x x = some 0 := by
  rcases sub_self x with h | h
  · exfalso
    obtain ⟨s, m, e, hr⟩ := hx
    unfold Format.sub at h
    rw [hr] at h
    simp only [Datum.opposite, Datum.sum, Option.map] at h
    cases h
  · exact h
/-- nothing, times what is above 0 and below 1 -/
theorem zero_mul1 {t : Nat} (h1 : gtB (V t) k0 = true) (h2 : geB (V t) k1 = false) : omul k0 (V t) = k0 := by
  rw [← V0, ← mul_V]
  rw [← V0] at h1
  rw [← V1] at h2
  unfold gtB at h1
  unfold geB at h2
  rw [← order_V] at h1 h2
  change (single.order t 0 == some .gt) = true at h1
  change (single.order t 1065353216 == some .gt || single.order t 1065353216 == some .eq) = false at h2
  have r0 : single.read 0 = .number false 0 (-149) := by decide
  have r1 : single.read 1065353216 = .number false 8388608 (-23) := by decide
  unfold Format.order at h1 h2
  rw [r0] at h1
  rw [r1] at h2
  unfold Format.mul
  rw [r0]
  cases hr : single.read t with
  | nan s u => rw [hr] at h1; simp [Datum.order] at h1
  | infinity s =>
    rw [hr] at h1 h2
    cases s
    · simp [Datum.order] at h2
    · simp [Datum.order] at h1
  | number s m e =>
    rw [hr] at h1
    have hs : s = false := by
      cases s with
      | false => rfl
      | true =>
        exfalso
        simp only [Datum.order] at h1
        have z : signed false 0 (-149 - min e (-149)).toNat = 0 := (sgn_zero _ _ _).2 rfl
        rw [z] at h1
        have c := compare_int (signed true m (e - min e (-149)).toNat) 0
        have hle : signed true m (e - min e (-149)).toNat ≤ 0 := by
          unfold signed
          simp only [if_true]
          generalize m <<< (e - min e (-149)).toNat = z
          omega
        have := beq_iff_eq.1 h1
        have hg := c.2.2.1 (Option.some.inj this)
        omega
    subst hs
    simp only [Datum.product, Option.map, Nat.zero_mul, Bool.xor_false]
    have : single.write (.number false 0 (-149 + e)) = 0 := by
      unfold Format.write Format.nearest
      simp [Format.word]
    rw [this]
    exact V0.symm
/-- Mix of a place with itself -/
def mixS (a : Pl) (t : OF) : Pl :=
  if gtB t k0 = false then a else if geB t k1 then a else
    ⟨alongV a.x (osub a.x a.x) t, alongV a.y (osub a.y a.y) t, turnV (alongV a.a (shortV (osub a.a a.a)) t)⟩
def angK (k : Nat) : OF := omul (V (floatOfInt .f32 (k : Int))) kDeg
theorem ang_all : ∀ k : Fin 256, (osub (angK k.val) (angK k.val) = k0 ∧ shortV k0 = k0) ∧ oadd (angK k.val) k0 = angK k.val ∧ turnV (angK k.val) = angK k.val ∧ oord (angK k.val) (angK k.val) = some .eq := by decide +kernel
theorem ang_k (h : Int) : ∃ k : Fin 256, angV h = angK k.val := by
  refine ⟨⟨(h % 256).toNat, by omega⟩, ?_⟩
  unfold angV angK
  have : (((h % 256).toNat : Nat) : Int) = h % 256 := by omega
  rw [this]
theorem log2_63 {n : Nat} (h : n ≤ 9223372036854775808) : n.log2 ≤ 63 := by
  rcases Nat.eq_zero_or_pos n with q | q
  · subst q; decide
  · have := (Nat.log2_lt (n := n) (k := 64) (by omega)).2 (by omega)
    omega
theorem fin_fl (a : Int) (h : -9223372036854775808 ≤ a ∧ a ≤ 9223372036854775807) : Fin1 (fl a) := by
  have hn : ∃ r, r < 2139095040 ∧ FloatKind.f32.nearest a = single.word (decide (a < 0)) r := near_fin _ a.natAbs 0 (by have := log2_63 (n := a.natAbs) (by omega); omega)
  obtain ⟨r, hr, hw⟩ := hn
  have hq := fl_some a
  rw [hw] at hq
  obtain ⟨s, m, e, hd⟩ := fin_word (decide (a < 0)) r hr
  have sh := read_shape hd
  unfold Format.div at hq
  rw [hd, read_one] at hq
  simp only [Datum.quotient] at hq
  rw [if_neg (by omega)] at hq
  simp only [Option.map, Option.some.injEq] at hq
  rw [← hq]
  unfold Format.write
  simp only
  have hl : m.log2 ≤ 23 := by
    rcases Nat.eq_zero_or_pos m with q | q
    · subst q; decide
    · have := (Nat.log2_lt (n := m) (k := 24) (by omega)).2 (by rcases sh with h | h <;> omega)
      omega
  have hf : single.fractionBits + 2 = 25 := rfl
  have h8 : Nat.log2 8388608 = 23 := by decide
  rw [hf, h8]
  generalize hM : 2 * (m <<< (25 + 23 - m.log2) / 8388608) + (m <<< (25 + 23 - m.log2) % 8388608 != 0).toNat = M
  have hMb : M < 2 ^ 27 := by
    have hm := Nat.lt_log2_self (n := m)
    have h1 : m <<< (25 + 23 - m.log2) < 2 ^ 49 := by
      rw [Nat.shiftLeft_eq]
      have := (Nat.mul_lt_mul_right (Nat.two_pow_pos (25 + 23 - m.log2))).2 hm
      rw [← Nat.pow_add] at this
      exact Nat.lt_of_lt_of_le this (Nat.pow_le_pow_right (by omega) (by omega))
    have h2 : (m <<< (25 + 23 - m.log2) % 8388608 != 0).toNat ≤ 1 := by
      cases (m <<< (25 + 23 - m.log2) % 8388608 != 0) <;> simp
    have h3 : m <<< (25 + 23 - m.log2) / 8388608 < 2 ^ 26 := by
      rw [Nat.div_lt_iff_lt_mul (by omega)]
      exact h1
    omega
  have hMl : M.log2 ≤ 26 := by
    rcases Nat.eq_zero_or_pos M with q | q
    · rw [q]; decide
    · have := (Nat.log2_lt (n := M) (k := 27) (by omega)).2 hMb
      omega
  obtain ⟨r2, hr2, hw3⟩ := near_fin (s ^^ false) M (e - -7 - ((25 + 23 - m.log2 : Nat) : Int) - 1) (by
    have : e ≤ 104 := by rcases sh with h | h <;> omega
    omega)
  rw [hw3]
  exact fin_word _ _ hr2
/-- a number's value -/
theorem fin_V {x : Nat} (h : Fin1 x) : V x = some x := V_num (isN_num (.inl h))
theorem one_self {x : Nat} {t : Nat} (hx : Fin1 x) (h1 : gtB (V t) k0 = true) (h2 : geB (V t) k1 = false) : oord (alongV (V x) (osub (V x) (V x)) (V t)) (V x) = some .eq := by
  unfold alongV
  rw [← sub_V, sub_self1 hx, zero_mul1 h1 h2, ← V0, ← add_V]
  obtain ⟨r, hr, ho⟩ := add_zero1 hx
  rw [hr, fin_V hx]
  exact ho
theorem ord_ref {x : Nat} (hx : Fin1 x) : oord (V x) (V x) = some .eq := by
  rw [ord_self_V, isN_num (.inl hx)]; rfl
/-- a place mixed with itself is equal to it -/
theorem mix_self (x y h : Int) (t : Nat) (hx : -9223372036854775808 ≤ x ∧ x ≤ 9223372036854775807) (hy : -9223372036854775808 ≤ y ∧ y ≤ 9223372036854775807) :
    oord (mixS (ofV x y h) (V t)).x (ofV x y h).x = some .eq ∧ oord (mixS (ofV x y h) (V t)).y (ofV x y h).y = some .eq ∧ oord (mixS (ofV x y h) (V t)).a (ofV x y h).a = some .eq := by
  obtain ⟨k, hk⟩ := ang_k h
  obtain ⟨⟨a1, a2⟩, a3, a4, a5⟩ := ang_all k
  have same : oord (ofV x y h).x (ofV x y h).x = some .eq ∧ oord (ofV x y h).y (ofV x y h).y = some .eq ∧ oord (ofV x y h).a (ofV x y h).a = some .eq :=
    ⟨ord_ref (fin_fl x hx), ord_ref (fin_fl y hy), by unfold ofV; simp only; rw [hk]; exact a5⟩
  unfold mixS
  cases h1 : gtB (V t) k0
  · rw [if_pos rfl]; exact same
  · rw [if_neg (by simp)]
    cases h2 : geB (V t) k1
    · simp only [Bool.false_eq_true, if_false]
      refine ⟨one_self (fin_fl x hx) h1 h2, one_self (fin_fl y hy) h1 h2, ?_⟩
      unfold ofV alongV
      simp only
      rw [hk, a1, a2, zero_mul1 h1 h2, a3, a4]
      exact a5
    · simp only [if_true]; exact same
end Sm
end Go.Proofs.Ytfhhneibdmjfgab
