/- what Mix gives of finite places, by what floats are worth -/
import Derived.Test.YtfhhneibdmjfgaaT2
import Derived.Test.YtfhhneibdmjfgaaQ4
namespace Go.Proofs.Ytfhhneibdmjfgaa
open Go Go.RowKit Ieee Fx
namespace Sm

theorem fi_num {g : Nat} (h : Fi g) : isN g = false := by obtain ⟨s, m, e, h⟩ := h; unfold isN; rw [h]; rfl
theorem fi_V {g : Nat} (h : Fi g) : V g = some g := V_num (fi_num h)
theorem oord_fi {a b : Nat} (ha : Fi a) (hb : Fi b) : oord (some a) (some b) = some (compare (vl a) (vl b)) := order_fi ha hb
theorem gtB_fi {a b : Nat} (ha : Fi a) (hb : Fi b) : gtB (some a) (some b) = decide (vl b < vl a) := by
  unfold gtB; rw [oord_fi ha hb]
  by_cases h : vl b < vl a
  · rw [(compare_int _ _).2.2.2 h, decide_eq_true h]; rfl
  · rw [decide_eq_false h]
    cases hc : compare (vl a) (vl b)
    · rfl
    · rfl
    · exact absurd ((compare_int _ _).2.2.1 hc) h
theorem ltB_fi {a b : Nat} (ha : Fi a) (hb : Fi b) : ltB (some a) (some b) = decide (vl a < vl b) := by
  unfold ltB; rw [oord_fi ha hb]
  by_cases h : vl a < vl b
  · rw [(compare_int _ _).1.2 h, decide_eq_true h]; rfl
  · rw [decide_eq_false h]
    cases hc : compare (vl a) (vl b)
    · exact absurd ((compare_int _ _).1.1 hc) h
    · rfl
    · rfl
theorem geB_fi {a b : Nat} (ha : Fi a) (hb : Fi b) : geB (some a) (some b) = decide (vl b ≤ vl a) := by
  unfold geB; rw [oord_fi ha hb]
  by_cases h : vl b ≤ vl a
  · rw [decide_eq_true h]
    rcases Int.lt_or_eq_of_le h with h | h
    · rw [(compare_int _ _).2.2.2 h]; rfl
    · rw [(compare_int _ _).2.1.2 h.symm]; rfl
  · rw [decide_eq_false h, (compare_int _ _).1.2 (by omega)]; rfl
theorem leB_fi {a b : Nat} (ha : Fi a) (hb : Fi b) : leB (some a) (some b) = decide (vl a ≤ vl b) := by
  unfold leB; rw [oord_fi ha hb]
  by_cases h : vl a ≤ vl b
  · rw [decide_eq_true h]
    rcases Int.lt_or_eq_of_le h with h | h
    · rw [(compare_int _ _).1.2 h]; rfl
    · rw [(compare_int _ _).2.1.2 h]; rfl
  · rw [decide_eq_false h, (compare_int _ _).2.2.2 (by omega)]; rfl

abbrev u3 : Int := ((2 ^ 295 : Nat) : Int)
abbrev u14 : Int := ((2 ^ 284 : Nat) : Int)
theorem f0 : Fi 0 := ⟨_, _, _, rfl⟩
theorem fi_of {g : Nat} (h : (match single.read g with | .number .. => true | _ => false) = true) : Fi g := by
  cases hd : single.read g with
  | number s m e => exact ⟨_, _, _, hd⟩
  | infinity s => rw [hd] at h; cases h
  | nan s t => rw [hd] at h; cases h
theorem f1 : Fi 1065353216 := fi_of (by decide +kernel)
theorem f180 : Fi 1127481344 := fi_of (by decide +kernel)
theorem fn180 : Fi 3274964992 := fi_of (by decide +kernel)
theorem f360 : Fi 1135869952 := fi_of (by decide +kernel)
theorem f001 : Fi 1008981770 := fi_of (by decide +kernel)
theorem v0 : vl 0 = 0 := by decide +kernel
theorem v1 : vl 1065353216 = ((pw 298 : Nat) : Int) := by decide +kernel
theorem v1u : vl 1065353216 = 8 * u3 := by decide +kernel
theorem v180 : vl 1127481344 = 2949120 * u14 := by decide +kernel
theorem vn180 : vl 3274964992 = -(2949120 * u14) := by decide +kernel
theorem v360 : vl 1135869952 = 5898240 * u14 := by decide +kernel
theorem v001 : 163 * u14 ≤ vl 1008981770 ∧ vl 1008981770 ≤ 164 * u14 := by decide +kernel

theorem big_of {x : Int} {k : Nat} (h2 : k ≤ 402) {p : Int} (hp : ((2 ^ k : Nat) : Int) = p) (x1 : -(16777214 * p) ≤ x) (x2 : x ≤ 16777214 * p) : Sml x.natAbs := by
  have h := pw_ge h2
  refine ⟨?_⟩
  generalize pw 402 = B at h ⊢
  generalize 2 ^ k = q at h hp
  omega
section
set_option linter.unusedSectionVars false
variable {k : Nat} (h1 : 149 ≤ k) (h2 : k ≤ 402) {p : Int} (hp : ((2 ^ k : Nat) : Int) = p)
include h1 h2 hp
theorem sub_p {a b : Nat} (ha : Fi a) (hb : Fi b) (x1 : -(16777214 * p) ≤ vl a - vl b) (x2 : vl a - vl b ≤ 16777214 * p) :
    ∃ r, osub (some a) (some b) = some r ∧ Near (vl a - vl b) r ∧ vl a - vl b - p ≤ vl r ∧ vl r ≤ vl a - vl b + p := by
  obtain ⟨r, e, N⟩ := sub_near ha hb (big_of h2 hp x1 x2)
  exact ⟨r, e, N, (N.within h1 h2 hp x1 x2).1, (N.within h1 h2 hp x1 x2).2⟩
theorem add_p {a b : Nat} (ha : Fi a) (hb : Fi b) (x1 : -(16777214 * p) ≤ vl a + vl b) (x2 : vl a + vl b ≤ 16777214 * p) :
    ∃ r, oadd (some a) (some b) = some r ∧ Near (vl a + vl b) r ∧ vl a + vl b - p ≤ vl r ∧ vl r ≤ vl a + vl b + p := by
  obtain ⟨r, e, N⟩ := add_near ha hb (big_of h2 hp x1 x2)
  exact ⟨r, e, N, (N.within h1 h2 hp x1 x2).1, (N.within h1 h2 hp x1 x2).2⟩
theorem mul_p {d t : Nat} (hd : Fi d) (ht : Fi t) (h01 : Shr (vl t)) (x1 : -(16777214 * p) ≤ vl d) (x2 : vl d ≤ 16777214 * p) :
    ∃ r, omul (some d) (some t) = some r ∧ Fi r ∧ (0 ≤ vl d → 0 ≤ vl r ∧ vl r ≤ vl d) ∧ (vl d ≤ 0 → vl d ≤ vl r ∧ vl r ≤ 0) :=
  mul_share hd ht h01 (big_of h2 hp x1 x2)
end
theorem Near.same {a r : Nat} (ha : Fi a) {x : Int} (N : Near x r) (h : x = vl a) : vl r = vl a := by
  have := N.le a ha (by omega)
  have := N.ge a ha (by omega)
  omega

/-- a coordinate -/
theorem coord {p : Int} (hp : u3 = p) {a b t : Nat} (ha : Fi a) (hb : Fi b) (ht : Fi t) (t01 : Shr (vl t))
    (a1 : -(8000000 * p) < vl a) (a2 : vl a < 8000000 * p) (b1 : -(8000000 * p) < vl b) (b2 : vl b < 8000000 * p) :
    ∃ r, alongV (some a) (osub (some b) (some a)) (some t) = some r ∧ Fi r ∧ ((vl a - 2 * p ≤ vl r ∧ vl r ≤ vl b + 2 * p) ∨ (vl b - 2 * p ≤ vl r ∧ vl r ≤ vl a + 2 * p)) ∧ (vl b = vl a → vl r = vl a) := by
  have p0 : 0 < p := by rw [← hp]; have := Nat.two_pow_pos 295; unfold u3; omega
  obtain ⟨d, ed, Nd, d1, d2⟩ := sub_p (k := 295) (by omega) (by omega) hp hb ha (by omega) (by omega)
  obtain ⟨m, em, fm, m1, m2⟩ := mul_p (k := 295) (by omega) (by omega) hp Nd.fi ht t01 (by omega) (by omega)
  obtain ⟨r, er, Nr, r1, r2⟩ := add_p (k := 295) (by omega) (by omega) hp ha fm (by omega) (by omega)
  refine ⟨r, ?_, Nr.fi, ?_, ?_⟩
  · unfold alongV; rw [ed, em, er]
  · by_cases h : 0 ≤ vl d
    · have := m1 h; left; omega
    · have := m2 (by omega); right; omega
  · intro he
    have hd := Near.same f0 Nd (by rw [v0]; omega)
    rw [v0] at hd
    have := m1 (by omega)
    exact Near.same ha Nr (by omega)

abbrev cyc (o x y : Int) : Int := min (max (x - y) (y - x)) (o - max (x - y) (y - x))

/-- the way is made the shorter one -/
theorem short_fi {p : Int} (hp : u14 = p) {w : Nat} (hw : Fi w) (w1 : -(5898240 * p) ≤ vl w) (w2 : vl w ≤ 5898240 * p) :
    ∃ s, shortV (some w) = some s ∧ Fi s ∧ -(2949120 * p) ≤ vl s ∧ vl s ≤ 2949120 * p ∧ ((vl s = vl w) ∨ (vl w > 2949120 * p ∧ vl w - 5898240 * p - p ≤ vl s ∧ vl s ≤ vl w - 5898240 * p + p ∧ vl s ≤ 0) ∨ (vl w < -(2949120 * p) ∧ vl w + 5898240 * p - p ≤ vl s ∧ vl s ≤ vl w + 5898240 * p + p ∧ 0 ≤ vl s)) := by
  have c1 : vl 1127481344 = 2949120 * p := by rw [← hp]; exact v180
  have c2 : vl 3274964992 = -(2949120 * p) := by rw [← hp]; exact vn180
  have c3 : vl 1135869952 = 5898240 * p := by rw [← hp]; exact v360
  have p0 : 0 < p := by rw [← hp]; have := Nat.two_pow_pos 284; unfold u14; omega
  unfold shortV
  rw [gtB_fi hw f180, ltB_fi hw fn180, c1, c2]
  by_cases h1 : 2949120 * p < vl w
  · rw [decide_eq_true h1, if_pos rfl]
    obtain ⟨s, es, Ns, s1, s2⟩ := sub_p (k := 284) (by omega) (by omega) hp hw f360 (by omega) (by omega)
    have n1 := Ns.ge 0 f0 (by rw [v0]; omega)
    have n2 := Ns.le _ fn180 (by omega)
    rw [v0] at n1
    exact ⟨s, es, Ns.fi, by omega, by omega, by omega⟩
  · rw [decide_eq_false h1, if_neg (by simp)]
    by_cases h2 : vl w < -(2949120 * p)
    · rw [decide_eq_true h2, if_pos rfl]
      obtain ⟨s, es, Ns, s1, s2⟩ := add_p (k := 284) (by omega) (by omega) hp hw f360 (by omega) (by omega)
      have n1 := Ns.le 0 f0 (by rw [v0]; omega)
      have n2 := Ns.ge _ f180 (by omega)
      rw [v0] at n1
      exact ⟨s, es, Ns.fi, by omega, by omega, by omega⟩
    · rw [decide_eq_false h2, if_neg (by simp)]
      exact ⟨w, rfl, hw, by omega, by omega, .inl rfl⟩

/-- an angle is brought back into the turn -/
theorem turn_fi {p : Int} (hp : u14 = p) {x : Nat} (hx : Fi x) (x1 : -(2949121 * p) ≤ vl x) (x2 : vl x ≤ 8847361 * p) :
    ∃ r, turnV (some x) = some r ∧ Fi r ∧ 0 ≤ vl r ∧ vl r < 5898240 * p ∧
      ((vl r = vl x) ∨ (5898240 * p ≤ vl x ∧ vl x - 5898240 * p - p ≤ vl r ∧ vl r ≤ vl x - 5898240 * p + p) ∨ (vl x < 0 ∧ vl x + 5898240 * p - p ≤ vl r ∧ vl r ≤ vl x + 5898240 * p + p) ∨ (vl x < 0 ∧ -p ≤ vl x ∧ vl r = 0)) ∧ (0 ≤ vl x → vl x < 5898240 * p → vl r = vl x) := by
  have c3 : vl 1135869952 = 5898240 * p := by rw [← hp]; exact v360
  have c0 := v0
  have p0 : 0 < p := by rw [← hp]; have := Nat.two_pow_pos 284; unfold u14; omega
  unfold turnV
  rw [geB_fi hx f360, c3]
  by_cases h1 : 5898240 * p ≤ vl x
  · rw [decide_eq_true h1, if_pos rfl]
    obtain ⟨s, es, Ns, s1, s2⟩ := sub_p (k := 284) (by omega) (by omega) hp hx f360 (by omega) (by omega)
    have n1 := Ns.le 0 f0 (by omega)
    rw [es]
    unfold turnC
    rw [ltB_fi Ns.fi f0, decide_eq_false (by omega), if_neg (by simp)]
    exact ⟨s, rfl, Ns.fi, by omega, by omega, by omega, by omega⟩
  · rw [decide_eq_false h1, if_neg (by simp)]
    unfold turnC
    rw [ltB_fi hx f0, c0]
    by_cases h2 : vl x < 0
    · rw [decide_eq_true h2, if_pos rfl]
      obtain ⟨s, es, Ns, s1, s2⟩ := add_p (k := 284) (by omega) (by omega) hp hx f360 (by omega) (by omega)
      rw [es, geB_fi Ns.fi f360, c3]
      by_cases h3 : 5898240 * p ≤ vl s
      · rw [decide_eq_true h3, if_pos rfl]
        exact ⟨0, rfl, f0, by omega, by omega, by omega, by omega⟩
      · rw [decide_eq_false h3, if_neg (by simp)]
        exact ⟨s, rfl, Ns.fi, by omega, by omega, by omega, by omega⟩
    · rw [decide_eq_false h2, if_neg (by simp)]
      exact ⟨x, rfl, hx, by omega, by omega, .inl rfl, fun _ _ => rfl⟩

/-- an angle between two -/
theorem angle_mid {p : Int} (hp : u14 = p) {a b t : Nat} (ha : Fi a) (hb : Fi b) (ht : Fi t) (t01 : Shr (vl t))
    (a1 : 0 ≤ vl a) (a2 : vl a < 5898240 * p) (b1 : 0 ≤ vl b) (b2 : vl b < 5898240 * p) :
    ∃ r, turnV (alongV (some a) (shortV (osub (some b) (some a))) (some t)) = some r ∧ Fi r ∧ 0 ≤ vl r ∧ vl r < 5898240 * p ∧
      cyc (5898240 * p) (vl a) (vl r) ≤ cyc (5898240 * p) (vl a) (vl b) + 20 * p ∧ (vl b = vl a → vl r = vl a) := by
  have c3 : vl 1135869952 = 5898240 * p := by rw [← hp]; exact v360
  have p0 : 0 < p := by rw [← hp]; have := Nat.two_pow_pos 284; unfold u14; omega
  obtain ⟨d, ed, Nd, d1, d2⟩ := sub_p (k := 284) (by omega) (by omega) hp hb ha (by omega) (by omega)
  have d3 := Nd.ge _ f360 (by omega)
  have d4 : -(5898240 * p) ≤ vl d := by
    have := Nd.le (1135869952 ^^^ 2147483648) (neg_fi f360).1 (by rw [(neg_fi f360).2]; omega)
    rw [(neg_fi f360).2] at this
    omega
  obtain ⟨s, es, fs, s1, s2, s3⟩ := short_fi hp Nd.fi d4 (by omega)
  obtain ⟨m, em, fm, m1, m2⟩ := mul_p (k := 284) (by omega) (by omega) hp fs ht t01 (by omega) (by omega)
  have mm : -(2949120 * p) ≤ vl m ∧ vl m ≤ 2949120 * p := by
    by_cases h : 0 ≤ vl s
    · have := m1 h; omega
    · have := m2 (by omega); omega
  obtain ⟨x, ex, Nx, x1, x2⟩ := add_p (k := 284) (by omega) (by omega) hp ha fm (by omega) (by omega)
  obtain ⟨r, er, fr, r1, r2, r3, r4⟩ := turn_fi hp Nx.fi (by omega) (by omega)
  refine ⟨r, ?_, fr, r1, r2, ?_, ?_⟩
  · unfold alongV; rw [ed, es, em, ex, er]
  · by_cases h : 0 ≤ vl s
    · have := m1 h; unfold cyc; omega
    · have := m2 (by omega); unfold cyc; omega
  · intro he
    have hd := Near.same f0 Nd (by rw [v0]; omega)
    rw [v0] at hd
    have hs : vl s = 0 := by omega
    have := m1 (by omega)
    have hx := Near.same ha Nx (by omega)
    rw [r4 (by omega) (by omega), hx]
end Sm
end Go.Proofs.Ytfhhneibdmjfgaa
