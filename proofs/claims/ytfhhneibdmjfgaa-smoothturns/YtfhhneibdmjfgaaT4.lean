/- tame, angle, way; what Mix gives at any share -/
import Derived.Test.YtfhhneibdmjfgaaT3
import Derived.Test.YtfhhneibdmjfgaaQ6
namespace Go.Proofs.Ytfhhneibdmjfgaa
open Go Go.RowKit Ieee Fx
namespace Sm
set_option maxRecDepth 100000

theorem fi_or {g : Nat} (h : isN g = false) : Fi g ∨ ∃ s, single.read g = .infinity s := by
  rcases num_of h with h | h
  · exact .inl h
  · exact .inr h
theorem V_cases (g : Nat) : V g = none ∨ (V g = some g ∧ (Fi g ∨ ∃ s, single.read g = .infinity s)) := by
  cases h : isN g
  · exact .inr ⟨V_num h, fi_or h⟩
  · exact .inl (V_nan h)
/-- above one float and not above another: it is finite -/
theorem fi_gt {g a b : Nat} (ha : Fi a) (hb : Fi b) (h1 : oord (V g) (some a) = some .gt ∨ oord (V g) (some a) = some .eq) (h2 : oord (V g) (some b) = some .lt) : Fi g := by
  rcases V_cases g with h | ⟨h, hf | ⟨s, hs⟩⟩
  · rw [h] at h2; cases h2
  · exact hf
  · exfalso
    rw [h] at h1 h2
    obtain ⟨s1, m1, e1, ha⟩ := ha
    obtain ⟨s2, m2, e2, hb⟩ := hb
    have h1 : (single.read g).order (single.read a) = some .gt ∨ (single.read g).order (single.read a) = some .eq := h1
    have h2 : (single.read g).order (single.read b) = some .lt := h2
    rw [hs, ha] at h1
    rw [hs, hb] at h2
    cases s <;> simp [Datum.order] at h1 h2
/-- a share between 0 and 1 is finite -/
theorem fi_share {t : Nat} (h1 : gtB (V t) k0 = true) (h2 : geB (V t) k1 = false) : Fi t ∧ Shr (vl t) := by
  have hf : Fi t := by
    rcases V_cases t with h | ⟨h, hf | ⟨s, hs⟩⟩
    · rw [h] at h1; cases h1
    · exact hf
    · exfalso
      rw [h] at h1 h2
      have e1 : oord (some t) k0 = (single.read t).order (single.read 0) := rfl
      have e2 : oord (some t) k1 = (single.read t).order (single.read 1065353216) := rfl
      obtain ⟨s1, m1, x1, z1⟩ := f0
      obtain ⟨s2, m2, x2, z2⟩ := f1
      unfold gtB at h1
      unfold geB at h2
      rw [e1, hs, z1] at h1
      rw [e2, hs, z2] at h2
      cases s
      · simp [Datum.order] at h2
      · simp [Datum.order] at h1
  rw [fi_V hf] at h1 h2
  rw [gtB_fi hf f0, v0] at h1
  rw [geB_fi hf f1, v1] at h2
  exact ⟨hf, ⟨Int.le_of_lt (of_decide_eq_true h1), Int.le_of_lt (Int.not_le.1 (of_decide_eq_false h2))⟩⟩

def tmB (g : Nat) : Bool := gtB (V g) (some 3379831808) && ltB (V g) (some 1232348160)
def tm (g : Nat) : Nat := if tmB g then g else 1084227584
def anB (g : Nat) : Bool := geB (V g) k0 && ltB (V g) k360
def an (g : Nat) : Nat := if anB g then g else 1135853568
theorem V_fix {k : Nat} (h : isN k = false) : V k = some k := V_num h
theorem fa : Fi 3379831808 := fi_of (by decide +kernel)
theorem fb : Fi 1232348160 := fi_of (by decide +kernel)
theorem va : vl 3379831808 = -(8000000 * u3) := by decide +kernel
theorem vb : vl 1232348160 = 8000000 * u3 := by decide +kernel

theorem tm_fi (g : Nat) {p : Int} (hp : u3 = p) : Fi (tm g) ∧ -(8000000 * p) < vl (tm g) ∧ vl (tm g) < 8000000 * p := by
  rw [← hp]
  unfold tm
  cases h : tmB g
  · rw [if_neg (by simp)]
    exact ⟨fi_of (by decide +kernel), by decide +kernel, by decide +kernel⟩
  · rw [if_pos rfl]
    unfold tmB at h
    rw [Bool.and_eq_true] at h
    obtain ⟨h1, h2⟩ := h
    have h1' := h1
    have h2' := h2
    unfold gtB at h1
    unfold ltB at h2
    have hf := fi_gt (g := g) fa fb (.inl (by simpa using h1)) (by simpa using h2)
    rw [fi_V hf, gtB_fi hf fa, va] at h1'
    rw [fi_V hf, ltB_fi hf fb, vb] at h2'
    exact ⟨hf, of_decide_eq_true h1', of_decide_eq_true h2'⟩
theorem an_fi (g : Nat) {p : Int} (hp : u14 = p) : Fi (an g) ∧ 0 ≤ vl (an g) ∧ vl (an g) < 5898240 * p := by
  rw [← hp]
  unfold an
  cases h : anB g
  · rw [if_neg (by simp)]
    exact ⟨fi_of (by decide +kernel), by decide +kernel, by decide +kernel⟩
  · rw [if_pos rfl]
    unfold anB at h
    rw [Bool.and_eq_true] at h
    obtain ⟨h1, h2⟩ := h
    have h1' := h1
    have h2' := h2
    unfold geB at h1
    unfold ltB at h2
    have hf := fi_gt (g := g) f0 f360 (by simpa using h1) (by simpa using h2)
    rw [fi_V hf, geB_fi hf f0, v0] at h1'
    rw [fi_V hf, ltB_fi hf f360, v360] at h2'
    exact ⟨hf, of_decide_eq_true h1', of_decide_eq_true h2'⟩

theorem Va : V 3379831808 = some 3379831808 := fi_V fa
theorem Vb : V 1232348160 = some 1232348160 := fi_V fb
theorem tame_c (g : Nat) (w : World) : Calls Try.prog 15 #[fv g] w fun e w' => e = .returned (fv (tm g)) ∧ w' = w := by
  cases h1 : gtB (V g) (some 3379831808)
  · have d1 := gtr_is g 3379831808 rfl Va h1
    have H : tm g = 1084227584 := by unfold tm tmB; rw [h1]; rfl
    rw [H]
    clear h1 H
    go_enter Try.func15, Try.ntmps15
    go_wp2_with fail
    go_ret
    exact ⟨rfl, rfl⟩
  · have d1 := gtr_is g 3379831808 rfl Va h1
    cases h2 : ltB (V g) (some 1232348160)
    · have d2 := lss_is g 1232348160 rfl Vb h2
      have H : tm g = 1084227584 := by unfold tm tmB; rw [h1, h2]; rfl
      rw [H]
      clear h1 h2 H
      go_enter Try.func15, Try.ntmps15
      go_wp2_with fail
      go_ret
      exact ⟨rfl, rfl⟩
    · have d2 := lss_is g 1232348160 rfl Vb h2
      have H : tm g = g := by unfold tm tmB; rw [h1, h2]; rfl
      rw [H]
      clear h1 h2 H
      go_enter Try.func15, Try.ntmps15
      go_wp2_with fail
      go_ret
      exact ⟨rfl, rfl⟩
theorem anglec_c (g : Nat) (w : World) : Calls Try.prog 16 #[fv g] w fun e w' => e = .returned (fv (an g)) ∧ w' = w := by
  cases h1 : geB (V g) k0
  · have d1 := geq_is g 0 rfl V0 h1
    have H : an g = 1135853568 := by unfold an anB; rw [h1]; rfl
    rw [H]
    clear h1 H
    go_enter Try.func16, Try.ntmps16
    go_wp2_with fail
    go_ret
    exact ⟨rfl, rfl⟩
  · have d1 := geq_is g 0 rfl V0 h1
    cases h2 : ltB (V g) k360
    · have d2 := lss_is g 1135869952 rfl V360 h2
      have H : an g = 1135853568 := by unfold an anB; rw [h1, h2]; rfl
      rw [H]
      clear h1 h2 H
      go_enter Try.func16, Try.ntmps16
      go_wp2_with fail
      go_ret
      exact ⟨rfl, rfl⟩
    · have d2 := lss_is g 1135869952 rfl V360 h2
      have H : an g = g := by unfold an anB; rw [h1, h2]; rfl
      rw [H]
      clear h1 h2 H
      go_enter Try.func16, Try.ntmps16
      go_wp2_with fail
      go_ret
      exact ⟨rfl, rfl⟩

theorem run_neg (P : Program) (b : Nat) (w : World) : (Op.unary .neg (.float .f32 b)).run P w = .ok (.float .f32 (Op.negFloat .f32 b)) w := rfl
attribute [local go_sem] run_neg
theorem way_go {x y d d1 d2 : Nat} (hd : single.sub x y = some d) (h1 : d1 = if ltB (V d) k0 then Op.negFloat .f32 d else d) (h2 : if gtB (V d1) k180 then single.sub 1135869952 d1 = some d2 else d2 = d1) (w : World) :
    Calls Try.prog 18 #[fv x, fv y] w fun e w' => e = .returned (fv d2) ∧ w' = w := by
  have q1 : ∀ w, (binOp .sub 30 (.float .f32 x) (.float .f32 y)).run Try.prog w = .ok (.float .f32 d) w := fun w => run_float_arith w .sub 30 .f32 _ _ _ hd
  cases b1 : ltB (V d) k0
  · rw [b1, if_neg (by simp)] at h1
    subst h1
    have e1 := lss_is d1 0 rfl V0 b1
    cases b2 : gtB (V d1) k180
    · rw [b2, if_neg (by simp)] at h2
      subst h2
      have e2 := gtr_is d2 1127481344 rfl V180 b2
      clear b1 b2 hd
      go_enter Try.func18, Try.ntmps18
      go_wp2_with fail
      go_ret
      exact ⟨rfl, rfl⟩
    · rw [b2, if_pos rfl] at h2
      have q2 : ∀ w, (binOp .sub 30 (.float .f32 1135869952) (.float .f32 d1)).run Try.prog w = .ok (.float .f32 d2) w := fun w => run_float_arith w .sub 30 .f32 _ _ _ h2
      have e2 := gtr_is d1 1127481344 rfl V180 b2
      clear b1 b2 hd h2
      go_enter Try.func18, Try.ntmps18
      go_wp2_with fail
      go_ret
      exact ⟨rfl, rfl⟩
  · rw [b1, if_pos rfl] at h1
    have e1 := lss_is d 0 rfl V0 b1
    subst h1
    cases b2 : gtB (V (Op.negFloat .f32 d)) k180
    · rw [b2, if_neg (by simp)] at h2
      subst h2
      have e2 := gtr_is (Op.negFloat .f32 d) 1127481344 rfl V180 b2
      clear b1 b2 hd
      go_enter Try.func18, Try.ntmps18
      go_wp2_with fail
      go_ret
      exact ⟨rfl, rfl⟩
    · rw [b2, if_pos rfl] at h2
      have q2 : ∀ w, (binOp .sub 30 (.float .f32 1135869952) (.float .f32 (Op.negFloat .f32 d))).run Try.prog w = .ok (.float .f32 d2) w := fun w => run_float_arith w .sub 30 .f32 _ _ _ h2
      have e2 := gtr_is (Op.negFloat .f32 d) 1127481344 rfl V180 b2
      clear b1 b2 hd h2
      go_enter Try.func18, Try.ntmps18
      go_wp2_with fail
      go_ret
      exact ⟨rfl, rfl⟩

/-- how far two angles lie from one another -/
theorem way_fi {x y : Nat} {p : Int} (hp : u14 = p) (hx : Fi x) (hy : Fi y) (x1 : 0 ≤ vl x) (x2 : vl x < 5898240 * p) (y1 : 0 ≤ vl y) (y2 : vl y < 5898240 * p) :
    ∃ r, (∀ w, Calls Try.prog 18 #[fv x, fv y] w fun e w' => e = .returned (fv r) ∧ w' = w) ∧ Fi r ∧ cyc (5898240 * p) (vl x) (vl y) - 4 * p ≤ vl r ∧ vl r ≤ cyc (5898240 * p) (vl x) (vl y) + 4 * p := by
  have c1 : vl 1127481344 = 2949120 * p := by rw [← hp]; exact v180
  have c3 : vl 1135869952 = 5898240 * p := by rw [← hp]; exact v360
  have p0 : 0 < p := by rw [← hp]; have := Nat.two_pow_pos 284; unfold u14; omega
  obtain ⟨d, ed, Nd, d1, d2⟩ := sub_p (k := 284) (by omega) (by omega) hp hx hy (by omega) (by omega)
  obtain ⟨n, hn⟩ : ∃ n, n = if ltB (V d) k0 then Op.negFloat .f32 d else d := ⟨_, rfl⟩
  have fn : Fi n ∧ ((0 ≤ vl d ∧ vl n = vl d) ∨ (vl d < 0 ∧ vl n = - vl d)) := by
    rw [fi_V Nd.fi, ltB_fi Nd.fi f0, v0] at hn
    by_cases h : vl d < 0
    · rw [decide_eq_true h, if_pos rfl] at hn
      have e : n = d ^^^ 2147483648 := hn
      rw [e]
      exact ⟨(neg_fi Nd.fi).1, .inr ⟨h, (neg_fi Nd.fi).2⟩⟩
    · rw [decide_eq_false h, if_neg (by simp)] at hn
      rw [hn]
      exact ⟨Nd.fi, .inl ⟨by omega, rfl⟩⟩
  obtain ⟨fn, vn⟩ := fn
  have fr : ∃ r, (if gtB (V n) k180 then single.sub 1135869952 n = some r else r = n) ∧ Fi r ∧ cyc (5898240 * p) (vl x) (vl y) - 4 * p ≤ vl r ∧ vl r ≤ cyc (5898240 * p) (vl x) (vl y) + 4 * p := by
    rw [fi_V fn, gtB_fi fn f180, c1]
    by_cases h : 2949120 * p < vl n
    · obtain ⟨r, er, Nr, r1, r2⟩ := sub_p (k := 284) (by omega) (by omega) hp f360 fn (by omega) (by omega)
      refine ⟨r, ?_, Nr.fi, ?_, ?_⟩
      · rw [decide_eq_true h, if_pos rfl]; exact er
      · unfold cyc; omega
      · unfold cyc; omega
    · refine ⟨n, ?_, fn, ?_, ?_⟩
      · rw [decide_eq_false h, if_neg (by simp)]
      · unfold cyc; omega
      · unfold cyc; omega
  obtain ⟨r, hr, fr⟩ := fr
  exact ⟨r, fun w => way_go ed hn hr w, fr⟩

/-- one coordinate lies between two, within a little -/
def Mid (p : Int) (a b r : Nat) : Prop := Fi r ∧ ((vl a - 2 * p ≤ vl r ∧ vl r ≤ vl b + 2 * p) ∨ (vl b - 2 * p ≤ vl r ∧ vl r ≤ vl a + 2 * p)) ∧ (vl b = vl a → vl r = vl a)
def MidA (p : Int) (a b r : Nat) : Prop := Fi r ∧ 0 ≤ vl r ∧ vl r < 5898240 * p ∧ cyc (5898240 * p) (vl a) (vl r) ≤ cyc (5898240 * p) (vl a) (vl b) + 20 * p ∧ (vl b = vl a → vl r = vl a)
/-- a place that is tame -/
structure Tm (p q : Int) (x y a : Nat) : Prop where
  x : Fi x ∧ -(8000000 * p) < vl x ∧ vl x < 8000000 * p
  y : Fi y ∧ -(8000000 * p) < vl y ∧ vl y < 8000000 * p
  a : Fi a ∧ 0 ≤ vl a ∧ vl a < 5898240 * q
theorem mix_fi {p q : Int} (hp : u3 = p) (hq : u14 = q) {ax ay aa bx by' ba : Nat} (A : Tm p q ax ay aa) (B : Tm p q bx by' ba) (t : Nat) :
    ∃ mx my ma, mixV ⟨V ax, V ay, V aa⟩ ⟨V bx, V by', V ba⟩ (V t) = ⟨some mx, some my, some ma⟩ ∧ Mid p ax bx mx ∧ Mid p ay by' my ∧ MidA q aa ba ma := by
  have p0 : 0 < p := by rw [← hp]; have := Nat.two_pow_pos 295; unfold u3; omega
  have q0 : 0 < q := by rw [← hq]; have := Nat.two_pow_pos 284; unfold u14; omega
  obtain ⟨⟨a1, a2, a3⟩, ⟨a4, a5, a6⟩, a7, a8, a9⟩ := A
  obtain ⟨⟨b1, b2, b3⟩, ⟨b4, b5, b6⟩, b7, b8, b9⟩ := B
  rw [fi_V a1, fi_V a4, fi_V a7, fi_V b1, fi_V b4, fi_V b7]
  unfold mixV Mid MidA
  cases h1 : gtB (V t) k0
  · refine ⟨ax, ay, aa, by rw [if_pos rfl], ⟨a1, by omega, fun _ => rfl⟩, ⟨a4, by omega, fun _ => rfl⟩, a7, by omega, by omega, ?_, fun _ => rfl⟩
    unfold cyc; omega
  · cases h2 : geB (V t) k1
    · obtain ⟨ft, t1⟩ := fi_share h1 h2
      rw [fi_V ft]
      obtain ⟨mx, e1, x1, x2, x3⟩ := coord hp a1 b1 ft t1 a2 a3 b2 b3
      obtain ⟨my, e2, y1, y2, y3⟩ := coord hp a4 b4 ft t1 a5 a6 b5 b6
      obtain ⟨ma, e3, z1, z2, z3, z4, z5⟩ := angle_mid hq a7 b7 ft t1 a8 a9 b8 b9
      refine ⟨mx, my, ma, ?_, ⟨x1, x2, x3⟩, ⟨y1, y2, y3⟩, z1, z2, z3, z4, z5⟩
      rw [if_neg (by simp), if_neg (by simp), e1, e2, e3]
    · refine ⟨bx, by', ba, by rw [if_neg (by simp), if_pos rfl], ⟨b1, by omega, fun h => h⟩, ⟨b4, by omega, fun h => h⟩, b7, by omega, by omega, ?_, fun h => h⟩
      unfold cyc; omega
theorem mix_0 (a b : Pl) : mixV a b (V 0) = a := by
  unfold mixV
  rw [V0, gtB_fi f0 f0, decide_eq_false (by omega), if_pos rfl]
theorem one_pos' : (0 : Int) < ((pw 298 : Nat) : Int) := by have := pw_pos 298; omega
theorem mix_1 (a b : Pl) : mixV a b (V 1065353216) = b := by
  unfold mixV
  rw [V1, gtB_fi f1 f0, v1, v0, geB_fi f1 f1, decide_eq_true one_pos', decide_eq_true (Int.le_refl _)]
  rfl
/-- -t times t is not above 0 -/
theorem neg_sq (t : Nat) : gtB (omul (V (t ^^^ 2147483648)) (V t)) k0 = false := by
  have hr := read_neg t
  rw [← mul_V]
  unfold Format.mul
  rw [hr]
  rcases V_cases t with h | ⟨h, ⟨s, m, e, hf⟩ | ⟨s, hs⟩⟩
  · obtain ⟨s, z, hz⟩ := isN_iff.1 (V_ne.1 h)
    rw [hz]; rfl
  · rw [hf]
    have : ∃ r, (Datum.product (Datum.opposite (.number s m e)) (.number s m e)).map single.write = some r ∧ r = single.nearest true (m * m) (e + e) := by
      refine ⟨_, rfl, ?_⟩
      cases s <;> rfl
    obtain ⟨r, e1, e2⟩ := this
    rw [e1]
    obtain ⟨k, hk, e3⟩ := near_rung true (m * m) (e + e)
    rw [e2, e3]
    unfold gtB
    have e4 : oord (some (single.word true k)) k0 = (single.read (single.word true k)).order (single.read 0) := rfl
    rw [e4, read_word _ _ (by omega)]
    have e5 : single.read 0 = .number false 0 (-149) := by decide
    rw [e5]
    split
    · unfold Datum.order
      simp only []
      cases hc : compare (signed true k (-149 - min (-149) (-149)).toNat) (signed false 0 (-149 - min (-149) (-149)).toNat)
      · rfl
      · rfl
      · exfalso
        have := (compare_int _ _).2.2.1 hc
        rw [signed_sg, signed_sg] at this
        unfold sg at this
        simp at this
        omega
    · split
      · unfold Datum.order
        simp only []
        generalize (-149 : Int) + ((k / 8388608 - 1 : Nat) : Int) = z
        cases hc : compare (signed true (8388608 + k % 8388608) (z - min z (-149)).toNat) (signed false 0 (-149 - min z (-149)).toNat)
        · rfl
        · rfl
        · exfalso
          have := (compare_int _ _).2.2.1 hc
          rw [signed_sg, signed_sg] at this
          unfold sg at this
          simp only [if_true, Bool.false_eq_true, if_false, Nat.zero_mul] at this
          generalize (8388608 + k % 8388608) * 2 ^ (z - min z (-149)).toNat = Y at this
          omega
      · split
        · rfl
        · omega
  · rw [hs]
    cases s <;> decide +kernel
theorem mix_neg (a b : Pl) (t : Nat) : mixV a b (omul (V (t ^^^ 2147483648)) (V t)) = a := by
  unfold mixV
  rw [neg_sq, if_pos rfl]

/-- the lesser and the greater of two floats -/
theorem min_go {x y : Nat} (hx : Fi x) (hy : Fi y) : ∃ r, (∀ (ats : Array TypeId) ty w, (Builtin.min_ ats ty #[fv x, fv y]).run Try.prog w = .ok (fv r) w) ∧ Fi r ∧ vl r ≤ vl x ∧ vl r ≤ vl y ∧ (vl r = vl x ∨ vl r = vl y) := by
  have ho : FloatKind.f32.format.order x y = some (compare (vl x) (vl y)) := order_fi hx hy
  have go : ∀ r, (∀ w, (Builtin.min2 (fv x) (fv y)).run Try.prog w = .ok (fv r) w) → ∀ (ats : Array TypeId) ty w, (Builtin.min_ ats ty #[fv x, fv y]).run Try.prog w = .ok (fv r) w := by
    intro r h ats ty w
    show ([fv y].foldlM Builtin.min2 (fv x)).run Try.prog w = _
    simp [h]
  rcases Int.lt_trichotomy (vl x) (vl y) with h | h | h
  · refine ⟨x, go x (fun w => ?_), hx, by omega, by omega, .inl rfl⟩
    rw [(compare_int _ _).1.2 h] at ho
    unfold Builtin.min2
    simp only [ho]
    rfl
  · have e := ho
    rw [(compare_int _ _).2.1.2 h] at ho
    cases hb : (FloatKind.f32.decode x).neg
    · refine ⟨y, go y (fun w => ?_), hy, by omega, by omega, .inr rfl⟩
      unfold Builtin.min2
      simp only [ho, hb]
      rfl
    · refine ⟨x, go x (fun w => ?_), hx, by omega, by omega, .inl rfl⟩
      unfold Builtin.min2
      simp only [ho, hb]
      rfl
  · refine ⟨y, go y (fun w => ?_), hy, by omega, by omega, .inr rfl⟩
    rw [(compare_int _ _).2.2.2 h] at ho
    unfold Builtin.min2
    simp only [ho]
    rfl
theorem max_go {x y : Nat} (hx : Fi x) (hy : Fi y) : ∃ r, (∀ (ats : Array TypeId) ty w, (Builtin.max_ ats ty #[fv x, fv y]).run Try.prog w = .ok (fv r) w) ∧ Fi r ∧ vl x ≤ vl r ∧ vl y ≤ vl r ∧ (vl r = vl x ∨ vl r = vl y) := by
  have ho : FloatKind.f32.format.order x y = some (compare (vl x) (vl y)) := order_fi hx hy
  have go : ∀ r, (∀ w, (Builtin.max2 (fv x) (fv y)).run Try.prog w = .ok (fv r) w) → ∀ (ats : Array TypeId) ty w, (Builtin.max_ ats ty #[fv x, fv y]).run Try.prog w = .ok (fv r) w := by
    intro r h ats ty w
    show ([fv y].foldlM Builtin.max2 (fv x)).run Try.prog w = _
    simp [h]
  rcases Int.lt_trichotomy (vl x) (vl y) with h | h | h
  · refine ⟨y, go y (fun w => ?_), hy, by omega, by omega, .inr rfl⟩
    rw [(compare_int _ _).1.2 h] at ho
    unfold Builtin.max2
    simp only [ho]
    rfl
  · rw [(compare_int _ _).2.1.2 h] at ho
    cases hb : (FloatKind.f32.decode x).neg
    · refine ⟨x, go x (fun w => ?_), hx, by omega, by omega, .inl rfl⟩
      unfold Builtin.max2
      simp only [ho, hb]
      rfl
    · refine ⟨y, go y (fun w => ?_), hy, by omega, by omega, .inr rfl⟩
      unfold Builtin.max2
      simp only [ho, hb]
      rfl
  · refine ⟨x, go x (fun w => ?_), hx, by omega, by omega, .inl rfl⟩
    rw [(compare_int _ _).2.2.2 h] at ho
    unfold Builtin.max2
    simp only [ho]
    rfl
end Sm
end Go.Proofs.Ytfhhneibdmjfgaa
