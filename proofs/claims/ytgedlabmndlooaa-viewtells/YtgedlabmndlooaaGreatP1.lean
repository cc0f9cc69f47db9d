/- grid: the things by their ids; near ones; the order of the nearest. -/
import Derived.Test.YtgedlabmndlooaaGreatP0
namespace Go.Proofs.YtgedlabmndlooaaGreat
open Go Go.RowKit

/-- a thing, as it is told -/
structure Pl where
  id : Int
  x : Int
  y : Int
instance : Inhabited Pl := ⟨⟨0, 0, 0⟩⟩
def plOf (t : Tg) : Pl := ⟨t.id, t.x, t.y⟩
/-- the thing of an id -/
def look : List Pl → Int → Option Pl
  | [], _ => none
  | x :: r, k => if x.id = k then some x else look r k
/-- laid in its place -/
def ins (x : Pl) : List Pl → List Pl
  | [] => [x]
  | y :: r => if x.id < y.id then x :: y :: r else y :: ins x r
def rmk (M : List Pl) (k : Int) : List Pl := M.filter (fun x => decide (x.id ≠ k))
def Srt (M : List Pl) : Prop := M.Pairwise (fun a b => a.id < b.id)
set_option maxRecDepth 100000 in
theorem look_mem {M : List Pl} {k : Int} {x : Pl} (h : look M k = some x) : x ∈ M ∧ x.id = k := by
  induction M with
  | nil => simp [look] at h
  | cons y r ih =>
    by_cases e : y.id = k
    · simp only [look, e, if_true, Option.some.injEq] at h
      subst h
      exact ⟨List.mem_cons_self .., e⟩
    · simp only [look, e, if_false] at h
      exact ⟨List.mem_cons_of_mem _ (ih h).1, (ih h).2⟩
set_option maxRecDepth 100000 in
theorem look_none {M : List Pl} {k : Int} : look M k = none ↔ ∀ x ∈ M, x.id ≠ k := by
  induction M with
  | nil => simp [look]
  | cons y r ih =>
    by_cases e : y.id = k
    · simp [look, e]
    · simp only [look, e, if_false, ih, List.mem_cons, forall_eq_or_imp]
      exact ⟨fun q => ⟨e, q⟩, fun q => q.2⟩
set_option maxRecDepth 100000 in
theorem look_of {M : List Pl} (hs : M.Pairwise (fun a b => a.id ≠ b.id)) {x : Pl} (hx : x ∈ M) : look M x.id = some x := by
  induction M with
  | nil => cases hx
  | cons y r ih =>
    obtain ⟨h1, h2⟩ := List.pairwise_cons.1 hs
    rcases List.mem_cons.1 hx with rfl | hx
    · simp [look]
    · have : y.id ≠ x.id := h1 x hx
      simp only [look, this, if_false]
      exact ih h2 hx
set_option maxRecDepth 100000 in
theorem look_ins (x : Pl) (k : Int) : ∀ (M : List Pl), look M x.id = none → look (ins x M) k = if k = x.id then some x else look M k
  | [], _ => by
    by_cases e : k = x.id
    · simp [ins, look, e]
    · simp [ins, look, e, Ne.symm e]
  | y :: r, h => by
    have hy := (look_none.1 h) y (List.mem_cons_self ..)
    have hr : look r x.id = none := by simpa [look, hy] using h
    unfold ins
    by_cases c : x.id < y.id
    · rw [if_pos c]
      by_cases e : k = x.id
      · simp [look, e]
      · simp only [look, e, Ne.symm e, if_false]
    · rw [if_neg c]
      have ih := look_ins x k r hr
      by_cases e : y.id = k
      · subst e
        simp only [look, if_true, hy, if_false]
      · simp only [look, e, if_false]
        exact ih
set_option maxRecDepth 100000 in
theorem len_ins (x : Pl) : ∀ (M : List Pl), (ins x M).length = M.length + 1
  | [] => rfl
  | y :: r => by
    unfold ins
    split
    · rfl
    · rw [List.length_cons, len_ins x r, List.length_cons]
set_option maxRecDepth 100000 in
theorem mem_ins {x y : Pl} : ∀ {M : List Pl}, y ∈ ins x M ↔ y = x ∨ y ∈ M
  | [] => by simp [ins]
  | z :: r => by
    unfold ins
    split
    · simp
    · simp only [List.mem_cons, mem_ins (M := r)]
      constructor
      · rintro (h | h | h)
        · exact .inr (.inl h)
        · exact .inl h
        · exact .inr (.inr h)
      · rintro (h | h | h)
        · exact .inr (.inl h)
        · exact .inl h
        · exact .inr (.inr h)
set_option maxRecDepth 100000 in
theorem Srt.ins {x : Pl} : ∀ {M : List Pl}, Srt M → look M x.id = none → Srt (ins x M)
  | [], _, _ => List.pairwise_singleton _ _
  | y :: r, h, hn => by
    obtain ⟨h1, h2⟩ := List.pairwise_cons.1 h
    have hy := (look_none.1 hn) y (List.mem_cons_self ..)
    have hr : look r x.id = none := by simpa [look, hy] using hn
    unfold Go.Proofs.YtgedlabmndlooaaGreat.ins
    by_cases c : x.id < y.id
    · rw [if_pos c]
      refine List.pairwise_cons.2 ⟨fun z hz => ?_, h⟩
      rcases List.mem_cons.1 hz with rfl | hz
      · exact c
      · have := h1 z hz
        omega
    · rw [if_neg c]
      refine List.pairwise_cons.2 ⟨fun z hz => ?_, Srt.ins h2 hr⟩
      rcases mem_ins.1 hz with rfl | hz
      · omega
      · exact h1 z hz
set_option maxRecDepth 100000 in
theorem Srt.rmk {M : List Pl} (h : Srt M) (k : Int) : Srt (rmk M k) := List.Pairwise.sublist List.filter_sublist h
set_option maxRecDepth 100000 in
theorem Srt.ne {M : List Pl} (h : Srt M) : M.Pairwise (fun a b => a.id ≠ b.id) := h.imp (fun hab => by omega)
set_option maxRecDepth 100000 in
theorem look_rmk (M : List Pl) (k k' : Int) : look (rmk M k) k' = if k' = k then none else look M k' := by
  induction M with
  | nil => simp [look, rmk]
  | cons y r ih =>
    unfold rmk at ih ⊢
    rw [List.filter_cons]
    by_cases h : y.id = k
    · simp only [h, ne_eq, not_true_eq_false, decide_false, Bool.false_eq_true, if_false]
      rw [ih]
      by_cases e : k' = k
      · simp [e]
      · simp only [e, if_false, look, h, Ne.symm e]
    · simp only [ne_eq, h, not_false_eq_true, decide_true, if_true, look]
      rw [ih]
      by_cases e : k' = k
      · subst e
        simp [h]
      · simp only [e, if_false]
set_option maxRecDepth 100000 in
theorem rmk_none {M : List Pl} {k : Int} (h : look M k = none) : rmk M k = M := by
  refine List.filter_eq_self.2 fun x hx => ?_
  simpa using look_none.1 h x hx
set_option maxRecDepth 100000 in
theorem rmk_perm {M : List Pl} (hs : M.Pairwise (fun a b => a.id ≠ b.id)) {x : Pl} (hx : x ∈ M) : (x :: rmk M x.id).Perm M := by
  obtain ⟨A, C, rfl⟩ := List.append_of_mem hx
  rw [List.pairwise_append] at hs
  obtain ⟨_, h2, h3⟩ := hs
  obtain ⟨h4, _⟩ := List.pairwise_cons.1 h2
  have e : rmk (A ++ x :: C) x.id = A ++ C := by
    unfold rmk
    rw [List.filter_append, List.filter_cons]
    simp only [ne_eq, not_true_eq_false, decide_false, Bool.false_eq_true, if_false]
    rw [List.filter_eq_self.2 (fun y hy => by simpa using h3 y hy x (List.mem_cons_self ..)), List.filter_eq_self.2 (fun y hy => by simpa using (h4 y hy).symm)]
  rw [e]
  exact List.perm_middle.symm
set_option maxRecDepth 100000 in
theorem rmk_len {M : List Pl} (hs : M.Pairwise (fun a b => a.id ≠ b.id)) {k : Int} {x : Pl} (h : look M k = some x) : (rmk M k).length + 1 = M.length := by
  obtain ⟨hx, rfl⟩ := look_mem h
  have := (rmk_perm hs hx).length_eq
  simpa using this
set_option maxRecDepth 100000 in
theorem strict_ext : ∀ (A B : List Pl), Srt A → Srt B → (∀ s, s ∈ A ↔ s ∈ B) → A = B
  | [], [], _, _, _ => rfl
  | [], b :: B, _, _, h => by have := (h b).2 (List.mem_cons_self ..); cases this
  | a :: A, [], _, _, h => by have := (h a).1 (List.mem_cons_self ..); cases this
  | a :: A, b :: B, hA, hB, h => by
    obtain ⟨lA, gA⟩ := List.pairwise_cons.1 hA
    obtain ⟨lB, gB⟩ := List.pairwise_cons.1 hB
    clear hA hB
    have e : a = b := by
      rcases List.mem_cons.1 ((h a).1 (List.mem_cons_self ..)) with q | q
      · exact q
      · rcases List.mem_cons.1 ((h b).2 (List.mem_cons_self ..)) with z | z
        · exact z.symm
        · have := lB a q; have := lA b z; omega
    subst e
    rw [strict_ext A B gA gB fun s => ⟨fun hs => ?_, fun hs => ?_⟩]
    · rcases List.mem_cons.1 ((h s).1 (List.mem_cons_of_mem _ hs)) with q | q
      · subst q; have := lA _ hs; omega
      · exact q
    · rcases List.mem_cons.1 ((h s).2 (List.mem_cons_of_mem _ hs)) with q | q
      · subst q; have := lB _ hs; omega
      · exact q

/-- two lists that rise by an order and have the same members are the same -/
theorem ext_of {α : Type} {lt : α → α → Prop} (asym : ∀ a b, lt a b → ¬ lt b a) : ∀ (A B : List α), A.Pairwise lt → B.Pairwise lt → (∀ s, s ∈ A ↔ s ∈ B) → A = B
  | [], [], _, _, _ => rfl
  | [], b :: B, _, _, h => by have := (h b).2 (List.mem_cons_self ..); cases this
  | a :: A, [], _, _, h => by have := (h a).1 (List.mem_cons_self ..); cases this
  | a :: A, b :: B, hA, hB, h => by
    obtain ⟨lA, gA⟩ := List.pairwise_cons.1 hA
    obtain ⟨lB, gB⟩ := List.pairwise_cons.1 hB
    clear hA hB
    have e : a = b := by
      rcases List.mem_cons.1 ((h a).1 (List.mem_cons_self ..)) with q | q
      · exact q
      · rcases List.mem_cons.1 ((h b).2 (List.mem_cons_self ..)) with z | z
        · exact z.symm
        · exact absurd (lA b z) (asym _ _ (lB a q))
    subst e
    rw [ext_of asym A B gA gB fun s => ⟨fun hs => ?_, fun hs => ?_⟩]
    · rcases List.mem_cons.1 ((h s).1 (List.mem_cons_of_mem _ hs)) with q | q
      · subst q; exact absurd (lA _ hs) (fun z => asym _ _ z z)
      · exact q
    · rcases List.mem_cons.1 ((h s).2 (List.mem_cons_of_mem _ hs)) with q | q
      · subst q; exact absurd (lB _ hs) (fun z => asym _ _ z z)
      · exact q

/-! ### distances -/
def kz (x lo hi : Int) : Int := max lo (min x hi)
def lz (a b m : Int) : Int := kz (a - b) (-m) m
def d2 (ax ay bx by' : Int) : Int := lz ax bx 2147483647 * lz ax bx 2147483647 + lz ay by' 2147483647 * lz ay by' 2147483647
def wn (d r : Int) : Bool := decide (0 ≤ r) && decide (d ≤ kz r 0 3037000499 * kz r 0 3037000499)
set_option maxRecDepth 100000 in
theorem sq0 (x : Int) : 0 ≤ x * x := by
  rcases Int.le_total 0 x with h | h
  · exact Int.mul_nonneg h h
  · have := Int.mul_nonneg (a := -x) (b := -x) (by omega) (by omega)
    grind
set_option maxRecDepth 100000 in
theorem lz_range (a b m : Int) (h : 0 ≤ m) : -m ≤ lz a b m ∧ lz a b m ≤ m := by unfold lz kz; omega
set_option maxRecDepth 100000 in
theorem sq_bd (x : Int) (hx : -2147483647 ≤ x ∧ x ≤ 2147483647) : 0 ≤ x * x ∧ x * x ≤ 4611686014132420609 := by
  constructor
  · exact sq0 x
  · have : 0 ≤ (2147483647 - x) * (2147483647 + x) := Int.mul_nonneg (by omega) (by omega)
    grind
set_option maxRecDepth 100000 in
theorem d2_range (ax ay bx by' : Int) : 0 ≤ d2 ax ay bx by' ∧ d2 ax ay bx by' ≤ 9223372028264841218 := by
  have h1 := sq_bd _ (lz_range ax bx 2147483647 (by omega))
  have h2 := sq_bd _ (lz_range ay by' 2147483647 (by omega))
  unfold d2
  omega
set_option maxRecDepth 100000 in
theorem kz_sq (r : Int) : 0 ≤ kz r 0 3037000499 * kz r 0 3037000499 ∧ kz r 0 3037000499 * kz r 0 3037000499 ≤ 9223372030926249001 := by
  have h : 0 ≤ kz r 0 3037000499 ∧ kz r 0 3037000499 ≤ 3037000499 := by unfold kz; omega
  generalize kz r 0 3037000499 = s at *
  constructor
  · exact sq0 s
  · have : 0 ≤ (3037000499 - s) * (3037000499 + s) := Int.mul_nonneg (by omega) (by omega)
    grind
set_option maxRecDepth 100000 in
theorem wn_big (d r : Int) (hd : d ≤ 9223372028264841218) (h : 3037000500 ≤ r) : wn d r = true := by
  have e : kz r 0 3037000499 = 3037000499 := by unfold kz; omega
  unfold wn
  rw [e, decide_eq_true (by omega), decide_eq_true (by omega)]
  rfl
set_option maxRecDepth 100000 in
theorem wn_small (d r : Int) (h0 : 0 ≤ r) (h : r < 3037000500) : wn d r = decide (d ≤ r * r) := by
  have e : kz r 0 3037000499 = r := by unfold kz; omega
  unfold wn
  rw [e, decide_eq_true h0, Bool.true_and]
set_option maxRecDepth 100000 in
theorem wn_neg (d r : Int) (h0 : r < 0) : wn d r = false := by
  unfold wn
  rw [decide_eq_false (by omega), Bool.false_and]
set_option maxRecDepth 100000 in
theorem d2_symm (ax ay bx by' : Int) : d2 ax ay bx by' = d2 bx by' ax ay := by
  have h : ∀ a b : Int, lz a b 2147483647 = - lz b a 2147483647 := fun a b => by unfold lz kz; omega
  unfold d2
  rw [h ax bx, h ay by', Int.neg_mul_neg, Int.neg_mul_neg]
set_option maxRecDepth 100000 in
theorem near_axis (u v r : Int) (h0 : 0 ≤ r) (h : r < 2147483647) (hw : lz u v 2147483647 * lz u v 2147483647 ≤ r * r) : -r ≤ u - v ∧ u - v ≤ r := by
  have hz : -r ≤ lz u v 2147483647 ∧ lz u v 2147483647 ≤ r := by
    generalize lz u v 2147483647 = z at *
    constructor
    · refine Int.not_lt.1 fun q => ?_
      have : 0 < (-z - r) * (-z + r) := Int.mul_pos (by omega) (by omega)
      grind
    · refine Int.not_lt.1 fun q => ?_
      have : 0 < (z - r) * (z + r) := Int.mul_pos (by omega) (by omega)
      grind
  unfold lz kz at hz
  omega
/-- what is near lies near in each part -/
theorem wn_axes (ax ay bx by' r : Int) (h : r < 2147483647) (hw : wn (d2 ax ay bx by') r = true) : 0 ≤ r ∧ (-r ≤ ax - bx ∧ ax - bx ≤ r) ∧ (-r ≤ ay - by' ∧ ay - by' ≤ r) := by
  have h0 : 0 ≤ r := by
    refine Int.not_lt.1 fun q => ?_
    rw [wn_neg _ _ q] at hw; cases hw
  rw [wn_small _ _ h0 (by omega)] at hw
  have hw := of_decide_eq_true hw
  unfold d2 at hw
  have s1 := sq0 (lz ax bx 2147483647)
  have s2 := sq0 (lz ay by' 2147483647)
  exact ⟨h0, near_axis _ _ _ h0 h (by omega), near_axis _ _ _ h0 h (by omega)⟩

/-! ### rows of cells -/
def lo (p r : Int) : Int := if p > -9223372036854775808 + r then p - r else -9223372036854775808
def hi (p r : Int) : Int := if p < 9223372036854775807 - r then p + r else 9223372036854775807
def rF (sd p r : Int) : Int := lo p r / sd
def rC (sd p r : Int) : Int := hi p r / sd - lo p r / sd + 1
set_option maxRecDepth 100000 in
theorem row_has (sd p r q : Int) (hs : 1 ≤ sd) (hq : I64 q) (h : -r ≤ p - q ∧ p - q ≤ r) : rF sd p r ≤ q / sd ∧ q / sd < rF sd p r + rC sd p r := by
  unfold I64 at hq
  have h1 : lo p r ≤ q := by unfold lo; split <;> omega
  have h2 : q ≤ hi p r := by unfold hi; split <;> omega
  have h3 := Int.ediv_le_ediv (by omega : 0 < sd) h1
  have h4 := Int.ediv_le_ediv (by omega : 0 < sd) h2
  unfold rF rC
  omega
set_option maxRecDepth 100000 in
theorem lohi (p r : Int) (hp : I64 p) (hr : 0 ≤ r ∧ r < 2147483647) : I64 (lo p r) ∧ I64 (hi p r) ∧ lo p r ≤ hi p r ∧ hi p r - lo p r ≤ 2 * r := by
  unfold I64 at *
  unfold lo hi
  split <;> split <;> omega
set_option maxRecDepth 100000 in
theorem div_I64 (sd q : Int) (hs : 1 ≤ sd) (hq : I64 q) : I64 (q / sd) := by
  unfold I64 at *
  constructor
  · have h1 := Int.ediv_le_ediv (by omega : 0 < sd) hq.1
    have h2 : -9223372036854775808 ≤ (-9223372036854775808 : Int) / sd := by
      refine (Int.le_ediv_iff_mul_le (by omega)).2 ?_
      have : 0 ≤ (sd - 1) * 9223372036854775808 := Int.mul_nonneg (by omega) (by omega)
      omega
    omega
  · have h1 := Int.ediv_le_ediv (by omega : 0 < sd) hq.2
    have h2 : (9223372036854775807 : Int) / sd ≤ 9223372036854775807 := Int.ediv_le_self _ (by omega)
    omega
set_option maxRecDepth 100000 in
theorem row_rng (sd p r : Int) (hs : 1 ≤ sd) (hp : I64 p) (hr : 0 ≤ r ∧ r < 2147483647) : I64 (rF sd p r) ∧ I64 (hi p r / sd) ∧ 1 ≤ rC sd p r ∧ rC sd p r ≤ 4294967296 ∧ I64 (rF sd p r + rC sd p r - 1) := by
  obtain ⟨h1, h2, h3, h4⟩ := lohi p r hp hr
  have k1 := div_I64 sd _ hs h1
  have k2 := div_I64 sd _ hs h2
  have k3 := Int.ediv_le_ediv (by omega : 0 < sd) h3
  have k4 : hi p r / sd - lo p r / sd ≤ 4294967295 := by
    have e1 := Int.mul_ediv_add_emod (hi p r) sd
    have e2 := Int.mul_ediv_add_emod (lo p r) sd
    have b1 := Int.emod_nonneg (hi p r) (by omega : sd ≠ 0)
    have b2 := Int.emod_lt_of_pos (lo p r) (by omega : 0 < sd)
    generalize hi p r / sd = u at *
    generalize lo p r / sd = v at *
    generalize hi p r % sd = m at *
    generalize lo p r % sd = n at *
    have e3 : sd * (u - v) < 4294967294 + sd := by rw [Int.mul_sub]; omega
    refine Int.not_lt.1 fun q => ?_
    have : 0 ≤ (sd - 1) * (u - v - 4294967295) := Int.mul_nonneg (by omega) (by omega)
    grind
  unfold rF rC
  refine ⟨k1, k2, by omega, by omega, ?_⟩
  have : lo p r / sd + (hi p r / sd - lo p r / sd + 1) - 1 = hi p r / sd := by omega
  rw [this]; exact k2

/-! ### near, nearest -/
def nr (M : List Pl) (x y r : Int) : List Pl := M.filter (fun q => wn (d2 x y q.x q.y) r)
def nrL (M : List Pl) (x y r : Int) : List Int := (nr M x y r).map (·.id)
/-- ahead of another: nearer, or as near and of a lesser id -/
def ahd (x y : Int) (a b : Pl) : Prop := d2 x y a.x a.y < d2 x y b.x b.y ∨ (d2 x y a.x a.y = d2 x y b.x b.y ∧ a.id < b.id)
instance (x y : Int) (a b : Pl) : Decidable (ahd x y a b) := by unfold ahd; infer_instance
set_option maxRecDepth 100000 in
theorem ahd_asym (x y : Int) (a b : Pl) (h : ahd x y a b) : ¬ ahd x y b a := by unfold ahd at *; omega
set_option maxRecDepth 100000 in
theorem ahd_trans (x y : Int) (a b c : Pl) (h : ahd x y a b) (k : ahd x y b c) : ahd x y a c := by unfold ahd at *; omega
set_option maxRecDepth 100000 in
theorem ahd_tot (x y : Int) (a b : Pl) (h : a.id ≠ b.id) : ahd x y a b ∨ ahd x y b a := by unfold ahd; omega
def insD (x y : Int) (a : Pl) : List Pl → List Pl
  | [] => [a]
  | b :: r => if ahd x y a b then a :: b :: r else b :: insD x y a r
def srtD (x y : Int) : List Pl → List Pl
  | [] => []
  | a :: r => insD x y a (srtD x y r)
set_option maxRecDepth 100000 in
theorem insD_perm (x y : Int) (a : Pl) : ∀ L : List Pl, (insD x y a L).Perm (a :: L)
  | [] => List.Perm.refl _
  | b :: r => by
    unfold insD
    split
    · exact List.Perm.refl _
    · exact ((insD_perm x y a r).cons b).trans (List.Perm.swap _ _ _)
set_option maxRecDepth 100000 in
theorem srtD_perm (x y : Int) : ∀ L : List Pl, (srtD x y L).Perm L
  | [] => List.Perm.refl _
  | a :: r => (insD_perm x y a _).trans ((srtD_perm x y r).cons a)
set_option maxRecDepth 100000 in
theorem insD_srt (x y : Int) (a : Pl) : ∀ L : List Pl, L.Pairwise (ahd x y) → (∀ b ∈ L, a.id ≠ b.id) → (insD x y a L).Pairwise (ahd x y)
  | [], _, _ => List.pairwise_singleton _ _
  | b :: r, h, hn => by
    obtain ⟨h1, h2⟩ := List.pairwise_cons.1 h
    unfold insD
    split
    · rename_i c
      refine List.pairwise_cons.2 ⟨fun z hz => ?_, h⟩
      rcases List.mem_cons.1 hz with rfl | hz
      · exact c
      · exact ahd_trans _ _ _ _ _ c (h1 z hz)
    · rename_i c
      refine List.pairwise_cons.2 ⟨fun z hz => ?_, insD_srt x y a r h2 (fun z hz => hn z (List.mem_cons_of_mem _ hz))⟩
      rcases List.mem_cons.1 ((insD_perm x y a r).mem_iff.1 hz) with rfl | hz
      · exact (ahd_tot x y _ _ (hn b (List.mem_cons_self ..))).resolve_left c
      · exact h1 z hz
set_option maxRecDepth 100000 in
theorem srtD_srt (x y : Int) : ∀ L : List Pl, L.Pairwise (fun a b => a.id ≠ b.id) → (srtD x y L).Pairwise (ahd x y)
  | [], _ => List.Pairwise.nil
  | a :: r, h => by
    obtain ⟨h1, h2⟩ := List.pairwise_cons.1 h
    exact insD_srt x y a _ (srtD_srt x y r h2) (fun b hb => h1 b ((srtD_perm x y r).mem_iff.1 hb))
set_option maxRecDepth 100000 in
theorem srtD_is {x y : Int} {L N : List Pl} (hn : L.Pairwise (fun a b => a.id ≠ b.id)) (hp : N.Perm L) (hs : N.Pairwise (ahd x y)) : N = srtD x y L :=
  ext_of (ahd_asym x y) _ _ hs (srtD_srt x y L hn) (fun _ => hp.mem_iff.trans (srtD_perm x y L).mem_iff.symm)
def nst (M : List Pl) (x y r n : Int) : List Pl := (srtD x y (nr M x y r)).take n.toNat
def nstL (M : List Pl) (x y r n : Int) : List Int := (nst M x y r n).map (·.id)
set_option maxRecDepth 100000 in
theorem nr_srt {M : List Pl} (h : Srt M) (x y r : Int) : Srt (nr M x y r) := List.Pairwise.sublist List.filter_sublist h
set_option maxRecDepth 100000 in
theorem nr_len (M : List Pl) (x y r : Int) : (nr M x y r).length ≤ M.length := List.length_filter_le _ _
/-- put: the thing is there, and only there -/
def putM (M : List Pl) (t : Pl) : List Pl := ins t (rmk M t.id)
set_option maxRecDepth 100000 in
theorem look_rmk_none (M : List Pl) (k : Int) : look (rmk M k) k = none := by rw [look_rmk, if_pos rfl]
set_option maxRecDepth 100000 in
theorem Srt.put {M : List Pl} (h : Srt M) (t : Pl) : Srt (putM M t) := Srt.ins (h.rmk _) (look_rmk_none _ _)
set_option maxRecDepth 100000 in
theorem look_put (M : List Pl) (t : Pl) (k : Int) : look (putM M t) k = if k = t.id then some t else look M k := by
  unfold putM
  rw [look_ins _ _ _ (look_rmk_none _ _), look_rmk]
  split <;> rfl
set_option maxRecDepth 100000 in
theorem len_put (M : List Pl) (t : Pl) : (putM M t).length ≤ M.length + 1 := by
  unfold putM
  rw [len_ins]
  have : (rmk M t.id).length ≤ M.length := List.length_filter_le _ _
  omega
set_option maxRecDepth 100000 in
theorem ins_perm (x : Pl) : ∀ M : List Pl, (ins x M).Perm (x :: M)
  | [] => List.Perm.refl _
  | y :: r => by
    unfold ins
    split
    · exact List.Perm.refl _
    · exact ((ins_perm x r).cons y).trans (List.Perm.swap _ _ _)
end Go.Proofs.YtgedlabmndlooaaGreat
