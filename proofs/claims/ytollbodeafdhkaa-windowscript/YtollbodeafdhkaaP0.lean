/- windows over numbers: which were marked. -/
import Derived.Laws.BitsAllLaws
namespace Go.Proofs.Ytollbodeafdhkaa



/-- what Check answers -/
def chk (h B s : Nat) : Nat := if h < s then (if 64 < s - h then 92 else 0) else if s = 0 ∨ 64 ≤ h - s then 90 else if B.testBit (h - s) then 91 else 0
/-- the highest one behind a Mark -/
def mkH (h B s : Nat) : Nat := if chk h B s = 0 then max h s else h
/-- the bits behind a Mark -/
def mkB (h B s : Nat) : Nat := if chk h B s = 0 then (if h < s then (B * 2 ^ (s - h)) % 18446744073709551616 ||| 1 else B ||| 2 ^ (h - s)) else B

/-- M is what was marked, and h and B know it -/
structure Inv (h B : Nat) (M : List Nat) : Prop where
  bit : ∀ i, B.testBit i = true ↔ i < 64 ∧ i < h ∧ (h - i) ∈ M
  le : ∀ m ∈ M, 0 < m ∧ m ≤ h
  top : h ≠ 0 → h ∈ M
theorem Inv.lt {h B : Nat} {M : List Nat} (v : Inv h B M) : B < 18446744073709551616 := by
  apply Nat.lt_pow_two_of_testBit (n := 64)
  intro i hi
  have := v.bit i
  cases e : B.testBit i
  · rfl
  · have := this.1 e; omega
theorem Inv.zero : Inv 0 0 [] := ⟨fun i => by simp, fun m hm => by simp at hm, fun h => absurd rfl h⟩
theorem Inv.same {h B h' B' : Nat} {M M' : List Nat} (v : Inv h B M) (v' : Inv h' B' M') (e : ∀ x, x ∈ M ↔ x ∈ M') : h = h' ∧ B = B' := by
  have e1 : h = h' := by
    rcases Nat.eq_zero_or_pos h with q | q
    · rcases Nat.eq_zero_or_pos h' with q' | q'
      · omega
      · have := (v.le h' ((e _).2 (v'.top (by omega)))).2; omega
    · have a := (v'.le h ((e _).1 (v.top (by omega)))).2
      have b := (v.le h' ((e _).2 (v'.top (by omega)))).2
      omega
  subst e1
  refine ⟨rfl, Nat.eq_of_testBit_eq fun i => ?_⟩
  have a := v.bit i
  have b := v'.bit i
  rw [← e] at b
  cases x : B.testBit i <;> cases y : B'.testBit i <;> simp_all
/-- Check by what was marked -/
theorem Inv.chk_is {h B : Nat} {M : List Nat} (v : Inv h B M) (s : Nat) : chk h B s = if h < s then (if 64 < s - h then 92 else 0) else if s = 0 ∨ 64 ≤ h - s then 90 else if s ∈ M then 91 else 0 := by
  unfold chk
  by_cases h1 : h < s
  · rw [if_pos h1, if_pos h1]
  · rw [if_neg h1, if_neg h1]
    by_cases h2 : s = 0 ∨ 64 ≤ h - s
    · rw [if_pos h2, if_pos h2]
    · rw [if_neg h2, if_neg h2]
      have := v.bit (h - s)
      rw [show h - (h - s) = s by omega] at this
      by_cases h3 : s ∈ M
      · rw [if_pos h3, if_pos (this.2 ⟨by omega, by omega, h3⟩)]
      · rw [if_neg h3, if_neg (fun q => h3 (this.1 q).2.2)]
theorem Inv.chk_zero {h B : Nat} {M : List Nat} (v : Inv h B M) (s : Nat) : chk h B s = 0 ↔ (h < s ∧ s - h ≤ 64 ∨ s ≤ h ∧ 0 < s ∧ h - s < 64) ∧ s ∉ M := by
  rw [v.chk_is]
  constructor
  · intro q
    by_cases h1 : h < s
    · rw [if_pos h1] at q
      split at q
      · cases q
      · exact ⟨.inl ⟨h1, by omega⟩, fun e => by have := (v.le s e).2; omega⟩
    · rw [if_neg h1] at q
      split at q
      · cases q
      · split at q
        · cases q
        · exact ⟨.inr ⟨by omega, by omega, by omega⟩, by assumption⟩
  · rintro ⟨q, r⟩
    rcases q with ⟨a, b⟩ | ⟨a, b, c⟩
    · rw [if_pos a, if_neg (by omega)]
    · rw [if_neg (by omega), if_neg (by omega), if_neg r]
theorem Inv.yes {h B : Nat} {M : List Nat} (v : Inv h B M) {s : Nat} (hs : chk h B s = 0) : Inv (mkH h B s) (mkB h B s) (s :: M) := by
  have q := (v.chk_zero s).1 hs
  unfold mkH mkB
  rw [if_pos hs, if_pos hs]
  obtain ⟨q, r⟩ := q
  refine ⟨fun i => ?_, fun m hm => ?_, fun hh => ?_⟩
  · by_cases h1 : h < s
    · rw [if_pos h1, show max h s = s by omega, Nat.testBit_or, show 18446744073709551616 = 2 ^ 64 by rfl, Nat.testBit_mod_two_pow, ← Nat.shiftLeft_eq, Nat.testBit_shiftLeft]
      have hb := v.bit (i - (s - h))
      have h01 : Nat.testBit 1 i = true ↔ i = 0 := Nat.testBit_one_eq_true_iff_self_eq_zero
      simp only [Bool.or_eq_true, Bool.and_eq_true, decide_eq_true_eq, h01, hb, List.mem_cons]
      constructor
      · rintro (⟨a, b, c, d, e⟩ | rfl)
        · exact ⟨a, by omega, .inr (by rw [show s - i = h - (i - (s - h)) by omega]; exact e)⟩
        · exact ⟨by omega, by omega, .inl (by omega)⟩
      · rintro ⟨a, b, c⟩
        rcases c with c | c
        · exact .inr (by omega)
        · have := v.le _ c
          exact .inl ⟨a, by omega, by omega, by omega, by rw [show h - (i - (s - h)) = s - i by omega]; exact c⟩
    · rw [if_neg h1, show max h s = h by omega, Nat.testBit_or, Nat.testBit_two_pow]
      have hb := v.bit i
      simp only [Bool.or_eq_true, decide_eq_true_eq, hb, List.mem_cons]
      constructor
      · rintro (⟨a, b, c⟩ | rfl)
        · exact ⟨a, b, .inr c⟩
        · exact ⟨by omega, by omega, .inl (by omega)⟩
      · rintro ⟨a, b, c⟩
        rcases c with c | c
        · exact .inr (by omega)
        · exact .inl ⟨a, b, c⟩
  · rcases List.mem_cons.1 hm with rfl | hm
    · omega
    · have := v.le m hm; omega
  · by_cases h1 : h < s
    · rw [show max h s = s by omega]; exact List.mem_cons_self
    · rw [show max h s = h by omega]
      exact List.mem_cons_of_mem _ (v.top (by omega))
theorem mkH_no {h B s : Nat} (hs : chk h B s ≠ 0) : mkH h B s = h := by unfold mkH; rw [if_neg hs]
theorem mkB_no {h B s : Nat} (hs : chk h B s ≠ 0) : mkB h B s = B := by unfold mkB; rw [if_neg hs]
/-- the list behind a Mark -/
def mkM (h B s : Nat) (M : List Nat) : List Nat := if chk h B s = 0 then s :: M else M
theorem Inv.mark {h B : Nat} {M : List Nat} (v : Inv h B M) (s : Nat) : Inv (mkH h B s) (mkB h B s) (mkM h B s M) := by
  unfold mkM
  by_cases hs : chk h B s = 0
  · rw [if_pos hs]; exact v.yes hs
  · rw [if_neg hs, mkH_no hs, mkB_no hs]; exact v
theorem chk_cases (h B s : Nat) : chk h B s = 0 ∨ chk h B s = 90 ∨ chk h B s = 91 ∨ chk h B s = 92 := by
  unfold chk
  repeat' split
  all_goals omega
theorem mkH_lt {h B s : Nat} (hh : h < 18446744073709551616) (hs : s < 18446744073709551616) : mkH h B s < 18446744073709551616 := by unfold mkH; split <;> omega
theorem mkH_le {h B s : Nat} : h ≤ mkH h B s ∧ mkH h B s ≤ h + 64 := by
  unfold mkH
  split
  · rename_i q
    unfold chk at q
    by_cases h1 : h < s
    · rw [if_pos h1] at q
      split at q
      · cases q
      · omega
    · omega
  · omega
end Go.Proofs.Ytollbodeafdhkaa
