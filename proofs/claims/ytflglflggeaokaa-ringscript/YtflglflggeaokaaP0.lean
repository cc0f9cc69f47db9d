/- Rows that go round, over lists. -/
import Init.Data.List.Lemmas
import Init.Omega
namespace Go.Proofs.Ytflglflggeaokaa
namespace Rg
variable {α : Type}

/-- the row L lies in the places P, from f on, round at the end -/
def RI (P : List α) (f : Nat) (L : List α) : Prop := ∀ i, i < L.length → P[(f + i) % P.length]? = L[i]?

theorem mod_ne {n f i j : Nat} (hi : i < j) (hj : j < i + n) : (f + i) % n ≠ (f + j) % n := by
  intro e
  have h1 := Nat.div_add_mod (f + i) n
  have h2 := Nat.div_add_mod (f + j) n
  rw [e] at h1
  have h3 : n * ((f + i) / n) ≤ n * ((f + j) / n) := Nat.mul_le_mul_left _ (Nat.div_le_div_right (by omega))
  have h4 : (f + i) / n ≠ (f + j) / n := by intro h; rw [h] at h1; omega
  have h5 : (f + i) / n < (f + j) / n := by
    have := Nat.div_le_div_right (c := n) (show f + i ≤ f + j by omega)
    omega
  have h6 : n * ((f + i) / n + 1) ≤ n * ((f + j) / n) := Nat.mul_le_mul_left _ h5
  rw [Nat.mul_add, Nat.mul_one] at h6
  omega

theorem RI.push {P : List α} {f : Nat} {L : List α} (h : RI P f L) (hl : L.length < P.length) (x : α) : RI (P.set ((f + L.length) % P.length) x) f (L ++ [x]) := by
  intro i hi
  rw [List.length_append, List.length_singleton] at hi
  rw [List.length_set]
  have hm : (f + L.length) % P.length < P.length := Nat.mod_lt _ (by omega)
  by_cases e : i = L.length
  · subst e
    rw [List.getElem?_set_self hm, List.getElem?_append_right (Nat.le_refl _), Nat.sub_self]; rfl
  · rw [List.getElem?_set_ne (fun q => mod_ne (n := P.length) (f := f) (i := i) (j := L.length) (by omega) (by omega) q.symm), h i (by omega), List.getElem?_append_left (by omega)]

theorem RI.pop {P : List α} {f : Nat} {x : α} {L : List α} (h : RI P f (x :: L)) (hf : f < P.length) (hl : L.length < P.length) (z : α) : RI (P.set f z) ((f + 1) % P.length) L := by
  intro i hi
  rw [List.length_set]
  have e : ((f + 1) % P.length + i) % P.length = (f + (i + 1)) % P.length := by
    rw [Nat.mod_add_mod]; congr 1; omega
  rw [e]
  have n1 : (f + 0) % P.length ≠ (f + (i + 1)) % P.length := mod_ne (by omega) (by omega)
  rw [Nat.add_zero, Nat.mod_eq_of_lt hf] at n1
  rw [List.getElem?_set_ne n1, h (i + 1) (by simp; omega)]; rfl

theorem RI.first {P : List α} {f : Nat} {x : α} {L : List α} (h : RI P f (x :: L)) (hf : f < P.length) : P[f]? = some x := by
  have := h 0 (by simp)
  rw [Nat.add_zero, Nat.mod_eq_of_lt hf] at this
  rw [this]; rfl

theorem RI.wide (L R : List α) : RI (L ++ R) 0 L := by
  intro i hi
  rw [Nat.zero_add, Nat.mod_eq_of_lt (by rw [List.length_append]; omega), List.getElem?_append_left hi]

theorem RI.nil (P : List α) (f : Nat) : RI P f [] := fun i hi => by simp at hi
end Rg
end Go.Proofs.Ytflglflggeaokaa
