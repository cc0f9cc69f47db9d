/- TableScript: any step. -/
import Derived.Test.YtkaakbldkicnaaaT7
namespace Go.Proofs.Ytkaakbldkicnaaa
open Go Go.RowKit Go.Maps

theorem bn_lt (b : Bool) : bn b < 2 := by cases b <;> decide
theorem step_par (w0 W : World) (m : Nat) (pb t t' d d' s s' : Nat) (b : Bool) (L L' : KV) (tv wv : Value) (n c : Nat) (R : List As) (k a x dp : Int) (key : ByteArray) (a0 : Option Addr) (ni ci : Nat) (cs : List Nat)
    (h : Sep w0 W (stB b pb t t' d d' s s' L L' tv wv n R)) (hpar : Par b a) (hks : key.size ≤ 1048576) (hdp : 0 ≤ dp) (hnew : ¬ k = 1 ∨ ¬ dp = 0) (hsub : dp ≤ 2 → StepC w0 m (dp + 1))
    (hcl : cs.length = ni) (hni : ni ≤ 1048576) (hcc : cs.sum + 1 ≤ c) (hn0 : n + c ≤ 4194304)
    (hop : 0 < ni → ∃ B o, a0 = some ⟨B, o, none⟩ ∧ ∀ j cj, cs[j]? = some cj → ∃ vj, w0.rangeAt B (o + j * 5) vj ∧ OpV w0 m vj cj) :
    Calls Try.prog 31 #[pt pb, opv k a key x a0 ni ci, iv dp] W (StP w0 b pb t t' d d' s s' n c R) := by
  by_cases h2 : k = 2
  · subst h2; exact step_get w0 W pb t t' d d' s s' b L L' tv wv n c R a x dp key a0 ni ci h hpar hks
  by_cases h3 : k = 3
  · subst h3; exact step_peek w0 W pb t t' d d' s s' b L L' tv wv n c R a x dp key a0 ni ci h hpar hks
  by_cases h4 : k = 4
  · subst h4; exact step_put w0 W pb t t' d d' s s' b L L' tv wv n c R a x dp key a0 ni ci h hpar hks
  by_cases h5 : k = 5
  · subst h5; exact step_del w0 W pb t t' d d' s s' b L L' tv wv n c R a x dp key a0 ni ci h hpar hks
  by_cases h6 : k = 6
  · subst h6
    refine step_each w0 W pb t t' d d' s s' b L L' tv wv n c R a x dp key a0 ni ci h hpar (fun hd W1 R1 a1 hb S => ?_)
    by_cases hL : L = []
    · exact each_no w0 W1 b pb t t' d d' s s' a1 L L' tv wv n c R1 6 a key x a0 ni ci dp S hb (by rw [← hb]; exact bn_lt b) hL
    · exact each_yes w0 W1 m b pb t t' d d' s s' a1 L L' tv wv n c R1 6 a key x a0 ni ci dp cs S hb (by rw [← hb]; exact bn_lt b) (hsub hd) ⟨hdp, hd⟩ (List.length_pos_iff.2 hL) hcl hni hcc hn0 hop
  by_cases h7 : k = 7
  · subst h7; exact step_keys w0 W pb t t' d d' s s' b L L' tv wv n c R a x dp key a0 ni ci h hpar (by omega) (by omega)
  exact step_oth w0 W pb t t' d d' s s' b L L' tv wv n c R k a x dp key a0 ni ci h hpar hnew h2 h3 h4 h5 h6 h7
theorem step_any (w0 W : World) (m : Nat) (pb t t' d d' s s' : Nat) (b : Bool) (L L' : KV) (tv wv : Value) (n c : Nat) (R : List As) (k a x dp : Int) (key : ByteArray) (a0 : Option Addr) (ni ci : Nat) (cs : List Nat)
    (h : Sep w0 W (stB b pb t t' d d' s s' L L' tv wv n R)) (hks : key.size ≤ 1048576) (hdp : 0 ≤ dp) (hnew : ¬ k = 1 ∨ ¬ dp = 0) (hsub : dp ≤ 2 → StepC w0 m (dp + 1))
    (hcl : cs.length = ni) (hni : ni ≤ 1048576) (hcc : cs.sum + 1 ≤ c) (hn0 : n + c ≤ 4194304)
    (hop : 0 < ni → ∃ B o, a0 = some ⟨B, o, none⟩ ∧ ∀ j cj, cs[j]? = some cj → ∃ vj, w0.rangeAt B (o + j * 5) vj ∧ OpV w0 m vj cj) :
    Calls Try.prog 31 #[pt pb, opv k a key x a0 ni ci, iv dp] W (StP w0 b pb t t' d d' s s' n c R) := by
  by_cases hp : Par b a
  · exact step_par w0 W m pb t t' d d' s s' b L L' tv wv n c R k a x dp key a0 ni ci cs h hp hks hdp hnew hsub hcl hni hcc hn0 hop
  · have hp2 : Par (!b) a := by
      unfold Par at hp ⊢
      cases b
      · simp only [true_and, Bool.false_eq_true, false_and, or_false] at hp
        exact .inr ⟨rfl, hp⟩
      · simp only [true_and, Bool.true_eq_false, false_and, false_or, Decidable.not_not] at hp
        exact .inl ⟨rfl, hp⟩
    exact (step_par w0 W m pb t' t d' d s' s (!b) L' L tv wv n c R k a x dp key a0 ni ci cs h.side hp2 hks hdp hnew hsub hcl hni hcc hn0 hop).mono fun _ _ q => q.side
theorem stepC_succ (w0 : World) (m : Nat) (dp : Int) (hdp : 1 ≤ dp) (hsub : dp ≤ 2 → StepC w0 m (dp + 1)) : StepC w0 (m + 1) dp := by
  intro W b pb t t' d d' s s' L L' tv wv n c R vs hv hn h
  obtain ⟨k, a, key, x, a0, ni, ci, cs, rfl, hks, hcl, hni, hcc, hop⟩ := hv
  exact step_any w0 W m pb t t' d d' s s' b L L' tv wv n c R k a x dp key a0 ni ci cs h hks (by omega) (.inr (by omega)) hsub hcl hni hcc hn hop
theorem stepC3 (w0 : World) : StepC w0 3 1 :=
  stepC_succ w0 2 1 (by omega) fun _ => stepC_succ w0 1 (1 + 1) (by omega) fun _ => stepC_succ w0 0 (1 + 1 + 1) (by omega) fun h => absurd h (by omega)
/-- what the first level leaves -/
def TopP (w0 : World) (pb n c : Nat) (W' : World) : Prop := ∃ t t' d d' s s' M M' tv wv n', n' ≤ n + c ∧ Sep w0 W' (stB false pb t t' d d' s s' M M' tv wv n' [])
theorem new_keep {w0 W : World} {b : Bool} {pb t t' d d' s s' x y z ob : Nat} {L L' : KV} {cs : List Value} {u : TypeId} {tv wv : Value} {n : Nat} {R : List As}
    (h : Sep w0 W (boxA pb (((pcb b t t' d d' tv wv).set (bn b) (pt x)).set (2 + bn b) (pt y)) 58 :: tabA x z [] :: refA y z [] :: tabA t s L :: refA d s L :: tabA t' s' L' :: refA d' s' L' :: bookA tv wv n :: boxA ob cs u :: R)) : Sep w0 W (stB b pb x t' y d' z s' [] L' tv wv n R) := by
  have e : ((pcb b t t' d d' tv wv).set (bn b) (pt x)).set (2 + bn b) (pt y) = pcb b x t' y d' tv wv := by cases b <;> rfl
  rw [e] at h
  have h1 := Sep.dropM [_, _, _] [tabA t s L, refA d s L] h
  exact st_pop h1
end Go.Proofs.Ytkaakbldkicnaaa
