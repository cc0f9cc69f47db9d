/- TableScript: each. -/
import Derived.Test.YtkaakbldkicnaaaT4
namespace Go.Proofs.Ytkaakbldkicnaaa
open Go Go.RowKit Go.Maps

theorem Sep.dropL {w0 W : World} {B l : List As} (h : Sep w0 W (B ++ l)) : Sep w0 W l := by
  induction B with
  | nil => exact h
  | cons a B ih => exact ih h.tail
theorem Sep.dropM {w0 W : World} (A B : List As) {l : List As} (h : Sep w0 W (A ++ (B ++ l))) : Sep w0 W (A ++ l) := by
  refine Sep.dropL (B := B) (h.perm ?_)
  rw [← List.append_assoc, ← List.append_assoc]
  exact List.perm_append_comm.append_right l
theorem hf53 (a : Array Value) (W : World) : (callFunc 53 a).run Try.prog W = .ok (.enter 53 a) W := by rfl
/-- the list where Each is called -/
def eaL (b : Bool) (pb t t' d d' s s' : Nat) (L L' : KV) (tv wv : Value) (n : Nat) (vk : Value) (K : List ByteArray) (X R : List As) : List As :=
  refA d s L :: boxA pb (pcb b t t' d d' tv wv) 58 :: tabA t' s' L' :: refA d' s' L' :: bookA tv wv n :: rowA vk K :: (X ++ R)
theorem ea_bx {b : Bool} {pb t t' d d' s s' : Nat} {L L' : KV} {tv wv : Value} {n : Nat} {vk : Value} {K : List ByteArray} {X R : List As} : ∀ a ∈ X, a ∈ tabA t s L :: eaL b pb t t' d d' s s' L L' tv wv n vk K X R := fun a ha => by
  unfold eaL
  simp only [List.mem_cons, List.mem_append]
  simp [ha]
theorem ea_next {w0 W : World} {b : Bool} {pb t t' d d' s s' : Nat} {L L' : KV} {tv wv : Value} {n : Nat} {vk : Value} {K : List ByteArray} {R : List As} {nb kb dx gb sb ob px eb nx : Nat} {st : Nat} {op : List Value} {dp : Int}
    (h : Sep w0 W (tabA t s L :: eaL b pb t t' d d' s s' L L' tv wv n vk K (bxs nb kb dx gb sb ob px eb nx vk d st op pb dp) R)) (q : Nat) : Sep w0 (W.setCell ⟨nb, 0, none⟩ (iv (q : Nat))) (tabA t s L :: eaL b pb t t' d d' s s' L L' tv wv n vk K (bxs nb kb dx gb sb ob px eb q vk d st op pb dp) R) := by
  have h1 := (fr1 [_, _, _, _, _, _, _] h).boxSet (iv (q : Nat))
  exact bk1 [_, _, _, _, _, _, _] h1
theorem ea_st {w0 W : World} {b : Bool} {pb t t' d d' s s' : Nat} {L L' : KV} {tv wv : Value} {n : Nat} {vk : Value} {K : List ByteArray} {X R : List As} (h : Sep w0 W (tabA t s L :: eaL b pb t t' d d' s s' L L' tv wv n vk K X R)) : Sep w0 W (stB b pb t t' d d' s s' L L' tv wv n R) := by
  have h1 := Sep.dropM [_, _, _, _, _, _] (rowA vk K :: X) h
  exact fr1 [_, _] h1
/-- into the order in which the function has it, and back -/
theorem ea_cl {w0 W : World} {b : Bool} {pb t t' d d' s s' : Nat} {L L' : KV} {tv wv : Value} {n : Nat} {v vk : Value} {K : List ByteArray} {X R : List As} (h : Sep w0 W (tabA t s L :: rowA v K :: eaL b pb t t' d d' s s' L L' tv wv n vk K X R)) : Sep w0 W (clL b pb t t' d d' s s' L L L' tv wv n v vk K X R) := by
  have g0 := fr1 [_] h
  have g1 := fr1 [_, _, _, _, _, _] g0
  have g2 := fr1 [_, _, _, _, _, _] g1
  have g3 := fr1 [_, _, _, _, _, _] g2
  have g4 := fr1 [_, _, _, _, _] g3
  have g5 := fr1 [_, _, _, _, _] g4
  have g6 := fr1 [_, _, _, _, _, _] g5
  exact g6
theorem cl_ea {w0 W : World} {b : Bool} {pb t t' d d' s s' : Nat} {L LR L' : KV} {tv wv : Value} {n : Nat} {v vk : Value} {K : List ByteArray} {X R : List As} (h : Sep w0 W (clL b pb t t' d d' s s' L LR L' tv wv n v vk K X R)) : Sep w0 W (tabA t s L :: rowA v K :: eaL b pb t t' d d' s s' LR L' tv wv n vk K X R) := by
  have g0 := fr1 [_, _, _, _, _] h
  have g1 := fr1 [_, _, _, _, _] g0
  have g2 := fr1 [_, _, _, _, _] g1
  have g3 := fr1 [_, _, _] g2
  have g4 := fr1 [_, _, _, _, _] g3
  have g5 := fr1 [_, _, _, _, _, _] g4
  have g6 := fr1 [_, _, _, _, _, _] g5
  exact g6
/-- where Each stands -/
def IE (b : Bool) (pb t t' d d' s s' : Nat) (K : List ByteArray) (vk : Value) (nb kb dx gb sb ob px eb : Nat) (op : List Value) (dp : Int) (ni n0 : Nat) (cs : List Nat) (R : List As) (i : Nat) (L : KV) (l : List As) : Prop :=
  ∃ nx st n' tv wv L', nx ≤ i ∧ (∀ j, nx ≤ j → j < i → ∃ kj, K[j]? = some kj ∧ Tb.look L kj = none) ∧ st ≤ ni ∧ n' ≤ n0 + (cs.take st).sum ∧
    l = eaL b pb t t' d d' s s' L L' tv wv n' vk K (bxs nb kb dx gb sb ob px eb nx vk d st op pb dp) R
theorem each_run (w0 W : World) (m : Nat) (b : Bool) (pb t t' d d' s s' : Nat) (L L' : KV) (tv wv : Value) (n kn : Nat) (ka : Addr) (kc : Nat) (R : List As) (nb kb dx gb sb ob px eb : Nat) (ok oa : Int) (okey : ByteArray) (X : Int) (a0 : Option Addr) (ni ci : Nat) (dp : Int) (cs : List Nat)
    (h : Sep w0 W (tabA t s L :: eaL b pb t t' d d' s s' L L' tv wv n (.slice (some ka) kn kc) (Tb.keys L) (bxs nb kb dx gb sb ob px eb 0 (.slice (some ka) kn kc) d 0 (opL ok oa okey X a0 ni ci) pb dp) R))
    (hstep : StepC w0 m (dp + 1)) (hdp : 0 ≤ dp ∧ dp ≤ 2) (hl : L.length = kn) (hpos : 0 < kn) (hcl : cs.length = ni) (hni : ni ≤ 1048576) (hn0 : n + cs.sum + 1 ≤ 4194304)
    (hop : 0 < ni → ∃ B o, a0 = some ⟨B, o, none⟩ ∧ ∀ j cj, cs[j]? = some cj → ∃ vj, w0.rangeAt B (o + j * 5) vj ∧ OpV w0 m vj cj) :
    Calls Try.prog 21 #[pt t, .func (.func 53) #[] #[pt nb, pt kb, pt dx, pt gb, pt sb, pt ob, pt px, pt eb]] W fun r W' => r = .returned (.tuple #[]) ∧
      ∃ M nx st n' tv' wv' M', nx ≤ kn ∧ (∀ j, nx ≤ j → j < kn → ∃ kj, (Tb.keys L)[j]? = some kj ∧ Tb.look M kj = none) ∧ n' ≤ n + cs.sum ∧
        Sep w0 W' (tabA t s M :: eaL b pb t t' d d' s s' M M' tv' wv' n' (.slice (some ka) kn kc) (Tb.keys L) (bxs nb kb dx gb sb ob px eb nx (.slice (some ka) kn kc) d st (opL ok oa okey X a0 ni ci) pb dp) R) := by
  have okL := h.tab k0m
  refine (each_pos w0 W t s kn 53 #[pt nb, pt kb, pt dx, pt gb, pt sb, pt ob, pt px, pt eb] hf53 (IE b pb t t' d d' s s' (Tb.keys L) (.slice (some ka) kn kc) nb kb dx gb sb ob px eb (opL ok oa okey X a0 ni ci) dp ni n cs R) L _ h ⟨0, 0, n, tv, wv, L', Nat.le_refl _, fun j _ hj => by omega, Nat.zero_le _, by simp, rfl⟩ hl hpos ?_ ?_).mono ?_
  · rintro i M l k hk ⟨nx, st, n', tv1, wv1, M', h1, h2, h3, h4, rfl⟩ hlk
    refine ⟨nx, st, n', tv1, wv1, M', by omega, fun j hj1 hj2 => ?_, h3, h4, rfl⟩
    by_cases e : j = i
    · exact ⟨k, by rw [e]; exact hk, hlk⟩
    · exact h2 j hj1 (by omega)
  · rintro i M l k x W1 v hk ⟨nx, st, n', tv1, wv1, M', h1, h2, h3, h4, rfl⟩ hlk S
    refine (clos_c w0 W1 m b pb t t' d d' s s' M M' tv1 wv1 n' n v ka kn kc (Tb.keys L) R nb kb dx gb sb ob px eb nx st ok oa okey X a0 ni ci dp cs i k x (ea_cl S) hstep hdp (by rw [List.length_map]; exact hl) (by have := okL.four; omega) hk hlk h1 h2 hcl hni h3 h4 hn0 hop).mono ?_
    rintro r W2 ⟨rfl, M2, M2', tv2, wv2, n2, st2, g1, g2, S2⟩
    exact ⟨_, _, _, rfl, cl_ea S2, i + 1, st2, n2, tv2, wv2, M2', Nat.le_refl _, fun j hj1 hj2 => by omega, g1, g2, rfl⟩
  · rintro r W' ⟨rfl, M, l, ⟨nx, st, n', tv1, wv1, M', h1, h2, h3, h4, rfl⟩, S⟩
    refine ⟨rfl, M, nx, st, n', tv1, wv1, M', h1, h2, ?_, S⟩
    have e2 : cs.sum = (cs.take st).sum + (cs.drop st).sum := by rw [← List.sum_append, List.take_append_drop]
    omega
end Go.Proofs.Ytkaakbldkicnaaa
