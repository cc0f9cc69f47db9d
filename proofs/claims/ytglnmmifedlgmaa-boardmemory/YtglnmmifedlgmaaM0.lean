/- rows of places that are written over and lengthened. -/
import Derived.Test.YtglnmmifedlgmaaL2
import Derived.ArgAppend
import Derived.Deep.DeepAppendRoom
namespace Go.Proofs.Ytglnmmifedlgmaa
open Go Go.RowKit

/-- two lists that are only read, maybe in one block -/
def rdA (g : Nat) (xs : List Value) (g' : Nat) (ys : List Value) : As :=
  ⟨fun W F => ((∀ (k : Nat) t, xs[k]? = some t → W.cell? ⟨g, k, none⟩ = some t) ∧ (∀ (k : Nat) t, ys[k]? = some t → W.cell? ⟨g', k, none⟩ = some t) ∧ g < W.heap.size ∧ g' < W.heap.size) ∧ F = fun i => i = g ∨ i = g',
   fun S W W' F h f hs => by
     obtain ⟨⟨h1, h2, h3, h4⟩, rfl⟩ := h
     have e1 := f.block g h3 (hs g (.inl rfl))
     have e2 := f.block g' h4 (hs g' (.inr rfl))
     refine ⟨⟨fun k t ht => ?_, fun k t ht => ?_, Nat.lt_of_lt_of_le h3 f.size, Nat.lt_of_lt_of_le h4 f.size⟩, rfl⟩
     · rw [← h1 k t ht]; simp only [World.cell?, e1]
     · rw [← h2 k t ht]; simp only [World.cell?, e2],
   fun W F h i hi => by
     obtain ⟨⟨h1, h2, h3, h4⟩, rfl⟩ := h
     rcases hi with rfl | rfl
     · exact h3
     · exact h4⟩
theorem Sep.rd1 {w0 W : World} {l : List As} {g g' : Nat} {A B : List (Int × Int)} (h : Sep w0 W l) (hm : rdA g (vcs A) g' (vcs B) ∈ l) {i : Nat} {p : Int × Int} (hp : A[i]? = some p) : W.cell? ⟨g, i * 2, none⟩ = some (iv p.1) ∧ W.cell? ⟨g, i * 2 + 1, none⟩ = some (iv p.2) := by
  obtain ⟨F, ⟨h1, _⟩, _⟩ := h.get hm
  obtain ⟨q1, q2⟩ := vcs_get hp
  exact ⟨h1 _ _ q1, h1 _ _ q2⟩
theorem Sep.rd2 {w0 W : World} {l : List As} {g g' : Nat} {A B : List (Int × Int)} (h : Sep w0 W l) (hm : rdA g (vcs A) g' (vcs B) ∈ l) {i : Nat} {p : Int × Int} (hp : B[i]? = some p) : W.cell? ⟨g', i * 2, none⟩ = some (iv p.1) ∧ W.cell? ⟨g', i * 2 + 1, none⟩ = some (iv p.2) := by
  obtain ⟨F, ⟨_, h2, _⟩, _⟩ := h.get hm
  obtain ⟨q1, q2⟩ := vcs_get hp
  exact ⟨h2 _ _ q1, h2 _ _ q2⟩
theorem Sep.vgetM {w0 W : World} {l : List As} {g n c : Nat} {A : List (Int × Int)} (h : Sep w0 W l) (hm : vrow (.slice (some ⟨g, 0, none⟩) n c) A ∈ l) {i : Nat} {p : Int × Int} (hp : A[i]? = some p) : (W.cell? ⟨g, i * 2, none⟩ = some (iv p.1) ∧ W.cell? ⟨g, i * 2 + 1, none⟩ = some (iv p.2)) ∧ W.frozen? ⟨g, i * 2, none⟩ = false ∧ W.frozen? ⟨g, i * 2 + 1, none⟩ = false := by
  obtain ⟨g', c', e, hc⟩ := own_any (h.rowGet hm) (by have := (List.getElem?_eq_some_iff.1 hp).1; omega)
  injection e with e1 e2 e3
  injection e1 with e1
  injection e1 with e1
  subst e1
  obtain ⟨h1, h2⟩ := vcs_get hp
  exact ⟨⟨(hc _ _ h1).1, (hc _ _ h2).1⟩, (hc _ _ h1).2, (hc _ _ h2).2⟩
theorem vcs_set : ∀ (A : List (Int × Int)) (i : Nat) (x y : Int), i < A.length → ((vcs A).set (i * 2) (iv x)).set (i * 2 + 1) (iv y) = vcs (A.set i (x, y))
  | [], i, x, y, h => by simp at h
  | a :: A, 0, x, y, _ => rfl
  | a :: A, i + 1, x, y, h => by
    have ih := vcs_set A i x y (by simpa using h)
    have e : vcs (a :: A) = iv a.1 :: iv a.2 :: vcs A := rfl
    have e2 : vcs ((a :: A).set (i + 1) (x, y)) = iv a.1 :: iv a.2 :: vcs (A.set i (x, y)) := rfl
    rw [e, e2, ← ih, show (i + 1) * 2 = i * 2 + 1 + 1 by omega]
    simp
theorem Sep.vset {w0 W : World} {l : List As} {g c : Nat} {A : List (Int × Int)} {n : Nat} (h : Sep w0 W (vrow (.slice (some ⟨g, 0, none⟩) n c) A :: l)) (hn : A.length = n) (i : Nat) (hi : i < n) (x y : Int) : Sep w0 ((W.setCell ⟨g, i * 2, none⟩ (iv x)).setCell ⟨g, i * 2 + 1, none⟩ (iv y)) (vrow (.slice (some ⟨g, 0, none⟩) n c) (A.set i (x, y)) :: l) := by
  subst hn
  have h1 := (Sep.rowSet h (i * 2) (iv x)).rowSet (i * 2 + 1) (iv y)
  rw [vcs_set A i x y hi] at h1
  rw [vrow, List.length_set]
  exact h1
theorem vcs_one (A : List (Int × Int)) : ∀ u ∈ vcs A, u.oneCell' = true := by
  intro u hu
  unfold vcs at hu
  rw [List.mem_flatMap] at hu
  obtain ⟨p, _, hp⟩ := hu
  simp at hp
  rcases hp with rfl | rfl <;> rfl
/-- a list is lengthened: both read -/
theorem Sep.more {w0 W : World} {l : List As} {g n c : Nat} {A N : List (Int × Int)} {a : Addr} {m k : Nat} (h : Sep w0 W (vrow (.slice (some ⟨g, 0, none⟩) n c) A :: l)) (hA : A.length = n) (hN : N.length = m) (hn : n ≤ 100000) (hm : 0 < m ∧ m ≤ 10) (hn0 : 0 < n)
    (hc : ∀ (j : Nat) u, (vcs N)[j]? = some u → W.cell? (a.add j) = some u) :
    ∃ g' c' W', (Builtin.append_ #[35, 35] 35 #[.slice (some ⟨g, 0, none⟩) n c, .slice (some a) m k]).run Try.prog W = .ok (.slice (some ⟨g', 0, none⟩) (n + m) c') W' ∧ Sep w0 W' (rdA g (vcs A) g' (vcs (A ++ N)) :: l) := by
  subst hA
  obtain ⟨i, i1, i2, i3, i4⟩ := info32b
  obtain ⟨F, ⟨ho, rfl⟩, _, hu⟩ := h.use
  have hlN : (vcs N).length = m * 2 := by rw [vcs_len, hN]
  have hold : ∀ (j : Nat) t, (vcs A)[j]? = some t → W.cell? ⟨g, j, none⟩ = some t := by
    obtain ⟨g2, c2, e, q⟩ := own_any ho hn0
    injection e with e1
    injection e1 with e1
    injection e1 with e1
    subst e1
    exact fun j t ht => (q j t ht).1
  have hgl : g < W.heap.size := (vrow (.slice (some ⟨g, 0, none⟩) A.length c) A).lt W _ ⟨ho, rfl⟩ g rfl
  by_cases hroom : A.length + m ≤ c
  · obtain ⟨w', r1, r2, r3⟩ := run_append_own_spare (P := Try.prog) W 0 35 35 32 i 2 under35 i1 i2 g A.length c (vcs A) ho a m k (vcs N) hlN hc (vcs_one N) hroom
    refine ⟨g, c, w', r1, hu w' [_] (Fr.ofSome r3 rfl) (Loc.one (a := rdA _ _ _ _) _ ⟨⟨?_, ?_, Nat.lt_of_lt_of_le hgl r3.size, Nat.lt_of_lt_of_le hgl r3.size⟩, rfl⟩ (fun i hi => .inl ?_))⟩
    · obtain ⟨g2, c2, e, q⟩ := own_any r2 (by omega)
      injection e with e1
      injection e1 with e1
      injection e1 with e1
      subst e1
      exact fun j t ht => (q j t (by rw [List.getElem?_append_left (List.getElem?_eq_some_iff.1 ht).1]; exact ht)).1
    · obtain ⟨g2, c2, e, q⟩ := own_any r2 (by omega)
      injection e with e1
      injection e1 with e1
      injection e1 with e1
      subst e1
      exact fun j t ht => (q j t (by rw [← vcs_app]; exact ht)).1
    · rcases hi with rfl | rfl <;> rfl
  · obtain ⟨v', w', r1, r2, r3⟩ := run_append_arg_grows (P := Try.prog) W 35 35 32 i (.agg #[iv 0, iv 0]) 2 16 under35 i1 i4 i2 i3 rfl (by decide) ⟨g, 0, none⟩ A.length c (vcs A) (vcs_len A) (fun j u hu => by rw [Addr.add_mid, Nat.zero_add]; exact hold j u hu) a m k (vcs N) hlN hc (by omega) (by unfold maxLen; omega) (by omega)
    obtain ⟨g2, c2, rfl, q⟩ := own_any r2 (by omega)
    have hg2 : W.heap.size ≤ g2 ∧ g2 < w'.heap.size := by
      obtain ⟨_, q2⟩ := r2
      rcases q2 with ⟨e, _⟩ | ⟨g3, cap, cur, e, q3, q4, _⟩
      · cases e
      · injection e with e1
        injection e1 with e1
        injection e1 with e1
        subst e1
        exact ⟨q3, (Array.getElem?_eq_some_iff.1 q4).1⟩
    refine ⟨g2, c2, w', r1, hu w' [_] (Fr.ofNone r3) (Loc.one (a := rdA _ _ _ _) _ ⟨⟨?_, ?_, Nat.lt_of_lt_of_le hgl r3.size, hg2.2⟩, rfl⟩ (fun i hi => ?_))⟩
    · exact fun j t ht => r3.cell (hold j t ht) (by simp)
    · exact fun j t ht => (q j t (by rw [← vcs_app]; exact ht)).1
    · rcases hi with rfl | rfl
      · exact .inl rfl
      · exact .inr hg2.1
/-- a list laid over a new one -/
theorem Sep.vcopy {w0 W : World} {l : List As} {g n c : Nat} {A : List (Int × Int)} {a : Addr} (h : Sep w0 W l) (hm : vrow (.slice (some ⟨g, 0, none⟩) n c) A ∈ l) (hA : A.length = n) (hn : n ≤ 100000) (hn0 : 0 < n) :
    ∃ g' c' W', (Builtin.append_ #[35, 35] 35 #[.slice (some a) 0 0, .slice (some ⟨g, 0, none⟩) n c]).run Try.prog W = .ok (.slice (some ⟨g', 0, none⟩) n c') W' ∧ Sep w0 W' (vrow (.slice (some ⟨g', 0, none⟩) n c') A :: l) := by
  subst hA
  obtain ⟨i, i1, i2, i3, i4⟩ := info32b
  have hold : ∀ (j : Nat) t, (vcs A)[j]? = some t → W.cell? ⟨g, j, none⟩ = some t := by
    obtain ⟨g2, c2, e, q⟩ := own_any (h.rowGet hm) hn0
    injection e with e1
    injection e1 with e1
    injection e1 with e1
    subst e1
    exact fun j t ht => (q j t ht).1
  obtain ⟨v', w', r1, r2, r3⟩ := run_append_arg_grows (P := Try.prog) W 35 35 32 i (.agg #[iv 0, iv 0]) 2 16 under35 i1 i4 i2 i3 rfl (by decide) a 0 0 [] rfl (fun j u hu => by cases hu) ⟨g, 0, none⟩ A.length c (vcs A) (vcs_len A) (fun j u hu => by rw [Addr.add_mid, Nat.zero_add]; exact hold j u hu) (by omega) (by unfold maxLen; omega) (by omega)
  rw [Nat.zero_add, List.nil_append] at r2
  obtain ⟨g2, c2, rfl, q⟩ := own_any r2 hn0
  refine ⟨g2, c2, w', r1, h.new r3 (Loc.one (a := vrow _ _) _ ⟨⟨r2.1, r2.2.imp id (fun ⟨g, cap, cur, e, _, q⟩ => ⟨g, cap, cur, e, Nat.zero_le _, q⟩)⟩, rfl⟩ (fun i hi => .inr ?_))⟩
  obtain ⟨_, q2⟩ := r2
  rcases q2 with ⟨e, _⟩ | ⟨g3, cap, cur, e, q3, q4, _⟩
  · cases e
  · injection e with e1
    injection e1 with e1
    injection e1 with e1
    subst e1
    injection hi with hi
    have hi : g2 = i := hi
    omega
end Go.Proofs.Ytglnmmifedlgmaa
