/- for GridKeeps: lists that were taken, written full, lengthened, kept (after wip/gate's G9, for rows of numbers; the taken list may be empty). -/
import Derived.Test.YtidpafmhmhojmaaL3
import Derived.ArgAppend
import Derived.Deep.DeepAppendRoom
namespace Go.Proofs.Ytidpafmhmhojmaa
open Go Go.RowKit Go.Maps

/-- cells as they are read -/
def Rc (W : World) (g : Nat) (xs : List Value) : Prop := ∀ (k : Nat) t, xs[k]? = some t → W.cell? ⟨g, k, none⟩ = some t
theorem ivs_one (L : List Int) : ∀ u ∈ L.map iv, u.oneCell' = true := by
  intro u hu
  obtain ⟨z, _, rfl⟩ := List.mem_map.1 hu
  rfl
/-- a list that is only read, and a longer one, maybe in the same block, which is the call's own -/
def lnA (g : Nat) (A : List Int) (v : Value) (B : List Int) : As :=
  ⟨fun W F => (Rc W g (A.map iv) ∧ g < W.heap.size ∧ W.ownsRow 0 3 1 v B.length (B.map iv) ∧ (v.ownBlock ≠ some g ∨ A <+: B) ∧ v.ownBlock ≠ none) ∧ F = fun i => i = g ∨ v.ownBlock = some i,
   fun S W W' F h f hs => by
     obtain ⟨⟨h1, h2, h3, h4, h5⟩, rfl⟩ := h
     have e1 := f.block g h2 (hs g (.inl rfl))
     refine ⟨⟨fun k t ht => ?_, Nat.lt_of_lt_of_le h2 f.size, ?_, h4, h5⟩, rfl⟩
     · rw [← h1 k t ht]; simp only [World.cell?, e1]
     · obtain ⟨q1, q2⟩ := h3
       refine ⟨q1, ?_⟩
       rcases q2 with ⟨e, q⟩ | ⟨g', cap, cur, e, q3, q4, q5⟩
       · exact .inl ⟨e, q⟩
       · refine .inr ⟨g', cap, cur, e, q3, ?_, q5⟩
         rw [f.block g' (Array.getElem?_eq_some_iff.1 q4).1 (hs g' (.inr (by rw [e]; rfl)))]
         exact q4,
   fun W F h i hi => by
     obtain ⟨⟨h1, h2, h3, h4, h5⟩, rfl⟩ := h
     rcases hi with rfl | hi
     · exact h2
     · obtain ⟨q1, q2⟩ := h3
       rcases q2 with ⟨e, q⟩ | ⟨g', cap, cur, e, q3, q4, q5⟩
       · rw [e] at hi; cases hi
       · rw [e] at hi
         injection hi with hi
         have hi : g' = i := hi
         subst hi
         exact (Array.getElem?_eq_some_iff.1 q4).1⟩
theorem Sep.lnStart {w0 W : World} {l : List As} {g n c : Nat} {A : List Int} (hn : A.length = n) (h : Sep w0 W (rowV 3 1 (sl g n c) n (A.map iv) :: l)) : Sep w0 W (lnA g A (sl g n c) A :: l) := by
  subst hn
  obtain ⟨F, ⟨ho, rfl⟩, _, hu⟩ := h.use
  have hgl : g < W.heap.size := by
    rcases ho.2 with ⟨e, _⟩ | ⟨g', cap, cur, e, _, q4, _⟩
    · cases e
    · injection e with e1
      injection e1 with e1
      injection e1 with e1
      subst e1
      exact (Array.getElem?_eq_some_iff.1 q4).1
  refine hu W [_] (Fr.refl _ W) (Loc.one (a := lnA _ _ _ _) _ ⟨⟨?_, hgl, ho, .inr (List.prefix_refl _), nofun⟩, rfl⟩ (fun i hi => .inl ?_))
  · intro k t ht
    have hk := (List.getElem?_eq_some_iff.1 ht).1
    rw [List.length_map] at hk
    obtain ⟨g', c', e, q⟩ := own_any ho (by omega)
    injection e with e1
    injection e1 with e1
    injection e1 with e1
    subst e1
    exact (q k t ht).1
  · rcases hi with rfl | hi
    · rfl
    · exact hi
set_option maxRecDepth 100000 in
/-- one more -/
theorem Sep.lnApp {w0 W : World} {l : List As} {g : Nat} {A B : List Int} {v : Value} (s : Int) (h : Sep w0 W (lnA g A v B :: l)) (hm : (B.length + 1) * 8 ≤ 140737488355328) :
    ∃ g9 c9 W', (Builtin.append_ #[29, 29] 29 #[v, sl W.heap.size 1 1]).run Try.prog (W.alloc (.cells #[iv s] 3)) = .ok (sl g9 (B.length + 1) c9) W' ∧ Sep w0 W' (lnA g A (sl g9 (B.length + 1) c9) (B ++ [s]) :: l) := by
  obtain ⟨i, i1, i2, i3, i4⟩ := info3b
  obtain ⟨F, ⟨⟨h1, h2, h3, h4, h5⟩, rfl⟩, _, hu⟩ := h.use
  have ga := World.grownBy_alloc W (.cells #[iv s] 3) none
  obtain ⟨a0, c, hv⟩ := own_slice h3
  subst hv
  obtain ⟨g', c', e0, h3'⟩ : ∃ g' c', (Value.slice a0 B.length c) = sl g' B.length c' ∧ W.ownsRow 0 3 1 (sl g' B.length c') B.length (B.map iv) := by
    rcases h3.2 with ⟨e, q⟩ | ⟨g', cap, cur, e, _⟩
    · rw [e] at h5; exact absurd rfl h5
    · exact ⟨g', cap, e, by have z := h3; rw [e] at z; exact z⟩
  rw [e0] at h4 h5 hu ⊢
  clear h3 e0
  have hold : ∀ (j : Nat) t, (B.map iv)[j]? = some t → W.cell? ⟨g', j, none⟩ = some t := by
    intro j t ht
    have hj := (List.getElem?_eq_some_iff.1 ht).1
    rw [List.length_map] at hj
    obtain ⟨g2, c2, e, q⟩ := own_any h3' (by omega)
    injection e with e1
    injection e1 with e1
    injection e1 with e1
    subst e1
    exact (q j t ht).1
  have hk := h3'.kept ga (by cases (sl g' B.length c').ownBlock <;> simp)
  have hc : ∀ (j : Nat) (u : Value), ([iv s] : List Value)[j]? = some u → (W.alloc (.cells #[iv s] 3)).cell? ((⟨W.heap.size, 0, none⟩ : Addr).add j) = some u := fun j u hu => by
    rw [Addr.add_mid, Nat.zero_add]; exact (Has.newA W #[iv s] 3).cellv j u (by simpa using hu)
  have el : (B ++ [s]).map iv = B.map iv ++ [iv s] := by simp
  have elen : (B ++ [s]).length = B.length + 1 := by simp
  by_cases hroom : B.length + 1 ≤ c'
  · obtain ⟨w', r1, r2, r3⟩ := run_append_own_spare (P := Try.prog) (W.alloc (.cells #[iv s] 3)) 0 29 29 3 i 1 Try.underlying29 i1 i2 g' B.length c' (B.map iv) hk ⟨W.heap.size, 0, none⟩ 1 1 [iv s] rfl hc (ivs_one [s]) hroom
    have gr : W.grownBy w' (some g') := (World.grownBy_alloc W (.cells #[iv s] 3) (some g')).trans r3
    refine ⟨g', c', w', r1, hu w' [_] (Fr.ofSome gr (.inr rfl)) (Loc.one (a := lnA _ _ _ _) _ ⟨⟨?_, Nat.lt_of_lt_of_le h2 gr.size, by rw [elen, el]; exact r2, ?_, nofun⟩, rfl⟩ (fun i hi => .inl hi))⟩
    · rcases h4 with h4 | h4
      · intro k t ht
        exact gr.cell (h1 k t ht) (fun e => h4 (show some g' = some g from e.symm))
      · by_cases hgg : g' = g
        · subst hgg
          intro k t ht
          obtain ⟨g2, c2, e, q⟩ := own_any r2 (by omega)
          injection e with e1
          injection e1 with e1
          injection e1 with e1
          subst e1
          obtain ⟨R, hR⟩ := h4
          refine (q k t ?_).1
          rw [← hR, List.map_append, List.append_assoc, List.getElem?_append_left (List.getElem?_eq_some_iff.1 ht).1]
          exact ht
        · intro k t ht
          exact gr.cell (h1 k t ht) (fun e => hgg (by injection e with e; exact e.symm))
    · rcases h4 with h4 | h4
      · exact .inl h4
      · exact .inr (h4.trans (List.prefix_append _ _))
  · obtain ⟨v', w', r1, r2, r3⟩ := run_append_arg_grows (P := Try.prog) (W.alloc (.cells #[iv s] 3)) 29 29 3 i (iv 0) 1 8 Try.underlying29 i1 i4 i2 i3 rfl (by decide) ⟨g', 0, none⟩ B.length c' (B.map iv) (by simp) (fun j u hu => by rw [Addr.add_mid, Nat.zero_add]; exact ga.cell (hold j u hu) (by simp)) ⟨W.heap.size, 0, none⟩ 1 1 [iv s] rfl hc (by omega) (by unfold maxLen; omega) hm
    obtain ⟨g2, c2, rfl, q⟩ := own_any r2 (by omega)
    have gr : W.grownBy w' none := ga.trans r3
    have hg2 : W.heap.size + 1 ≤ g2 := by
      obtain ⟨_, q2⟩ := r2
      rcases q2 with ⟨e, _⟩ | ⟨g3, cap, cur, e, q3, q4, _⟩
      · cases e
      · injection e with e1
        injection e1 with e1
        injection e1 with e1
        subst e1
        rw [heap1] at q3
        exact q3
    refine ⟨g2, c2, w', r1, hu w' [_] (Fr.ofNone gr) (Loc.one (a := lnA _ _ _ _) _ ⟨⟨fun k t ht => gr.cell (h1 k t ht) (by simp), Nat.lt_of_lt_of_le h2 gr.size, ?_, .inl (fun e => ?_), nofun⟩, rfl⟩ (fun i hi => ?_))⟩
    · rw [elen, el]
      obtain ⟨q1, q2⟩ := r2
      refine ⟨q1, ?_⟩
      rcases q2 with ⟨e, q⟩ | ⟨g3, cap, cur, e, q3, q4⟩
      · exact .inl ⟨e, q⟩
      · exact .inr ⟨g3, cap, cur, e, Nat.zero_le _, q4⟩
    · injection e with e
      have e : g2 = g := e
      omega
    · rcases hi with rfl | hi
      · exact .inl (.inl rfl)
      · injection hi with hi
        have hi : g2 = i := hi
        exact .inr (by omega)
/-- the caller's mark -/
def mkZ (t : Nat) : Int := -5000 - (t : Int)
/-- behind k writes -/
def wrt (M : List Int) (t k : Nat) : List Int := List.replicate k (mkZ t) ++ M.drop k
theorem wrt_zero (M : List Int) (t : Nat) : wrt M t 0 = M := by simp [wrt]
theorem wrt_len (M : List Int) (t k : Nat) (hk : k ≤ M.length) : (wrt M t k).length = M.length := by simp [wrt]; omega
theorem wrt_set (M : List Int) (t k : Nat) (hk : k < M.length) : (wrt M t k).set k (mkZ t) = wrt M t (k + 1) := by
  unfold wrt
  rw [List.set_append_right _ _ (by simp), List.length_replicate, Nat.sub_self, List.drop_eq_getElem_cons hk, List.set_cons_zero, List.replicate_succ']
  simp
theorem wrt_end (M : List Int) (t : Nat) : wrt M t M.length = List.replicate M.length (mkZ t) := by simp [wrt]
end Go.Proofs.Ytidpafmhmhojmaa
