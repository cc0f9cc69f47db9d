/- lists that were taken, written full, lengthened, kept. -/
import Derived.Test.YtjoodembmjooaaaG8
import Derived.ArgAppend
import Derived.Deep.DeepAppendRoom
namespace Go.Proofs.Ytjoodembmjooaaa
open Go Go.RowKit Go.Maps

theorem Sep.only {w0 W : World} {a : As} {l : List As} (h : Sep w0 W (a :: l)) : Sep w0 W [a] := Sep.dropM (l := []) [a] l (by simpa using h)
theorem its_fl (L : List Itn) : its L = fl itv L := rfl
/-- the caller's mark -/
def mkI (t : Nat) : Itn := ⟨-1000 - (t : Int), 0, 0, false, false⟩
theorem its_one (L : List Itn) : ∀ u ∈ its L, u.oneCell' = true := by
  intro u hu
  unfold its at hu
  rw [List.mem_flatMap] at hu
  obtain ⟨c, _, hc⟩ := hu
  exact itv_one c u hc
/-- cells as they are read -/
def Rc (W : World) (g : Nat) (xs : List Value) : Prop := ∀ (k : Nat) t, xs[k]? = some t → W.cell? ⟨g, k, none⟩ = some t
/-- a list that is only read, and a longer one, maybe in the same block, which is the call's own -/
def lnA (g : Nat) (A : List Itn) (v : Value) (B : List Itn) : As :=
  ⟨fun W F => (Rc W g (its A) ∧ g < W.heap.size ∧ W.ownsRow 0 36 5 v B.length (its B) ∧ (v.ownBlock ≠ some g ∨ A <+: B) ∧ v.ownBlock ≠ none) ∧ F = fun i => i = g ∨ v.ownBlock = some i,
   fun S W W' F h f hs => by
     obtain ⟨⟨h1, h2, h3, h4, h5⟩, rfl⟩ := h
     have e1 := f.block g h2 (hs g (.inl rfl))
     refine ⟨⟨fun k t ht => ?_, Nat.lt_of_lt_of_le h2 f.size, ?_, h4, h5⟩, rfl⟩
     · rw [← h1 k t ht]; simp only [World.cell?, e1]
     · obtain ⟨q1, q2⟩ := h3
       refine ⟨q1, ?_⟩
       rcases q2 with ⟨e, q⟩ | ⟨g', cap, cur, e, q3, q4, q5⟩
       · exact .inl ⟨e, q⟩
       · refine .inr ⟨g', cap, cur, e, q3, ?_, q5⟩
         rw [f.block g' (Array.getElem?_eq_some_iff.1 q4).1 (hs g' (.inr (by rw [e]; rfl)))]
         exact q4,
   fun W F h i hi => by
     obtain ⟨⟨h1, h2, h3, h4, h5⟩, rfl⟩ := h
     rcases hi with rfl | hi
     · exact h2
     · obtain ⟨q1, q2⟩ := h3
       rcases q2 with ⟨e, q⟩ | ⟨g', cap, cur, e, q3, q4, q5⟩
       · rw [e] at hi; cases hi
       · rw [e] at hi
         injection hi with hi
         have hi : g' = i := hi
         subst hi
         exact (Array.getElem?_eq_some_iff.1 q4).1⟩
theorem Sep.lnStart {w0 W : World} {l : List As} {g n c : Nat} {A : List Itn} (hn : A.length = n) (h : Sep w0 W (rowV 36 5 (sl g n c) n (its A) :: l)) : Sep w0 W (lnA g A (sl g n c) A :: l) := by
  subst hn
  obtain ⟨F, ⟨ho, rfl⟩, _, hu⟩ := h.use
  have hgl : g < W.heap.size := by
    rcases ho.2 with ⟨e, _⟩ | ⟨g', cap, cur, e, _, q4, _⟩
    · cases e
    · injection e with e1
      injection e1 with e1
      injection e1 with e1
      subst e1
      exact (Array.getElem?_eq_some_iff.1 q4).1
  refine hu W [_] (Fr.refl _ W) (Loc.one (a := lnA _ _ _ _) _ ⟨⟨?_, hgl, ho, .inr (List.prefix_refl _), nofun⟩, rfl⟩ (fun i hi => .inl ?_))
  · intro k t ht
    have hk := (List.getElem?_eq_some_iff.1 ht).1
    rw [its_len] at hk
    obtain ⟨g', c', e, q⟩ := own_any ho (by omega)
    injection e with e1
    injection e1 with e1
    injection e1 with e1
    subst e1
    exact (q k t ht).1
  · rcases hi with rfl | hi
    · rfl
    · exact hi
/-- one more -/
theorem Sep.lnApp {w0 W : World} {l : List As} {g : Nat} {A B : List Itn} {v : Value} (s : Itn) (h : Sep w0 W (lnA g A v B :: l)) (hm : (B.length + 1) * 32 ≤ 140737488355328) :
    ∃ g9 c9 W', (Builtin.append_ #[33, 33] 33 #[v, sl W.heap.size 1 1]).run Try.prog (W.alloc (.cells (itv s).toArray 36)) = .ok (sl g9 (B.length + 1) c9) W' ∧ Sep w0 W' (lnA g A (sl g9 (B.length + 1) c9) (B ++ [s]) :: l) := by
  obtain ⟨i, i1, i2, i3, i4⟩ := info36b
  obtain ⟨F, ⟨⟨h1, h2, h3, h4, h5⟩, rfl⟩, _, hu⟩ := h.use
  have ga := World.grownBy_alloc W (.cells (itv s).toArray 36) none
  obtain ⟨a0, c, hv⟩ := own_slice h3
  subst hv
  obtain ⟨g', c', e0, h3'⟩ : ∃ g' c', (Value.slice a0 B.length c) = sl g' B.length c' ∧ W.ownsRow 0 36 5 (sl g' B.length c') B.length (its B) := by
    rcases h3.2 with ⟨e, q⟩ | ⟨g', cap, cur, e, _⟩
    · rw [e] at h5; exact absurd rfl h5
    · exact ⟨g', cap, e, by have z := h3; rw [e] at z; exact z⟩
  rw [e0] at h4 h5 hu ⊢
  clear h3 e0
  have hold : ∀ (j : Nat) t, (its B)[j]? = some t → W.cell? ⟨g', j, none⟩ = some t := by
    intro j t ht
    have hj := (List.getElem?_eq_some_iff.1 ht).1
    rw [its_len] at hj
    obtain ⟨g2, c2, e, q⟩ := own_any h3' (by omega)
    injection e with e1
    injection e1 with e1
    injection e1 with e1
    subst e1
    exact (q j t ht).1
  have hk := h3'.kept ga (by cases (sl g' B.length c').ownBlock <;> simp)
  have hc : ∀ (j : Nat) (u : Value), (itv s)[j]? = some u → (W.alloc (.cells (itv s).toArray 36)).cell? ((⟨W.heap.size, 0, none⟩ : Addr).add j) = some u := fun j u hu => by
    rw [Addr.add_mid, Nat.zero_add]; exact (Has.newA W (itv s).toArray 36).cellv j u (by simpa using hu)
  have el : its (B ++ [s]) = its B ++ itv s := by simp [its]
  have elen : (B ++ [s]).length = B.length + 1 := by simp
  by_cases hroom : B.length + 1 ≤ c'
  · obtain ⟨w', r1, r2, r3⟩ := run_append_own_spare (P := Try.prog) (W.alloc (.cells (itv s).toArray 36)) 0 33 33 36 i 5 under33 i1 i2 g' B.length c' (its B) hk ⟨W.heap.size, 0, none⟩ 1 1 (itv s) rfl hc (itv_one s) hroom
    have gr : W.grownBy w' (some g') := (World.grownBy_alloc W (.cells (itv s).toArray 36) (some g')).trans r3
    refine ⟨g', c', w', r1, hu w' [_] (Fr.ofSome gr (.inr rfl)) (Loc.one (a := lnA _ _ _ _) _ ⟨⟨?_, Nat.lt_of_lt_of_le h2 gr.size, by rw [elen, el]; exact r2, ?_, nofun⟩, rfl⟩ (fun i hi => .inl hi))⟩
    · rcases h4 with h4 | h4
      · intro k t ht
        exact gr.cell (h1 k t ht) (fun e => h4 (show some g' = some g from e.symm))
      · by_cases hgg : g' = g
        · subst hgg
          intro k t ht
          obtain ⟨g2, c2, e, q⟩ := own_any r2 (by omega)
          injection e with e1
          injection e1 with e1
          injection e1 with e1
          subst e1
          obtain ⟨R, hR⟩ := h4
          refine (q k t ?_).1
          rw [← hR, its_app, List.append_assoc, List.getElem?_append_left (List.getElem?_eq_some_iff.1 ht).1]
          exact ht
        · intro k t ht
          exact gr.cell (h1 k t ht) (fun e => hgg (by injection e with e; exact e.symm))
    · rcases h4 with h4 | h4
      · exact .inl h4
      · exact .inr (h4.trans (List.prefix_append _ _))
  · obtain ⟨v', w', r1, r2, r3⟩ := run_append_arg_grows (P := Try.prog) (W.alloc (.cells (itv s).toArray 36)) 33 33 36 i (.agg zI5.toArray) 5 32 under33 i1 i4 i2 i3 rfl (by decide) ⟨g', 0, none⟩ B.length c' (its B) (its_len B) (fun j u hu => by rw [Addr.add_mid, Nat.zero_add]; exact ga.cell (hold j u hu) (by simp)) ⟨W.heap.size, 0, none⟩ 1 1 (itv s) rfl hc (by omega) (by unfold maxLen; omega) hm
    obtain ⟨g2, c2, rfl, q⟩ := own_any r2 (by omega)
    have gr : W.grownBy w' none := ga.trans r3
    have hg2 : W.heap.size + 1 ≤ g2 := by
      obtain ⟨_, q2⟩ := r2
      rcases q2 with ⟨e, _⟩ | ⟨g3, cap, cur, e, q3, q4, _⟩
      · cases e
      · injection e with e1
        injection e1 with e1
        injection e1 with e1
        subst e1
        rw [heap1] at q3
        exact q3
    refine ⟨g2, c2, w', r1, hu w' [_] (Fr.ofNone gr) (Loc.one (a := lnA _ _ _ _) _ ⟨⟨fun k t ht => gr.cell (h1 k t ht) (by simp), Nat.lt_of_lt_of_le h2 gr.size, ?_, .inl (fun e => ?_), nofun⟩, rfl⟩ (fun i hi => ?_))⟩
    · rw [elen, el]
      obtain ⟨q1, q2⟩ := r2
      refine ⟨q1, ?_⟩
      rcases q2 with ⟨e, q⟩ | ⟨g3, cap, cur, e, q3, q4⟩
      · exact .inl ⟨e, q⟩
      · exact .inr ⟨g3, cap, cur, e, Nat.zero_le _, q4⟩
    · injection e with e
      have e : g2 = g := e
      omega
    · rcases hi with rfl | hi
      · exact .inl (.inl rfl)
      · injection hi with hi
        have hi : g2 = i := hi
        exact .inr (by omega)
/-- two lists that are kept -/
structure Pk where
  g : Nat
  n : Nat
  c : Nat
  h : Nat
  d : Nat
def Pk.al (p : Pk) : Value := sl p.g p.n p.c
def Pk.mo (p : Pk) : Value := sl p.h (p.n + 40) p.d
def prA (p : Pk) (t : Nat) : As :=
  ⟨fun W F => (Rc W p.g (its (List.replicate p.n (mkI t))) ∧ Rc W p.h (its (List.replicate (p.n + 40) (mkI t))) ∧ p.g < W.heap.size ∧ p.h < W.heap.size) ∧ F = fun i => i = p.g ∨ i = p.h,
   fun S W W' F h f hs => by
     obtain ⟨⟨h1, h2, h3, h4⟩, rfl⟩ := h
     have e1 := f.block p.g h3 (hs p.g (.inl rfl))
     have e2 := f.block p.h h4 (hs p.h (.inr rfl))
     refine ⟨⟨fun k t ht => ?_, fun k t ht => ?_, Nat.lt_of_lt_of_le h3 f.size, Nat.lt_of_lt_of_le h4 f.size⟩, rfl⟩
     · rw [← h1 k t ht]; simp only [World.cell?, e1]
     · rw [← h2 k t ht]; simp only [World.cell?, e2],
   fun W F h i hi => by
     obtain ⟨⟨h1, h2, h3, h4⟩, rfl⟩ := h
     rcases hi with rfl | rfl
     · exact h3
     · exact h4⟩
theorem Sep.lnEnd {w0 W : World} {l : List As} {g n c g' d t : Nat} (h : Sep w0 W (lnA g (List.replicate n (mkI t)) (sl g' (n + 40) d) (List.replicate (n + 40) (mkI t)) :: l)) : Sep w0 W (prA ⟨g, n, c, g', d⟩ t :: l) := by
  obtain ⟨F, ⟨⟨h1, h2, h3, h4, h5⟩, rfl⟩, _, hu⟩ := h.use
  rw [List.length_replicate] at h3
  obtain ⟨g2, c2, e, q⟩ := own_any h3 (by omega)
  injection e with e1
  injection e1 with e1
  injection e1 with e1
  subst e1
  have hgl : g' < W.heap.size := by
    rcases h3.2 with ⟨e, _⟩ | ⟨g3, cap, cur, e, _, q4, _⟩
    · cases e
    · injection e with e1
      injection e1 with e1
      injection e1 with e1
      subst e1
      exact (Array.getElem?_eq_some_iff.1 q4).1
  refine hu W [_] (Fr.refl _ W) (Loc.one (a := prA _ _) _ ⟨⟨h1, fun k t ht => (q k t ht).1, h2, hgl⟩, rfl⟩ (fun i hi => .inl ?_))
  rcases hi with rfl | rfl
  · exact .inl rfl
  · exact .inr rfl
def rdsA : List Pk → Nat → List As
  | [], _ => []
  | p :: r, t => prA p t :: rdsA r (t + 1)
theorem rdsA_app : ∀ (P : List Pk) (p : Pk) (t : Nat), rdsA (P ++ [p]) t = rdsA P t ++ [prA p (t + P.length)]
  | [], p, t => rfl
  | q :: r, p, t => by
    rw [List.cons_append, rdsA, rdsA_app r p (t + 1), rdsA, List.length_cons, List.cons_append, show t + 1 + r.length = t + (r.length + 1) by omega]
theorem rdsA_mem : ∀ (P : List Pk) (t i : Nat) (p : Pk), P[i]? = some p → prA p (t + i) ∈ rdsA P t
  | [], t, i, p, h => by simp at h
  | q :: r, t, 0, p, h => by
    obtain rfl : q = p := by simpa using h
    exact List.mem_cons_self ..
  | q :: r, t, i + 1, p, h => by
    have := rdsA_mem r (t + 1) i p (by simpa using h)
    rw [show t + (i + 1) = t + 1 + i by omega]
    exact List.mem_cons_of_mem _ this
theorem rep_cell {W : World} {g n t k : Nat} (h : Rc W g (its (List.replicate n (mkI t)))) (hk : k < n) : W.cell? ⟨g, k * 5, none⟩ = some (iv (-1000 - (t : Int))) := by
  have e := its_get (List.replicate n (mkI t)) k (mkI t) (by rw [List.getElem?_replicate, if_pos hk]) 0 (iv (-1000 - (t : Int))) rfl
  exact h _ _ e
theorem Sep.prGet {w0 W : World} {l : List As} {p : Pk} {t : Nat} (h : Sep w0 W l) (hm : prA p t ∈ l) : (∀ k, k < p.n → W.cell? ⟨p.g, k * 5, none⟩ = some (iv (-1000 - (t : Int)))) ∧ ∀ k, k < p.n + 40 → W.cell? ⟨p.h, k * 5, none⟩ = some (iv (-1000 - (t : Int))) := by
  obtain ⟨F, ⟨h1, h2, _⟩, _⟩ := h.get hm
  exact ⟨fun k hk => rep_cell h1 hk, fun k hk => rep_cell h2 hk⟩
theorem under38 : Try.prog.underlying 38 = some (.slice 33) := by kernel_rfl
theorem info33b : ∃ i, Try.prog.info? 33 = some i ∧ i.size = 1 ∧ i.bytes = 24 ∧ i.zero = some (.slice none 0 0) := by
  have h : (Try.prog.info? 33).map (fun i => (i.size, i.bytes, i.zero)) = some (1, 24, some (.slice none 0 0)) := by kernel_rfl
  cases e : Try.prog.info? 33 with
  | none => rw [e] at h; cases h
  | some i =>
    rw [e] at h
    simp only [Option.map_some, Option.some.injEq, Prod.mk.injEq] at h
    exact ⟨i, rfl, h.1, h.2.1, h.2.2⟩
set_option maxRecDepth 100000 in
theorem bs1_run (w : World) (g n c : Nat) : (Instr.buildSlice 38 1 #[(0, sl g n c)]).run Try.prog w = .ok (sl w.heap.size 1 1) (w.alloc (.cells #[sl g n c] 33)) := by kernel_rfl
theorem Sep.app1 {w0 W : World} {l : List As} {v : Value} {n : Nat} {xs : List Value} (g m c : Nat) (h : Sep w0 W (rowV 33 1 v n xs :: l)) (hm : (n + 1) * 24 ≤ 140737488355328) :
    ∃ g9 c9 W', (Builtin.append_ #[38, 38] 38 #[v, sl W.heap.size 1 1]).run Try.prog (W.alloc (.cells #[sl g m c] 33)) = .ok (sl g9 (n + 1) c9) W' ∧ Sep w0 W' (rowV 33 1 (sl g9 (n + 1) c9) (n + 1) (xs ++ [sl g m c]) :: l) := by
  obtain ⟨i, i1, i2, i3, i4⟩ := info33b
  exact Sep.app (z := .slice none 0 0) (bytes := 24) under38 i1 i4 i2 i3 rfl (by decide) h [sl g m c] rfl (fun u hu => by rw [List.mem_singleton.1 hu]; rfl) hm (by decide)
/-- behind k writes -/
def wrt (M : List Itn) (t k : Nat) : List Itn := List.replicate k (mkI t) ++ M.drop k
theorem wrt_zero (M : List Itn) (t : Nat) : wrt M t 0 = M := by simp [wrt]
theorem wrt_len (M : List Itn) (t k : Nat) (hk : k ≤ M.length) : (wrt M t k).length = M.length := by simp [wrt]; omega
theorem wrt_set (M : List Itn) (t k : Nat) (hk : k < M.length) : (wrt M t k).set k (mkI t) = wrt M t (k + 1) := by
  unfold wrt
  rw [List.set_append_right _ _ (by simp), List.length_replicate, Nat.sub_self, List.drop_eq_getElem_cons hk, List.set_cons_zero, List.replicate_succ']
  simp
theorem wrt_end (M : List Itn) (t : Nat) : wrt M t M.length = List.replicate M.length (mkI t) := by simp [wrt]
end Go.Proofs.Ytjoodembmjooaaa
