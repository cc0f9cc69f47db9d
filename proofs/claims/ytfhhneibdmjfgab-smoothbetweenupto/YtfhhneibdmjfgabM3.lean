/- view: lists that were told, written full, lengthened, kept (after wip/grid's M1, M2, for rows of structs). -/
import Derived.Test.YtfhhneibdmjfgabL5
import Derived.ArgAppend
import Derived.Deep.DeepAppendRoom
namespace Go.Proofs.Ytfhhneibdmjfgab
open Go Go.RowKit Go.Maps Sm
abbrev sl (g n c : Nat) : Value := .slice (some ⟨g, 0, none⟩) n c

/-- cells as they are read -/
def Rc (W : World) (g : Nat) (xs : List Value) : Prop := ∀ (k : Nat) t, xs[k]? = some t → W.cell? ⟨g, k, none⟩ = some t
/-- a list that is only read, and a longer one, maybe in the same block, which is the call's own -/
def lnK (e : TypeId) (s g : Nat) (xs : List Value) (v : Value) (n : Nat) (ys : List Value) : As :=
  ⟨fun W F => (Rc W g xs ∧ g < W.heap.size ∧ W.ownsRow 0 e s v n ys ∧ (v.ownBlock ≠ some g ∨ xs <+: ys) ∧ v.ownBlock ≠ none) ∧ F = fun i => i = g ∨ v.ownBlock = some i,
   fun S W W' F h f hs => by
     obtain ⟨⟨h1, h2, h3, h4, h5⟩, rfl⟩ := h
     have e1 := f.block g h2 (hs g (.inl rfl))
     refine ⟨⟨fun k t ht => ?_, Nat.lt_of_lt_of_le h2 f.size, ?_, h4, h5⟩, rfl⟩
     · rw [← h1 k t ht]; simp only [World.cell?, e1]
     · obtain ⟨q1, q2⟩ := h3
       refine ⟨q1, ?_⟩
       rcases q2 with ⟨e, q⟩ | ⟨g', cap, cur, e, q3, q4, q5⟩
       · exact .inl ⟨e, q⟩
       · refine .inr ⟨g', cap, cur, e, q3, ?_, q5⟩
         rw [f.block g' (Array.getElem?_eq_some_iff.1 q4).1 (hs g' (.inr (by rw [e]; rfl)))]
         exact q4,
   fun W F h i hi => by
     obtain ⟨⟨h1, h2, h3, h4, h5⟩, rfl⟩ := h
     rcases hi with rfl | hi
     · exact h2
     · obtain ⟨q1, q2⟩ := h3
       rcases q2 with ⟨e, q⟩ | ⟨g', cap, cur, e, q3, q4, q5⟩
       · rw [e] at hi; cases hi
       · rw [e] at hi
         injection hi with hi
         have hi : g' = i := hi
         subst hi
         exact (Array.getElem?_eq_some_iff.1 q4).1⟩
theorem own_lt {W : World} {e : TypeId} {s g n c : Nat} {xs : List Value} (h : W.ownsRow 0 e s (sl g n c) n xs) : g < W.heap.size := by
  rcases h.2 with ⟨e, _⟩ | ⟨g', cap, cur, e, _, q4, _⟩
  · cases e
  · injection e with e1
    injection e1 with e1
    injection e1 with e1
    subst e1
    exact (Array.getElem?_eq_some_iff.1 q4).1
theorem own_rc {W : World} {e : TypeId} {s g n c : Nat} {xs : List Value} (h : W.ownsRow 0 e s (sl g n c) n xs) (hn : 0 < n) : Rc W g xs := by
  intro k t ht
  obtain ⟨g', c', e, q⟩ := own_any h hn
  injection e with e1
  injection e1 with e1
  injection e1 with e1
  subst e1
  exact (q k t ht).1
theorem Sep.lkStart {w0 W : World} {l : List As} {e : TypeId} {s g n c : Nat} {xs : List Value} (hn : 0 < n) (h : Sep w0 W (rowV e s (sl g n c) n xs :: l)) : Sep w0 W (lnK e s g xs (sl g n c) n xs :: l) := by
  obtain ⟨F, ⟨ho, rfl⟩, _, hu⟩ := h.use
  refine hu W [_] (Fr.refl _ W) (Loc.one (a := lnK _ _ _ _ _ _ _) _ ⟨⟨own_rc ho hn, own_lt ho, ho, .inr (List.prefix_refl _), nofun⟩, rfl⟩ (fun i hi => .inl ?_))
  rcases hi with rfl | hi
  · rfl
  · exact hi
set_option maxRecDepth 100000 in
/-- some more -/
theorem Sep.lkApp {w0 W : World} {l : List As} {t e : TypeId} {i : TypeInfo} {z : Value} {s bytes : Nat} (ht : Try.prog.underlying t = some (.slice e)) (hi : Try.prog.info? e = some i) (hz : i.zero = some z) (hs : i.size = s) (hby : i.bytes = bytes) (hzs : z.cells.size = s) (hs0 : 0 < s) (hb0 : 0 < bytes)
    {g n : Nat} {xs ys : List Value} {v : Value} (m : Nat) (cs : List Value) (hcs : cs.length = m * s) (h1c : ∀ u ∈ cs, u.oneCell' = true) (hm0 : 0 < m) (h : Sep w0 W (lnK e s g xs v n ys :: l)) (hm : (n + m) * bytes ≤ 140737488355328) :
    ∃ g9 c9 W', (Builtin.append_ #[t, t] t #[v, sl W.heap.size m m]).run Try.prog (W.alloc (.cells cs.toArray e)) = .ok (sl g9 (n + m) c9) W' ∧ Sep w0 W' (lnK e s g xs (sl g9 (n + m) c9) (n + m) (ys ++ cs) :: l) := by
  have hle : n + m ≤ 140737488355328 := Nat.le_trans (Nat.le_mul_of_pos_right _ hb0) hm
  obtain ⟨F, ⟨⟨h1, h2, h3, h4, h5⟩, rfl⟩, _, hu⟩ := h.use
  have ga := World.grownBy_alloc W (.cells cs.toArray e) none
  obtain ⟨a0, c, hv⟩ := own_slice h3
  subst hv
  obtain ⟨g', c', e0, h3'⟩ : ∃ g' c', (Value.slice a0 n c) = sl g' n c' ∧ W.ownsRow 0 e s (sl g' n c') n ys := by
    rcases h3.2 with ⟨e, q⟩ | ⟨g', cap, cur, e, _⟩
    · rw [e] at h5; exact absurd rfl h5
    · exact ⟨g', cap, e, by have z := h3; rw [e] at z; exact z⟩
  rw [e0] at h4 h5 hu ⊢
  have hcap : n ≤ c' := row_cap h3'
  have hylen : ys.length = n * s := h3'.1
  clear h3 e0
  have hold : ∀ (j : Nat) t, ys[j]? = some t → W.cell? ⟨g', j, none⟩ = some t := by
    intro j t ht
    have hj := (List.getElem?_eq_some_iff.1 ht).1
    have hn0 : 0 < n := by
      rcases Nat.eq_zero_or_pos n with q | q
      · rw [hylen, q, Nat.zero_mul] at hj; exact absurd hj (Nat.not_lt_zero _)
      · exact q
    exact own_rc h3' hn0 j t ht
  have hk := h3'.kept ga (by cases (sl g' n c').ownBlock <;> simp)
  have hc : ∀ (j : Nat) (u : Value), cs[j]? = some u → (W.alloc (.cells cs.toArray e)).cell? ((⟨W.heap.size, 0, none⟩ : Addr).add j) = some u := fun j u hu => by
    rw [Addr.add_mid, Nat.zero_add]; exact (Has.newA W cs.toArray e).cellv j u (by simpa using hu)
  by_cases hroom : n + m ≤ c'
  · obtain ⟨w', r1, r2, r3⟩ := run_append_own_spare (P := Try.prog) (W.alloc (.cells cs.toArray e)) 0 t t e i s ht hi hs g' n c' ys hk ⟨W.heap.size, 0, none⟩ m m cs hcs hc h1c hroom
    have gr : W.grownBy w' (some g') := (World.grownBy_alloc W (.cells cs.toArray e) (some g')).trans r3
    refine ⟨g', c', w', r1, hu w' [_] (Fr.ofSome gr (.inr rfl)) (Loc.one (a := lnK _ _ _ _ _ _ _) _ ⟨⟨?_, Nat.lt_of_lt_of_le h2 gr.size, r2, ?_, nofun⟩, rfl⟩ (fun i hi => .inl hi))⟩
    · rcases h4 with h4 | h4
      · intro k t ht
        exact gr.cell (h1 k t ht) (fun e => h4 (show some g' = some g from e.symm))
      · by_cases hgg : g' = g
        · subst hgg
          intro k t ht
          obtain ⟨R, hR⟩ := h4
          refine own_rc r2 (by omega) k t ?_
          rw [← hR, List.append_assoc, List.getElem?_append_left (List.getElem?_eq_some_iff.1 ht).1]
          exact ht
        · intro k t ht
          exact gr.cell (h1 k t ht) (fun e => hgg (by injection e with e; exact e.symm))
    · rcases h4 with h4 | h4
      · exact .inl h4
      · exact .inr (h4.trans (List.prefix_append _ _))
  · obtain ⟨v', w', r1, r2, r3⟩ := run_append_arg_grows (P := Try.prog) (w := W.alloc (.cells cs.toArray e)) t t e i z s bytes ht hi hz hs hby hzs hs0 ⟨g', 0, none⟩ n c' ys hylen (fun j u hu => by rw [Addr.add_mid, Nat.zero_add]; exact ga.cell (hold j u hu) (by simp)) ⟨W.heap.size, 0, none⟩ m m cs hcs hc (by omega) (by unfold maxLen; omega) hm
    obtain ⟨g2, c2, rfl, q⟩ := own_any r2 (by omega)
    have gr : W.grownBy w' none := ga.trans r3
    have hg2 : W.heap.size + 1 ≤ g2 := by
      obtain ⟨_, q2⟩ := r2
      rcases q2 with ⟨e, _⟩ | ⟨g3, cap, cur, e, q3, q4, _⟩
      · cases e
      · injection e with e1
        injection e1 with e1
        injection e1 with e1
        subst e1
        rw [World.size_alloc] at q3
        exact q3
    refine ⟨g2, c2, w', r1, hu w' [_] (Fr.ofNone gr) (Loc.one (a := lnK _ _ _ _ _ _ _) _ ⟨⟨fun k t ht => gr.cell (h1 k t ht) (by simp), Nat.lt_of_lt_of_le h2 gr.size, ?_, .inl (fun e => ?_), nofun⟩, rfl⟩ (fun i hi => ?_))⟩
    · obtain ⟨q1, q2⟩ := r2
      refine ⟨q1, ?_⟩
      rcases q2 with ⟨e, q⟩ | ⟨g3, cap, cur, e, q3, q4⟩
      · exact .inl ⟨e, q⟩
      · exact .inr ⟨g3, cap, cur, e, Nat.zero_le _, q4⟩
    · injection e with e
      have e : g2 = g := e
      omega
    · rcases hi with rfl | hi
      · exact .inl (.inl rfl)
      · injection hi with hi
        have hi : g2 = i := hi
        exact .inr (by omega)
/-- o: the block of the list that is read, none where it is empty -/
def lvK (e : TypeId) (s : Nat) (o : Option Nat) (xs : List Value) (v : Value) (n : Nat) (ys : List Value) : As := match o with
  | none => rowV e s v n ys
  | some g => lnK e s g xs v n ys
theorem Sep.lwStart {w0 W : World} {l : List As} {e : TypeId} {s : Nat} {v : Value} {n : Nat} {xs : List Value} (h : Sep w0 W (rowV e s v n xs :: l)) :
    ∃ o, Sep w0 W (lvK e s o xs v n xs :: l) ∧ (o = none → n = 0) ∧ ∀ g, o = some g → ∃ c, v = sl g n c := by
  rcases Nat.eq_zero_or_pos n with hn | hn
  · exact ⟨none, h, fun _ => hn, nofun⟩
  · obtain ⟨g, c, rfl, _⟩ := own_any (h.rowGet k0m) hn
    exact ⟨some g, Sep.lkStart hn h, nofun, fun g' q => by injection q with q; subst q; exact ⟨c, rfl⟩⟩
set_option maxRecDepth 100000 in
theorem Sep.appM {w0 W : World} {l : List As} {t e : TypeId} {i : TypeInfo} {z : Value} {s bytes : Nat} (ht : Try.prog.underlying t = some (.slice e)) (hi : Try.prog.info? e = some i) (hz : i.zero = some z) (hs : i.size = s) (hby : i.bytes = bytes) (hzs : z.cells.size = s) (hs0 : 0 < s) (hb0 : 0 < bytes)
    {v : Value} {n : Nat} {xs : List Value} (m : Nat) (cs : List Value) (hcs : cs.length = m * s) (h1 : ∀ u ∈ cs, u.oneCell' = true) (hm0 : 0 < m) (h : Sep w0 W (rowV e s v n xs :: l)) (hsz : (n + m) * bytes ≤ 140737488355328) :
    ∃ g c W', (Builtin.append_ #[t, t] t #[v, sl W.heap.size m m]).run Try.prog (W.alloc (.cells cs.toArray e)) = .ok (sl g (n + m) c) W' ∧ Sep w0 W' (rowV e s (sl g (n + m) c) (n + m) (xs ++ cs) :: l) := by
  have S2 : Sep w0 (W.alloc (.cells cs.toArray e)) (rowV e s v n xs :: l) := h.grown (World.grownBy_alloc _ _ _)
  obtain ⟨v', W', r1, S3⟩ := Sep.appF (t := t) ht hi hz hs hby hzs hs0 S2 ⟨W.heap.size, 0, none⟩ m m cs hcs (fun j u hu => by
    rw [Addr.add_mid, Nat.zero_add]; exact (Has.newA W cs.toArray e).cellv j u (by simpa using hu)) h1 hsz hb0
  obtain ⟨g, c, rfl, _⟩ := own_any (S3.rowGet k0m) (by omega)
  exact ⟨g, c, W', r1, S3⟩
set_option maxRecDepth 100000 in
theorem Sep.lwApp {w0 W : World} {l : List As} {t e : TypeId} {i : TypeInfo} {z : Value} {s bytes : Nat} (ht : Try.prog.underlying t = some (.slice e)) (hi : Try.prog.info? e = some i) (hz : i.zero = some z) (hs : i.size = s) (hby : i.bytes = bytes) (hzs : z.cells.size = s) (hs0 : 0 < s) (hb0 : 0 < bytes)
    {o : Option Nat} {n : Nat} {xs ys : List Value} {v : Value} (m : Nat) (cs : List Value) (hcs : cs.length = m * s) (h1c : ∀ u ∈ cs, u.oneCell' = true) (hm0 : 0 < m) (h : Sep w0 W (lvK e s o xs v n ys :: l)) (hm : (n + m) * bytes ≤ 140737488355328) :
    ∃ g9 c9 W', (Builtin.append_ #[t, t] t #[v, sl W.heap.size m m]).run Try.prog (W.alloc (.cells cs.toArray e)) = .ok (sl g9 (n + m) c9) W' ∧ Sep w0 W' (lvK e s o xs (sl g9 (n + m) c9) (n + m) (ys ++ cs) :: l) := by
  cases o with
  | some g => exact Sep.lkApp ht hi hz hs hby hzs hs0 hb0 m cs hcs h1c hm0 h hm
  | none => exact Sep.appM ht hi hz hs hby hzs hs0 hb0 m cs hcs h1c hm0 h hm
/-- a list as it is read, by its cells -/
def Rv (W : World) (v : Value) (n : Nat) (xs : List Value) : Prop := ∃ a c, v = .slice a n c ∧ (0 < n → ∃ g, a = some ⟨g, 0, none⟩ ∧ g < W.heap.size ∧ Rc W g xs)
theorem Rv.kept {W W' : World} {v : Value} {n : Nat} {xs : List Value} {S : Nat → Prop} (h : Rv W v n xs) (f : Fr S W W') (hs : ∀ i, 0 < n → v.ownBlock = some i → ¬ S i) : Rv W' v n xs := by
  obtain ⟨a, c, rfl, q⟩ := h
  refine ⟨a, c, rfl, fun hn => ?_⟩
  obtain ⟨g, rfl, hg, q⟩ := q hn
  have e1 := f.block g hg (hs g hn rfl)
  refine ⟨g, rfl, Nat.lt_of_lt_of_le hg f.size, fun k t ht => ?_⟩
  rw [← q k t ht]; simp only [World.cell?, e1]
/-- two lists that are kept -/
def prK (va : Value) (n : Nat) (xs : List Value) (vo : Value) (m : Nat) (ys : List Value) : As :=
  ⟨fun W F => (Rv W va n xs ∧ Rv W vo m ys) ∧ F = fun i => (0 < n ∧ va.ownBlock = some i) ∨ (0 < m ∧ vo.ownBlock = some i),
   fun S W W' F h f hs => by
     obtain ⟨⟨h1, h2⟩, rfl⟩ := h
     exact ⟨⟨h1.kept f (fun i hn e => hs i (.inl ⟨hn, e⟩)), h2.kept f (fun i hn e => hs i (.inr ⟨hn, e⟩))⟩, rfl⟩,
   fun W F h i hi => by
     obtain ⟨⟨h1, h2⟩, rfl⟩ := h
     rcases hi with ⟨hn, hi⟩ | ⟨hn, hi⟩
     · obtain ⟨a, c, rfl, q⟩ := h1
       obtain ⟨g, rfl, hg, _⟩ := q hn
       injection hi with hi
       have hi : g = i := hi
       subst hi; exact hg
     · obtain ⟨a, c, rfl, q⟩ := h2
       obtain ⟨g, rfl, hg, _⟩ := q hn
       injection hi with hi
       have hi : g = i := hi
       subst hi; exact hg⟩
theorem own_rv {W : World} {e : TypeId} {s : Nat} {v : Value} {n : Nat} {xs : List Value} (h : W.ownsRow 0 e s v n xs) : Rv W v n xs := by
  obtain ⟨a, c, e⟩ := own_slice h
  refine ⟨a, c, e, fun hn => ?_⟩
  obtain ⟨g, c', e', q⟩ := own_any h hn
  subst e'
  injection e with e1 e2 e3
  subst e1
  exact ⟨g, rfl, own_lt h, own_rc h hn⟩
theorem Sep.lwEnd {w0 W : World} {l : List As} {e : TypeId} {s : Nat} {o : Option Nat} {va vo : Value} {n m : Nat} {xs ys : List Value} (hva : ∃ a c, va = .slice a n c) (ho : o = none → n = 0) (hg : ∀ g, o = some g → ∃ c, va = sl g n c)
    (h : Sep w0 W (lvK e s o xs vo m ys :: l)) : Sep w0 W (prK va n xs vo m ys :: l) := by
  cases o with
  | none =>
    obtain rfl := ho rfl
    obtain ⟨a, c, rfl⟩ := hva
    have h' : Sep w0 W (rowV e s vo m ys :: l) := h
    obtain ⟨F, ⟨q, rfl⟩, _, hu⟩ := h'.use
    exact hu W [_] (Fr.refl _ W) (Loc.one (a := prK _ _ _ _ _ _) _ ⟨⟨⟨a, c, rfl, fun h => by omega⟩, own_rv q⟩, rfl⟩ (fun i hi => .inl (by
      rcases hi with ⟨hn, _⟩ | ⟨_, hi⟩
      · omega
      · exact hi)))
  | some g =>
    obtain ⟨c, rfl⟩ := hg g rfl
    have h' : Sep w0 W (lnK e s g xs vo m ys :: l) := h
    obtain ⟨F, ⟨⟨h1, h2, h3, h4, h5⟩, rfl⟩, _, hu⟩ := h'.use
    exact hu W [_] (Fr.refl _ W) (Loc.one (a := prK _ _ _ _ _ _) _ ⟨⟨⟨_, c, rfl, fun _ => ⟨g, rfl, h2, h1⟩⟩, own_rv h3⟩, rfl⟩ (fun i hi => .inl (by
      rcases hi with ⟨_, hi⟩ | ⟨_, hi⟩
      · injection hi with hi; exact .inl hi.symm
      · exact .inr hi)))
theorem Sep.prGet {w0 W : World} {l : List As} {va vo : Value} {n m : Nat} {xs ys : List Value} (h : Sep w0 W l) (hm : prK va n xs vo m ys ∈ l) : Rv W va n xs ∧ Rv W vo m ys := by
  obtain ⟨F, q, _⟩ := h.get hm
  exact q
end Go.Proofs.Ytfhhneibdmjfgab
