/- P4, P5 -/
import Derived.Test.YtgedlabmndlooaaGreatE8
namespace Go.Proofs.YtgedlabmndlooaaGreat
open Go Go.RowKit Go.Maps Go.Shelf Go.Lib Go.Sort

theorem tld_irr (a : Sn) : ¬ tld a a := by unfold tld; omega
theorem tld_tr {a b c : Sn} (h : tld a b) (k : tld b c) : tld a c := by unfold tld at *; omega
theorem tld_as {a b : Sn} (h : tld a b) : ¬ tld b a := by unfold tld at *; omega
/-- one comes ahead of another where there is no room for all -/
def nearer (x y : Int) (a b : Sn) : Prop := d2 x y a.x a.y < d2 x y b.x b.y ∨ (d2 x y a.x a.y = d2 x y b.x b.y ∧ tld a b)
theorem nearer_irr (x y : Int) (a : Sn) : ¬ nearer x y a a := by
  unfold nearer
  intro h
  rcases h with h | h
  · omega
  · exact tld_irr a h.2
theorem nearer_as {x y : Int} {a b : Sn} (h : nearer x y a b) : ¬ nearer x y b a := by
  unfold nearer at *
  intro k
  rcases h with h | h <;> rcases k with k | k
  · omega
  · omega
  · omega
  · exact tld_as h.2 k.2
def nrS (x y r : Int) (t : Sn) : Bool := wn (d2 x y t.x t.y) r
def notO (pl : Int) (t : Sn) : Bool := !(decide (t.kd = 1) && decide (t.id = pl))
theorem seenC_srt {LC C : List Cr} (h : Fst1 (fun c : Cr => c.pl) LC C) : (seenC C).Pairwise tld := by
  unfold seenC
  rw [List.pairwise_map]
  refine (List.Pairwise.sublist List.filter_sublist h.1).imp ?_
  intro a b q
  exact .inr ⟨rfl, q⟩
theorem lsS_srt {LC C : List Cr} {LS S : List Sh} (h : Fst1 (fun c : Cr => c.pl) LC C) (k : Fst1 (fun s : Sh => s.id) LS S) : (seenC C ++ S.map shoS).Pairwise tld := by
  rw [List.pairwise_append]
  refine ⟨seenC_srt h, ?_, fun a ha b hb => ?_⟩
  · rw [List.pairwise_map]
    exact k.1.imp (fun q => .inr ⟨rfl, q⟩)
  · unfold seenC at ha
    obtain ⟨c, _, rfl⟩ := List.mem_map.1 ha
    obtain ⟨s, _, rfl⟩ := List.mem_map.1 hb
    exact .inl (by show (1 : Int) < 2; decide)
theorem own_one {L : List Sn} (hL : L.Pairwise tld) {pl : Int} {a b : Sn} (ha : a ∈ L) (hb : b ∈ L) (oa : notO pl a = false) (ob : notO pl b = false) : a = b := by
  obtain ⟨i, hi, e1⟩ := List.mem_iff_getElem.1 ha
  obtain ⟨j, hj, e2⟩ := List.mem_iff_getElem.1 hb
  simp only [notO, Bool.not_eq_false', Bool.and_eq_true, decide_eq_true_eq] at oa ob
  have q := List.pairwise_iff_getElem.1 hL
  rcases Nat.lt_trichotomy i j with h | h | h
  · have := q i j hi hj h
    rw [e1, e2] at this
    unfold tld at this
    omega
  · subst h
    rw [← e1, ← e2]
  · have := q j i hj hi h
    rw [e1, e2] at this
    unfold tld at this
    omega
/-- the near ones, the nearest first -/
def nrX (L : List Sn) (x y r : Int) : List Sn := (srtD x y (nr (plM L) x y r)).map (fun p => L.getD p.id.toNat zN)
theorem nsS_take (L : List Sn) (x y r q : Int) : nsS L x y r q = (nrX L x y r).take q.toNat := by
  unfold nsS nstL nst nrX
  rw [List.map_map, ← List.map_take]
  rfl
theorem plM_th {L : List Sn} {p : Pl} (h : p ∈ plM L) : ∃ (j : Nat) (t : Sn), L[j]? = some t ∧ p = ⟨(j : Int), t.x, t.y⟩ ∧ L.getD p.id.toNat zN = t := by
  obtain ⟨j, t, h1, h2⟩ := plF_at L 0 p h
  have e : ((0 + j : Nat) : Int) = (j : Int) := by omega
  rw [e] at h2
  refine ⟨j, t, h1, h2, ?_⟩
  rw [h2]
  simp [List.getD, h1]
theorem plF_of : ∀ (L : List Sn) (i j : Nat) (t : Sn), L[j]? = some t → (⟨((i + j : Nat) : Int), t.x, t.y⟩ : Pl) ∈ plF i L
  | [], _, _, _, h => by simp at h
  | a :: r, i, 0, t, h => by
    simp at h
    subst h
    rw [plF]
    exact List.mem_cons_self ..
  | a :: r, i, j + 1, t, h => by
    rw [plF]
    refine List.mem_cons_of_mem _ ?_
    have q := plF_of r (i + 1) j t (by simpa using h)
    rwa [show i + 1 + j = i + (j + 1) by omega] at q
theorem plF_ids : ∀ (L : List Sn) (i : Nat), (plF i L).Pairwise (fun a b => a.id < b.id)
  | [], _ => List.Pairwise.nil
  | t :: r, i => by
    rw [plF]
    refine List.pairwise_cons.2 ⟨fun p hp => ?_, plF_ids r (i + 1)⟩
    have := plF_lt r (i + 1) p hp
    simp only
    omega
theorem nrX_mem {L : List Sn} {x y r : Int} {t : Sn} : t ∈ nrX L x y r ↔ t ∈ L ∧ nrS x y r t = true := by
  unfold nrX nrS
  rw [List.mem_map]
  constructor
  · rintro ⟨p, hp, rfl⟩
    have h1 := (srtD_perm x y _).mem_iff.1 hp
    obtain ⟨h2, h3⟩ := List.mem_filter.1 h1
    obtain ⟨j, u, q1, q2, q3⟩ := plM_th h2
    rw [q3]
    refine ⟨List.mem_of_getElem? q1, ?_⟩
    rw [q2] at h3
    exact h3
  · rintro ⟨h1, h2⟩
    obtain ⟨j, hj, e⟩ := List.mem_iff_getElem.1 h1
    have q := plF_of L 0 j t (by rw [List.getElem?_eq_getElem hj, e])
    refine ⟨_, (srtD_perm x y _).mem_iff.2 (List.mem_filter.2 ⟨q, h2⟩), ?_⟩
    simp [hj, e]
theorem nrX_srt {L : List Sn} (hL : L.Pairwise tld) (x y r : Int) : (nrX L x y r).Pairwise (nearer x y) := by
  unfold nrX
  rw [List.pairwise_map]
  have h1 : (nr (plM L) x y r).Pairwise (fun a b => a.id ≠ b.id) := (List.Pairwise.sublist List.filter_sublist (plF_ids L 0)).imp (fun q => by omega)
  refine List.Pairwise.imp_of_mem ?_ (srtD_srt x y _ h1)
  intro a b ha hb hab
  obtain ⟨j, t, q1, q2, q3⟩ := plM_th (List.mem_filter.1 ((srtD_perm x y _).mem_iff.1 ha)).1
  obtain ⟨k, u, w1, w2, w3⟩ := plM_th (List.mem_filter.1 ((srtD_perm x y _).mem_iff.1 hb)).1
  rw [q3, w3]
  unfold ahd at hab
  rw [q2, w2] at hab
  rcases hab with h | ⟨h, h2⟩
  · exact .inl h
  · refine .inr ⟨h, ?_⟩
    simp only at h2
    obtain ⟨hj, e1⟩ := List.getElem?_eq_some_iff.1 q1
    obtain ⟨hk, e2⟩ := List.getElem?_eq_some_iff.1 w1
    have := List.pairwise_iff_getElem.1 hL j k hj hk (by omega)
    rwa [e1, e2] at this
theorem fil_take {P : Sn → Bool} : ∀ (X : List Sn) (s : Nat), X.Pairwise (fun a b => P a = true ∨ P b = true) → ((X.take (s + 1)).filter P).take s = (X.filter P).take s
  | [], s, _ => by simp
  | a :: X, s, h => by
    obtain ⟨h1, h2⟩ := List.pairwise_cons.1 h
    rw [List.take_succ_cons]
    by_cases hp : P a = true
    · rw [List.filter_cons_of_pos hp, List.filter_cons_of_pos hp]
      cases s with
      | zero => simp
      | succ s => rw [List.take_succ_cons, List.take_succ_cons, fil_take X s h2]
    · rw [List.filter_cons_of_neg hp, List.filter_cons_of_neg hp]
      have hq : ∀ b ∈ X, P b = true := fun b hb => by
        rcases h1 b hb with q | q
        · exact absurd q hp
        · exact q
      rw [List.filter_eq_self.2 hq, List.filter_eq_self.2 (fun b hb => hq b (List.mem_of_mem_take hb)), List.take_take, Nat.min_self]
theorem len_sub : ∀ (A B : List Sn), A.Nodup → (∀ t ∈ A, t ∈ B) → A.length ≤ B.length
  | [], B, _, _ => Nat.zero_le _
  | a :: A, B, h, hs => by
    obtain ⟨h1, h2⟩ := List.nodup_cons.1 h
    obtain ⟨B1, B2, e⟩ := List.append_of_mem (hs a (List.mem_cons_self ..))
    have q := len_sub A (B1 ++ B2) h2 (fun t ht => by
      have := hs t (List.mem_cons_of_mem _ ht)
      rw [e] at this
      rcases List.mem_append.1 this with k | k
      · exact List.mem_append_left _ k
      · rcases List.mem_cons.1 k with rfl | k
        · exact absurd ht h1
        · exact List.mem_append_right _ k)
    rw [e]
    simp only [List.length_append, List.length_cons] at q ⊢
    omega
/-- what is told of the things L, by itself -/
structure Told (L : List Sn) (pl x y r : Int) (s : Nat) (T : List Sn) : Prop where
  srt : T.Pairwise tld
  mem : ∀ t ∈ T, t ∈ L ∧ nrS x y r t = true ∧ notO pl t = true
  len : T.length ≤ s
  out : ∀ u ∈ L, nrS x y r u = true → notO pl u = true → u ∉ T → T.length = s ∧ ∀ t ∈ T, nearer x y t u
theorem Told.nd {L : List Sn} {pl x y r : Int} {s : Nat} {T : List Sn} (h : Told L pl x y r s T) : T.Nodup := h.srt.imp (fun q e => by subst e; exact tld_irr _ q)
theorem srt_ext : ∀ (A B : List Sn), A.Pairwise tld → B.Pairwise tld → (∀ t, t ∈ A ↔ t ∈ B) → A = B
  | [], [], _, _, _ => rfl
  | [], b :: B, _, _, h => by have := (h b).2 (List.mem_cons_self ..); cases this
  | a :: A, [], _, _, h => by have := (h a).1 (List.mem_cons_self ..); cases this
  | a :: A, b :: B, hA, hB, h => by
    obtain ⟨a1, a2⟩ := List.pairwise_cons.1 hA
    obtain ⟨b1, b2⟩ := List.pairwise_cons.1 hB
    have e : a = b := by
      rcases List.mem_cons.1 ((h a).1 (List.mem_cons_self ..)) with e | e
      · exact e
      · rcases List.mem_cons.1 ((h b).2 (List.mem_cons_self ..)) with k | k
        · exact k.symm
        · exact absurd (a1 b k) (tld_as (b1 a e))
    subst e
    rw [srt_ext A B a2 b2 (fun t => ⟨fun ht => ?_, fun ht => ?_⟩)]
    · rcases List.mem_cons.1 ((h t).1 (List.mem_cons_of_mem _ ht)) with rfl | k
      · exact absurd (a1 t ht) (tld_irr _)
      · exact k
    · rcases List.mem_cons.1 ((h t).2 (List.mem_cons_of_mem _ ht)) with rfl | k
      · exact absurd (b1 t ht) (tld_irr _)
      · exact k
theorem Told.sub {L : List Sn} {pl x y r : Int} {s : Nat} {T T' : List Sn} (h : Told L pl x y r s T) (h' : Told L pl x y r s T') : ∀ t ∈ T, t ∈ T' := by
  intro t ht
  refine Classical.byContradiction fun hn => ?_
  obtain ⟨m1, m2, m3⟩ := h.mem t ht
  obtain ⟨e1, q1⟩ := h'.out t m1 m2 m3 hn
  have : ∃ t' ∈ T', t' ∉ T := Classical.byContradiction fun hx => by
    have hs : ∀ t' ∈ T', t' ∈ T := fun t' ht' => Classical.byContradiction fun k => hx ⟨t', ht', k⟩
    have k := len_sub (t :: T') T (List.nodup_cons.2 ⟨hn, h'.nd⟩) (fun u hu => by
      rcases List.mem_cons.1 hu with rfl | hu
      · exact ht
      · exact hs u hu)
    have := h.len
    rw [List.length_cons] at k
    omega
  obtain ⟨t', ht', hn'⟩ := this
  obtain ⟨w1, w2, w3⟩ := h'.mem t' ht'
  exact nearer_as (q1 t' ht') ((h.out t' w1 w2 w3 hn').2 t ht)
theorem Told.uniq {L : List Sn} {pl x y r : Int} {s : Nat} {T T' : List Sn} (h : Told L pl x y r s T) (h' : Told L pl x y r s T') : T = T' :=
  srt_ext T T' h.srt h'.srt fun t => ⟨h.sub h' t, h'.sub h t⟩
theorem fst_uniq {α : Type} {key : α → Int} {L : List α} : ∀ (A B : List α), A.Pairwise (fun a b => key a < key b) → B.Pairwise (fun a b => key a < key b) → (∀ t, t ∈ A ↔ t ∈ B) → A = B
  | [], [], _, _, _ => rfl
  | [], b :: B, _, _, h => by have := (h b).2 (List.mem_cons_self ..); cases this
  | a :: A, [], _, _, h => by have := (h a).1 (List.mem_cons_self ..); cases this
  | a :: A, b :: B, hA, hB, h => by
    obtain ⟨a1, a2⟩ := List.pairwise_cons.1 hA
    obtain ⟨b1, b2⟩ := List.pairwise_cons.1 hB
    have e : a = b := by
      rcases List.mem_cons.1 ((h a).1 (List.mem_cons_self ..)) with e | e
      · exact e
      · rcases List.mem_cons.1 ((h b).2 (List.mem_cons_self ..)) with k | k
        · exact k.symm
        · have := a1 b k; have := b1 a e; omega
    subst e
    rw [fst_uniq (L := L) A B a2 b2 (fun t => ⟨fun ht => ?_, fun ht => ?_⟩)]
    · rcases List.mem_cons.1 ((h t).1 (List.mem_cons_of_mem _ ht)) with rfl | k
      · have := a1 t ht; omega
      · exact k
    · rcases List.mem_cons.1 ((h t).2 (List.mem_cons_of_mem _ ht)) with rfl | k
      · have := b1 t ht; omega
      · exact k
theorem Fst1.uniq {α : Type} {key : α → Int} {L A B : List α} (h : Fst1 key L A) (k : Fst1 key L B) : A = B :=
  fst_uniq (L := L) A B h.1 k.1 fun t => (h.2 t).trans (k.2 t).symm
theorem told_of {L : List Sn} (hL : L.Pairwise tld) {pl x y r : Int} {s : Nat} {T : List Sn} (hp : T.Perm ((fil pl (nsS L x y r ((s : Int) + 1))).take s)) (hs : T.Pairwise (fun a b => ltOf cfS b a = false)) : Told L pl x y r s T := by
  have e : ((s : Int) + 1).toNat = s + 1 := by omega
  have hX := nrX_srt hL x y r
  have hM : (fil pl (nsS L x y r ((s : Int) + 1))).take s = ((nrX L x y r).filter (notO pl)).take s := by
    rw [nsS_take, e]
    refine fil_take (P := notO pl) _ _ (List.Pairwise.imp_of_mem ?_ hX)
    intro a b ha hb hab
    by_cases oa : notO pl a = true
    · exact .inl oa
    · by_cases ob : notO pl b = true
      · exact .inr ob
      · have := own_one hL (nrX_mem.1 ha).1 (nrX_mem.1 hb).1 (by simpa using oa) (by simpa using ob)
        subst this
        exact absurd hab (nearer_irr x y a)
  rw [hM] at hp
  have hY : ((nrX L x y r).filter (notO pl)).Pairwise (nearer x y) := List.Pairwise.sublist List.filter_sublist hX
  have hmY : ∀ u, u ∈ (nrX L x y r).filter (notO pl) ↔ u ∈ L ∧ nrS x y r u = true ∧ notO pl u = true := fun u => by
    rw [List.mem_filter, nrX_mem, and_assoc]
  have hmem : ∀ t ∈ T, t ∈ L ∧ nrS x y r t = true ∧ notO pl t = true := fun t ht => (hmY t).1 (List.mem_of_mem_take (hp.mem_iff.1 ht))
  have hnd : T.Nodup := hp.nodup_iff.2 ((List.Pairwise.sublist (List.take_sublist _ _) hY).imp (fun {a b} q (e : a = b) => by subst e; exact nearer_irr x y _ q))
  refine ⟨?_, hmem, by rw [hp.length_eq, List.length_take]; exact Nat.min_le_left _ _, fun u hu1 hu2 hu3 hn => ?_⟩
  · refine List.Pairwise.imp_of_mem ?_ (List.pairwise_and_iff.2 ⟨hs, hnd⟩)
    intro a b ha hb ⟨h1, h2⟩
    rw [ltS, decide_eq_false_iff_not] at h1
    obtain ⟨i, hi, e1⟩ := List.mem_iff_getElem.1 (hmem a ha).1
    obtain ⟨j, hj, e2⟩ := List.mem_iff_getElem.1 (hmem b hb).1
    rcases Nat.lt_trichotomy i j with k | k | k
    · have := List.pairwise_iff_getElem.1 hL i j hi hj k
      rwa [e1, e2] at this
    · subst k
      exact absurd (e1.symm.trans e2) h2
    · have := List.pairwise_iff_getElem.1 hL j i hj hi k
      rw [e1, e2] at this
      exact absurd this h1
  · have hu := (hmY u).2 ⟨hu1, hu2, hu3⟩
    have hn' : u ∉ ((nrX L x y r).filter (notO pl)).take s := fun q => hn (hp.mem_iff.2 q)
    have hd : u ∈ ((nrX L x y r).filter (notO pl)).drop s := by
      rw [← List.take_append_drop s ((nrX L x y r).filter (notO pl))] at hu
      rcases List.mem_append.1 hu with q | q
      · exact absurd q hn'
      · exact q
    have hl : s < ((nrX L x y r).filter (notO pl)).length := by
      refine Classical.byContradiction fun q => ?_
      rw [List.drop_eq_nil_of_le (by omega)] at hd
      cases hd
    refine ⟨by rw [hp.length_eq, List.length_take]; omega, fun t ht => ?_⟩
    rw [← List.take_append_drop s ((nrX L x y r).filter (notO pl))] at hY
    exact (List.pairwise_append.1 hY).2.2 t (hp.mem_iff.1 ht) u hd
/-- what is told of a state is told of its firsts -/
theorem Tld.told {LC : List Cr} {LS : List Sh} {radius sho : Int} {own : Cr} {T : List Sn} (h : Tld LC LS radius sho own T) {C : List Cr} {S : List Sh} (hC : Fst1 (fun c : Cr => c.pl) LC C) (hS : Fst1 (fun s : Sh => s.id) LS S) :
    Told (seenC C ++ S.map shoS) own.pl own.x own.y (65536 * kpZ radius 1024) (kpZ sho 32).toNat T := by
  obtain ⟨C', S', c1, s1, p1, p2⟩ := h.o
  rw [← c1.uniq hC, ← s1.uniq hS]
  refine told_of (lsS_srt c1 s1) ?_ p2
  have := (kpZ_in sho 32 (by decide)).1
  rw [Int.toNat_of_nonneg this]
  exact p1
theorem Tld.uniq {LC : List Cr} {LS : List Sh} {radius sho : Int} {own : Cr} {T T' : List Sn} (h : Tld LC LS radius sho own T) (h' : Tld LC LS radius sho own T') : T = T' := by
  obtain ⟨C', S', c1, s1, p1, p2⟩ := h.o
  exact (h.told c1 s1).uniq (h'.told c1 s1)
end Go.Proofs.YtgedlabmndlooaaGreat

namespace Go.Proofs.YtgedlabmndlooaaGreat
open Go Go.RowKit Go.Maps Go.Shelf Go.Lib Go.Sort

theorem find_key {α : Type} {key : α → Int} : ∀ {L : List α}, L.Pairwise (fun a b => key a ≠ key b) → ∀ {c : α}, c ∈ L → L.find? (fun y => key y == key c) = some c
  | [], _, _, hc => by cases hc
  | a :: L, h, c, hc => by
    obtain ⟨h1, h2⟩ := List.pairwise_cons.1 h
    rw [List.find?_cons]
    rcases List.mem_cons.1 hc with rfl | hc
    · simp
    · have : (key a == key c) = false := by simpa using h1 c hc
      rw [this]
      exact find_key h2 hc
theorem find_app {α : Type} {key : α → Int} {L : List α} {o : α} (h : ∀ c ∈ L, key c ≠ key o) (p : Int) (hp : key o = p) : (L ++ [o]).find? (fun y => key y == p) = some o := by
  rw [List.find?_append, List.find?_eq_none.2 (fun c hc => by simpa [← hp] using h c hc)]
  simp [hp]
theorem things_kd {C : List Cr} {S : List Sh} {t : Sn} (h : t ∈ seenC C ++ S.map shoS) : t.kd = 1 ∨ (t.kd = 2 ∧ t.hd = 0) := by
  rcases List.mem_append.1 h with h | h
  · unfold seenC at h
    obtain ⟨c, _, rfl⟩ := List.mem_map.1 h
    exact .inl rfl
  · obtain ⟨c, _, rfl⟩ := List.mem_map.1 h
    exact .inr ⟨rfl, rfl⟩
/-- the cars and shots made of what was told -/
structure Made (T : List Sn) (CL : List Cr) (SL : List Sh) : Prop where
  c : CL.map carS = (T.filter (fun t => decide (t.kd = 1))).reverse
  s : SL.map shoS = (T.filter (fun t => !decide (t.kd = 1))).reverse
  w : ∀ c ∈ CL, c.wa = 0
theorem Made.nil : Made [] [] [] := ⟨rfl, rfl, fun _ h => by cases h⟩
theorem ids_ne {T : List Sn} (hs : T.Pairwise tld) {P : Sn → Bool} (k : Int) (hk : ∀ t ∈ T, P t = true → t.kd = k) : (T.filter P).reverse.Pairwise (fun a b => a.id ≠ b.id) := by
  rw [List.pairwise_reverse]
  refine List.Pairwise.imp_of_mem ?_ (List.Pairwise.sublist List.filter_sublist hs)
  intro a b ha hb hab
  obtain ⟨a1, a2⟩ := List.mem_filter.1 ha
  obtain ⟨b1, b2⟩ := List.mem_filter.1 hb
  have := hk a a1 a2
  have := hk b b1 b2
  unfold tld at hab
  omega
theorem told_made {L T : List Sn} {pl x y r : Int} {s : Nat} (h : Told L pl x y r s T) (hkd : ∀ t ∈ T, t.kd = 1 ∨ (t.kd = 2 ∧ t.hd = 0)) {CL : List Cr} {SL : List Sh} (m : Made T CL SL) {own : Cr} (ho : own.pl = pl)
    {C : List Cr} {S : List Sh} (hC : Fst1 (fun c : Cr => c.pl) (CL ++ [own]) C) (hS : Fst1 (fun s : Sh => s.id) SL S) : Told (seenC C ++ S.map shoS) pl x y r s T := by
  have hcm : ∀ c ∈ CL, carS c ∈ T ∧ (carS c).kd = 1 := fun c hc => by
    have : carS c ∈ (T.filter (fun t => decide (t.kd = 1))).reverse := by rw [← m.c]; exact List.mem_map_of_mem hc
    exact ⟨(List.mem_filter.1 (List.mem_reverse.1 this)).1, rfl⟩
  have hsm : ∀ c ∈ SL, shoS c ∈ T := fun c hc => by
    have : shoS c ∈ (T.filter (fun t => !decide (t.kd = 1))).reverse := by rw [← m.s]; exact List.mem_map_of_mem hc
    exact (List.mem_filter.1 (List.mem_reverse.1 this)).1
  have hne : ∀ c ∈ CL, c.pl ≠ own.pl := fun c hc e => by
    have := (h.mem _ (hcm c hc).1).2.2
    simp [notO, carS, e, ho] at this
  have hpc : CL.Pairwise (fun a b => a.pl ≠ b.pl) := by
    have q := ids_ne h.srt (P := fun t => decide (t.kd = 1)) 1 (fun t _ e => of_decide_eq_true e)
    rw [← m.c, List.pairwise_map] at q
    exact q
  have hps : SL.Pairwise (fun a b => a.id ≠ b.id) := by
    have q := ids_ne h.srt (P := fun t => !decide (t.kd = 1)) 2 (fun t ht e => by
      rcases hkd t ht with k | k
      · simp [k] at e
      · exact k.1)
    rw [← m.s, List.pairwise_map] at q
    exact q
  refine ⟨h.srt, fun t ht => ⟨?_, (h.mem t ht).2⟩, h.len, fun u hu h1 h2 h3 => ?_⟩
  · rcases hkd t ht with k | ⟨k, k2⟩
    · have : t ∈ CL.map carS := by
        rw [m.c]
        exact List.mem_reverse.2 (List.mem_filter.2 ⟨ht, by simp [k]⟩)
      obtain ⟨c, hc, rfl⟩ := List.mem_map.1 this
      refine List.mem_append_left _ ?_
      unfold seenC
      refine List.mem_map_of_mem (List.mem_filter.2 ⟨(hC.2 c).2 ?_, by simp [m.w c hc]⟩)
      rw [List.find?_append, find_key hpc hc]
      rfl
    · have : t ∈ SL.map shoS := by
        rw [m.s]
        exact List.mem_reverse.2 (List.mem_filter.2 ⟨ht, by simp [k]⟩)
      obtain ⟨c, hc, rfl⟩ := List.mem_map.1 this
      exact List.mem_append_right _ (List.mem_map_of_mem ((hS.2 c).2 (find_key hps hc)))
  · exfalso
    rcases List.mem_append.1 hu with hu | hu
    · unfold seenC at hu
      obtain ⟨c, hc, rfl⟩ := List.mem_map.1 hu
      have hm := List.mem_of_find?_eq_some ((hC.2 c).1 (List.mem_filter.1 hc).1)
      rcases List.mem_append.1 hm with q | q
      · exact h3 (hcm c q).1
      · rw [List.mem_singleton] at q
        subst q
        simp [notO, carS, ho] at h2
    · obtain ⟨c, hc, rfl⟩ := List.mem_map.1 hu
      exact h3 (hsm c (List.mem_of_find?_eq_some ((hS.2 c).1 hc)))
theorem Tld.made {LC : List Cr} {LS : List Sh} {radius sho : Int} {own : Cr} {T T' : List Sn} (h : Tld LC LS radius sho own T) {CL : List Cr} {SL : List Sh} (m : Made T CL SL) (h' : Tld (CL ++ [own]) SL radius sho own T') : T' = T := by
  obtain ⟨C0, S0, c0, s0, _, _⟩ := h.o
  obtain ⟨C, S, c1, s1, _, _⟩ := h'.o
  have t0 := h.told c0 s0
  exact (h'.told c1 s1).uniq (told_made t0 (fun t ht => things_kd (t0.mem t ht).1) m rfl c1 s1)
theorem Tld.le {LC : List Cr} {LS : List Sh} {radius sho : Int} {own : Cr} {T : List Sn} (h : Tld LC LS radius sho own T) : T.length ≤ 32 := by
  obtain ⟨C0, S0, c0, s0, _, _⟩ := h.o
  have t0 := h.told c0 s0
  have := t0.len
  have := kpZ_in sho 32 (by decide)
  omega
theorem Tld.notO {LC : List Cr} {LS : List Sh} {radius sho : Int} {own : Cr} {T : List Sn} (h : Tld LC LS radius sho own T) : ∀ t ∈ T, t.kd = 1 → t.id ≠ own.pl := fun t ht e1 e2 => by
  obtain ⟨C0, S0, c0, s0, _, _⟩ := h.o
  have := ((h.told c0 s0).mem t ht).2.2
  simp [YtgedlabmndlooaaGreat.notO, e1, e2] at this
theorem Tld.ok {LC : List Cr} {LS : List Sh} {radius sho : Int} {own : Cr} {T : List Sn} (h : Tld LC LS radius sho own T) (oc : ∀ c ∈ LC, CrOk c) (os : ∀ s ∈ LS, ShOk s) : ∀ t ∈ T, SnOk t := fun t ht => by
  obtain ⟨C0, S0, c0, s0, _, _⟩ := h.o
  have := ((h.told c0 s0).mem t ht).1
  rcases List.mem_append.1 this with q | q
  · unfold seenC at q
    obtain ⟨c, hc, rfl⟩ := List.mem_map.1 q
    have o := oc c (List.mem_of_find?_eq_some ((c0.2 c).1 (List.mem_filter.1 hc).1))
    exact ⟨by show I64 1; unfold I64; omega, o.pl, o.x, o.y, o.hd⟩
  · obtain ⟨c, hc, rfl⟩ := List.mem_map.1 q
    have o := os c (List.mem_of_find?_eq_some ((s0.2 c).1 hc))
    exact ⟨by show I64 2; unfold I64; omega, o.id, o.x, o.y, by show I64 0; unfold I64; omega⟩
theorem Tld.kd {LC : List Cr} {LS : List Sh} {radius sho : Int} {own : Cr} {T : List Sn} (h : Tld LC LS radius sho own T) : ∀ t ∈ T, t.kd = 1 ∨ (t.kd = 2 ∧ t.hd = 0) := fun t ht => by
  obtain ⟨C0, S0, c0, s0, _, _⟩ := h.o
  exact things_kd ((h.told c0 s0).mem t ht).1
end Go.Proofs.YtgedlabmndlooaaGreat
