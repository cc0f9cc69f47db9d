/- grid over lists: things, their cells. -/
import Derived.Test.YtgedlabmndlooaaGreatGM
namespace Go.Proofs.YtgedlabmndlooaaGreat
open Go Go.RowKit

/-- a thing as it lies: its block, id, place, where it stands among all and in its cell -/
structure Tg where
  b : Nat
  id : Int
  x : Int
  y : Int
  s : Nat
  p : Nat
/-- a cell's list -/
structure Cl where
  k : Int × Int
  g : Nat
  c : Nat
  L : List Nat
def cel (sd : Int) (t : Tg) : Int × Int := (t.x / sd, t.y / sd)
def lens (C : List Cl) : Nat := (C.map (fun c => c.L.length)).sum
structure Jok (sd : Int) (A : List Tg) (C : List Cl) (o : Option Nat) : Prop where
  to : ∀ t ∈ A, some t.b ≠ o → ∃ c ∈ C, c.k = cel sd t ∧ c.L[t.p]? = some t.b
  fro : ∀ c ∈ C, ∀ i b, c.L[i]? = some b → ∃ t ∈ A, t.b = b ∧ t.p = i ∧ cel sd t = c.k ∧ some b ≠ o
  ne : ∀ c ∈ C, c.L ≠ []
  kd : C.Pairwise (fun a b => a.k ≠ b.k)
  bd : A.Pairwise (fun a b => a.b ≠ b.b)
  sz : lens C + (if o = none then 0 else 1) = A.length
set_option maxRecDepth 100000 in
theorem Jok.perm {sd : Int} {A A' : List Tg} {C C' : List Cl} {o : Option Nat} (h : Jok sd A C o) (hA : A.Perm A') (hC : C.Perm C') : Jok sd A' C' o where
  to t ht ho := by
    obtain ⟨c, hc, h1⟩ := h.to t (hA.mem_iff.2 ht) ho
    exact ⟨c, hC.mem_iff.1 hc, h1⟩
  fro c hc i b hb := by
    obtain ⟨t, ht, h1⟩ := h.fro c (hC.mem_iff.2 hc) i b hb
    exact ⟨t, hA.mem_iff.1 ht, h1⟩
  ne c hc := h.ne c (hC.mem_iff.2 hc)
  kd := (hC.pairwise_iff (fun {_ _} q => Ne.symm q)).1 h.kd
  bd := (hA.pairwise_iff (fun {_ _} q => Ne.symm q)).1 h.bd
  sz := by
    have h1 := h.sz
    rw [← hA.length_eq, ← h1]
    unfold lens
    rw [(hC.map (fun c => c.L.length)).sum_nat]
set_option maxRecDepth 100000 in
theorem lens_cons (c : Cl) (D : List Cl) : lens (c :: D) = c.L.length + lens D := by simp [lens]
/-- a thing comes into a cell that is there -/
theorem Jok.enter {sd : Int} {t t' : Tg} {R : List Tg} {c c' : Cl} {D : List Cl} (h : Jok sd (t :: R) (c :: D) (some t.b)) (hk : c.k = cel sd t)
    (hb : t'.b = t.b) (hp : t'.p = c.L.length) (hce : cel sd t' = cel sd t) (hk' : c'.k = c.k) (hL : c'.L = c.L ++ [t.b]) : Jok sd (t' :: R) (c' :: D) none where
  to u hu _ := by
    rcases List.mem_cons.1 hu with rfl | hu
    · exact ⟨c', List.mem_cons_self .., by rw [hk', hk, hce], by rw [hL, hp, hb]; simp⟩
    · have hn : t.b ≠ u.b := (List.pairwise_cons.1 h.bd).1 u hu
      obtain ⟨d, hd, h1, h2⟩ := h.to u (List.mem_cons_of_mem _ hu) (fun e => hn (Option.some.inj e).symm)
      rcases List.mem_cons.1 hd with rfl | hd
      · refine ⟨c', List.mem_cons_self .., by rw [hk', h1], ?_⟩
        rw [hL, List.getElem?_append_left (List.getElem?_eq_some_iff.1 h2).1, h2]
      · exact ⟨d, List.mem_cons_of_mem _ hd, h1, h2⟩
  fro d hd i b hib := by
    have old : ∀ d ∈ c :: D, d.L[i]? = some b → ∃ u ∈ R, u.b = b ∧ u.p = i ∧ cel sd u = d.k := by
      intro d hd hib
      obtain ⟨u, hu, h1, h2, h3, h4⟩ := h.fro d hd i b hib
      rcases List.mem_cons.1 hu with rfl | hu
      · exact absurd (by rw [h1]) h4
      · exact ⟨u, hu, h1, h2, h3⟩
    rcases List.mem_cons.1 hd with rfl | hd
    · rw [hL] at hib
      by_cases hi : i < c.L.length
      · rw [List.getElem?_append_left hi] at hib
        obtain ⟨u, hu, h1, h2, h3⟩ := old c (List.mem_cons_self ..) hib
        exact ⟨u, List.mem_cons_of_mem _ hu, h1, h2, by rw [h3, hk'], nofun⟩
      · rw [List.getElem?_append_right (by omega)] at hib
        have hi2 : i = c.L.length := by
          have := (List.getElem?_eq_some_iff.1 hib).1
          simp at this; omega
        subst hi2
        simp at hib
        exact ⟨t', List.mem_cons_self .., by rw [hb, hib], hp, by rw [hce, hk', hk], nofun⟩
    · obtain ⟨u, hu, h1, h2, h3⟩ := old d (List.mem_cons_of_mem _ hd) hib
      exact ⟨u, List.mem_cons_of_mem _ hu, h1, h2, h3, nofun⟩
  ne d hd := by
    rcases List.mem_cons.1 hd with rfl | hd
    · rw [hL]; simp
    · exact h.ne d (List.mem_cons_of_mem _ hd)
  kd := by
    obtain ⟨h1, h2⟩ := List.pairwise_cons.1 h.kd
    exact List.pairwise_cons.2 ⟨fun d hd => by rw [hk']; exact h1 d hd, h2⟩
  bd := by
    obtain ⟨h1, h2⟩ := List.pairwise_cons.1 h.bd
    exact List.pairwise_cons.2 ⟨fun d hd => by rw [hb]; exact h1 d hd, h2⟩
  sz := by
    have := h.sz
    rw [lens_cons] at this ⊢
    rw [hL]
    simp at this ⊢
    omega
/-- .. that is not -/
theorem Jok.enterNew {sd : Int} {t t' : Tg} {R : List Tg} {c' : Cl} {D : List Cl} (h : Jok sd (t :: R) D (some t.b)) (hk : ∀ c ∈ D, c.k ≠ cel sd t)
    (hb : t'.b = t.b) (hp : t'.p = 0) (hce : cel sd t' = cel sd t) (hk' : c'.k = cel sd t) (hL : c'.L = [t.b]) : Jok sd (t' :: R) (c' :: D) none where
  to u hu _ := by
    rcases List.mem_cons.1 hu with rfl | hu
    · exact ⟨c', List.mem_cons_self .., by rw [hk', hce], by rw [hL, hp, hb]; simp⟩
    · have hn : t.b ≠ u.b := (List.pairwise_cons.1 h.bd).1 u hu
      obtain ⟨d, hd, h1, h2⟩ := h.to u (List.mem_cons_of_mem _ hu) (fun e => hn (Option.some.inj e).symm)
      exact ⟨d, List.mem_cons_of_mem _ hd, h1, h2⟩
  fro d hd i b hib := by
    rcases List.mem_cons.1 hd with rfl | hd
    · rw [hL] at hib
      cases i with
      | zero =>
        simp at hib
        exact ⟨t', List.mem_cons_self .., by rw [hb, hib], hp, by rw [hce, hk'], nofun⟩
      | succ i => simp at hib
    · obtain ⟨u, hu, h1, h2, h3, h4⟩ := h.fro d hd i b hib
      rcases List.mem_cons.1 hu with rfl | hu
      · exact absurd (by rw [h1]) h4
      · exact ⟨u, List.mem_cons_of_mem _ hu, h1, h2, h3, nofun⟩
  ne d hd := by
    rcases List.mem_cons.1 hd with rfl | hd
    · rw [hL]; simp
    · exact h.ne d hd
  kd := List.pairwise_cons.2 ⟨fun d hd => by rw [hk']; exact (hk d hd).symm, h.kd⟩
  bd := by
    obtain ⟨h1, h2⟩ := List.pairwise_cons.1 h.bd
    exact List.pairwise_cons.2 ⟨fun d hd => by rw [hb]; exact h1 d hd, h2⟩
  sz := by
    have := h.sz
    rw [lens_cons, hL]
    simp at this ⊢
    omega
/-- two places of a cell have two things -/
theorem Jok.inj {sd : Int} {A : List Tg} {C : List Cl} {o : Option Nat} (h : Jok sd A C o) {c : Cl} (hc : c ∈ C) {i j b : Nat} (hi : c.L[i]? = some b) (hj : c.L[j]? = some b) : i = j := by
  obtain ⟨t, ht, h1, h2, _⟩ := h.fro c hc i b hi
  obtain ⟨u, hu, k1, k2, _⟩ := h.fro c hc j b hj
  by_cases e : t = u
  · rw [← h2, ← k2, e]
  · have : t.b ≠ u.b := by
      have hp := h.bd
      rcases List.mem_iff_getElem.1 ht with ⟨n, hn, rfl⟩
      rcases List.mem_iff_getElem.1 hu with ⟨m, hm, rfl⟩
      rw [List.pairwise_iff_getElem] at hp
      rcases Nat.lt_trichotomy n m with q | q | q
      · exact hp n m hn hm q
      · subst q; exact absurd rfl e
      · exact (hp m n hm hn q).symm
    omega
set_option maxRecDepth 100000 in
theorem Jok.uniq {sd : Int} {A : List Tg} {C : List Cl} {o : Option Nat} (h : Jok sd A C o) {t u : Tg} (ht : t ∈ A) (hu : u ∈ A) (e : t.b = u.b) : t = u := by
  have hp := h.bd
  rcases List.mem_iff_getElem.1 ht with ⟨n, hn, rfl⟩
  rcases List.mem_iff_getElem.1 hu with ⟨m, hm, rfl⟩
  rw [List.pairwise_iff_getElem] at hp
  rcases Nat.lt_trichotomy n m with q | q | q
  · exact absurd e (hp n m hn hm q)
  · subst q; rfl
  · exact absurd e.symm (hp m n hm hn q)
set_option maxRecDepth 100000 in
theorem Jok.cell {sd : Int} {A : List Tg} {C : List Cl} {o : Option Nat} (h : Jok sd A C o) {c d : Cl} (hc : c ∈ C) (hd : d ∈ C) (e : c.k = d.k) : c = d := by
  have hp := h.kd
  rcases List.mem_iff_getElem.1 hc with ⟨n, hn, rfl⟩
  rcases List.mem_iff_getElem.1 hd with ⟨m, hm, rfl⟩
  rw [List.pairwise_iff_getElem] at hp
  rcases Nat.lt_trichotomy n m with q | q | q
  · exact absurd e (hp n m hn hm q)
  · subst q; rfl
  · exact absurd e.symm (hp m n hm hn q)
/-- the last of a cell leaves it -/
theorem Jok.leaveLast {sd : Int} {t : Tg} {R : List Tg} {c c' : Cl} {D : List Cl} (h : Jok sd (t :: R) (c :: D) none) (hk : c.k = cel sd t) (hp : t.p + 1 = c.L.length) (hl : c.L[t.p]? = some t.b)
    (hk' : c'.k = c.k) (hL : c'.L = c.L.take t.p) (hne : c'.L ≠ []) : Jok sd (t :: R) (c' :: D) (some t.b) where
  to u hu ho := by
    rcases List.mem_cons.1 hu with rfl | hu
    · exact absurd rfl ho
    · obtain ⟨d, hd, h1, h2⟩ := h.to u (List.mem_cons_of_mem _ hu) nofun
      rcases List.mem_cons.1 hd with rfl | hd
      · refine ⟨c', List.mem_cons_self .., by rw [hk', h1], ?_⟩
        have hlt := (List.getElem?_eq_some_iff.1 h2).1
        have hne2 : u.p ≠ t.p := by
          intro e
          rw [e, hl] at h2
          exact ho (by rw [Option.some.inj h2])
        rw [hL, List.getElem?_take, if_pos (by omega), h2]
      · exact ⟨d, List.mem_cons_of_mem _ hd, h1, h2⟩
  fro d hd i b hib := by
    rcases List.mem_cons.1 hd with rfl | hd
    · rw [hL, List.getElem?_take] at hib
      split at hib
      · rename_i hi
        obtain ⟨u, hu, h1, h2, h3, _⟩ := h.fro c (List.mem_cons_self ..) i b hib
        refine ⟨u, hu, h1, h2, by rw [h3, hk'], fun e => ?_⟩
        have e := Option.some.inj e
        subst e
        have := h.inj (List.mem_cons_self ..) hib hl
        omega
      · cases hib
    · obtain ⟨u, hu, h1, h2, h3, _⟩ := h.fro d (List.mem_cons_of_mem _ hd) i b hib
      refine ⟨u, hu, h1, h2, h3, fun e => ?_⟩
      have e := Option.some.inj e
      subst e
      have e2 := h.uniq hu (List.mem_cons_self ..) h1
      subst e2
      exact (List.pairwise_cons.1 h.kd).1 d hd (by rw [hk, h3])
  ne d hd := by
    rcases List.mem_cons.1 hd with rfl | hd
    · exact hne
    · exact h.ne d (List.mem_cons_of_mem _ hd)
  kd := by
    obtain ⟨h1, h2⟩ := List.pairwise_cons.1 h.kd
    exact List.pairwise_cons.2 ⟨fun d hd => by rw [hk']; exact h1 d hd, h2⟩
  bd := h.bd
  sz := by
    have := h.sz
    rw [lens_cons] at this ⊢
    rw [hL, List.length_take]
    simp at this ⊢
    omega
/-- the only one of a cell leaves it -/
theorem Jok.leaveOnly {sd : Int} {t : Tg} {R : List Tg} {c : Cl} {D : List Cl} (h : Jok sd (t :: R) (c :: D) none) (hk : c.k = cel sd t) (hp : c.L.length = 1) (hl : c.L[t.p]? = some t.b) : Jok sd (t :: R) D (some t.b) where
  to u hu ho := by
    rcases List.mem_cons.1 hu with rfl | hu
    · exact absurd rfl ho
    · obtain ⟨d, hd, h1, h2⟩ := h.to u (List.mem_cons_of_mem _ hu) nofun
      rcases List.mem_cons.1 hd with rfl | hd
      · have hlt := (List.getElem?_eq_some_iff.1 h2).1
        have hlt2 := (List.getElem?_eq_some_iff.1 hl).1
        have e : u.p = t.p := by omega
        rw [e, hl] at h2
        exact absurd (by rw [Option.some.inj h2]) ho
      · exact ⟨d, hd, h1, h2⟩
  fro d hd i b hib := by
    obtain ⟨u, hu, h1, h2, h3, _⟩ := h.fro d (List.mem_cons_of_mem _ hd) i b hib
    refine ⟨u, hu, h1, h2, h3, fun e => ?_⟩
    have e := Option.some.inj e
    subst e
    have e2 := h.uniq hu (List.mem_cons_self ..) h1
    subst e2
    exact (List.pairwise_cons.1 h.kd).1 d hd (by rw [hk, h3])
  ne d hd := h.ne d (List.mem_cons_of_mem _ hd)
  kd := (List.pairwise_cons.1 h.kd).2
  bd := h.bd
  sz := by
    have := h.sz
    rw [lens_cons] at this
    simp at this ⊢
    omega
/-- one of a cell leaves it, and the last one comes to stand there -/
theorem Jok.leaveMid {sd : Int} {t u u' : Tg} {R : List Tg} {c c' : Cl} {D : List Cl} (h : Jok sd (t :: u :: R) (c :: D) none) (hk : c.k = cel sd t) (hl : c.L[t.p]? = some t.b) (hu : c.L[u.p]? = some u.b) (hp : u.p + 1 = c.L.length) (hn : t.b ≠ u.b)
    (hb : u'.b = u.b) (hp' : u'.p = t.p) (hce : cel sd u' = cel sd u) (hk' : c'.k = c.k) (hL : c'.L = (c.L.set t.p u.b).take u.p) : Jok sd (t :: u' :: R) (c' :: D) (some t.b) ∧ c'.L ≠ [] := by
  have hlt := (List.getElem?_eq_some_iff.1 hl).1
  have hne : t.p ≠ u.p := fun e => by rw [e, hu] at hl; exact hn (Option.some.inj hl).symm
  have hcu : cel sd u = c.k := by
    obtain ⟨v, hv, h1, h2, h3, _⟩ := h.fro c (List.mem_cons_self ..) u.p u.b hu
    rw [h.uniq (t := u) (u := v) (List.mem_cons_of_mem _ (List.mem_cons_self ..)) hv h1.symm]; exact h3
  have hlen : c'.L.length = u.p := by rw [hL, List.length_take, List.length_set]; omega
  have hget : ∀ i, c'.L[i]? = if i < u.p then (if t.p = i then some u.b else c.L[i]?) else none := by
    intro i
    rw [hL, List.getElem?_take]
    by_cases hi : i < u.p
    · rw [if_pos hi, if_pos hi, List.getElem?_set]
      by_cases e : t.p = i
      · rw [if_pos e, if_pos e, if_pos (by omega)]
      · rw [if_neg e, if_neg e]
    · rw [if_neg hi, if_neg hi]
  have hne2 : c'.L ≠ [] := by
    intro e
    rw [e] at hlen
    simp at hlen
    omega
  obtain ⟨bt, bd1⟩ := List.pairwise_cons.1 h.bd
  obtain ⟨bu, bd2⟩ := List.pairwise_cons.1 bd1
  refine ⟨{ to := ?_, fro := ?_, ne := ?_, kd := ?_, bd := ?_, sz := ?_ }, hne2⟩
  · intro v hv ho
    rcases List.mem_cons.1 hv with rfl | hv
    · exact absurd rfl ho
    · rcases List.mem_cons.1 hv with rfl | hv
      · refine ⟨c', List.mem_cons_self .., by rw [hk', hce, hcu], ?_⟩
        rw [hget, hp', if_pos (by omega), if_pos rfl, hb]
      · obtain ⟨d, hd, h1, h2⟩ := h.to v (List.mem_cons_of_mem _ (List.mem_cons_of_mem _ hv)) nofun
        rcases List.mem_cons.1 hd with rfl | hd
        · refine ⟨c', List.mem_cons_self .., by rw [hk', h1], ?_⟩
          have hv1 := (List.getElem?_eq_some_iff.1 h2).1
          have hv2 : v.p ≠ t.p := fun e => by
            rw [e, hl] at h2
            exact bt v (List.mem_cons_of_mem _ hv) (Option.some.inj h2)
          have hv3 : v.p ≠ u.p := fun e => by
            rw [e, hu] at h2
            exact bu v hv (Option.some.inj h2)
          rw [hget, if_pos (by omega), if_neg (Ne.symm hv2), h2]
        · exact ⟨d, List.mem_cons_of_mem _ hd, h1, h2⟩
  · intro d hd i b hib
    rcases List.mem_cons.1 hd with rfl | hd
    · rw [hget] at hib
      split at hib
      · rename_i hi
        split at hib
        · rename_i hti
          have e := Option.some.inj hib
          exact ⟨u', List.mem_cons_of_mem _ (List.mem_cons_self ..), by rw [hb, e], by rw [hp', hti], by rw [hce, hcu, hk'], fun q => hn (by rw [e]; exact (Option.some.inj q).symm)⟩
        · rename_i hti
          obtain ⟨v, hv, h1, h2, h3, _⟩ := h.fro c (List.mem_cons_self ..) i b hib
          have hbt : b ≠ t.b := fun e => by
            subst e
            exact hti (h.inj (List.mem_cons_self ..) hl hib)
          rcases List.mem_cons.1 hv with rfl | hv
          · exact absurd h1.symm hbt
          · rcases List.mem_cons.1 hv with rfl | hv
            · omega
            · exact ⟨v, List.mem_cons_of_mem _ (List.mem_cons_of_mem _ hv), h1, h2, by rw [h3, hk'], fun q => hbt (Option.some.inj q)⟩
      · cases hib
    · obtain ⟨v, hv, h1, h2, h3, _⟩ := h.fro d (List.mem_cons_of_mem _ hd) i b hib
      have hkk : c.k ≠ d.k := (List.pairwise_cons.1 h.kd).1 d hd
      rcases List.mem_cons.1 hv with rfl | hv
      · exact absurd (by rw [hk, h3]) hkk
      · rcases List.mem_cons.1 hv with rfl | hv
        · exact absurd (by rw [← hcu, h3]) hkk
        · exact ⟨v, List.mem_cons_of_mem _ (List.mem_cons_of_mem _ hv), h1, h2, h3, fun q => bt v (List.mem_cons_of_mem _ hv) (by rw [h1]; exact (Option.some.inj q).symm)⟩
  · intro d hd
    rcases List.mem_cons.1 hd with rfl | hd
    · exact hne2
    · exact h.ne d (List.mem_cons_of_mem _ hd)
  · obtain ⟨h1, h2⟩ := List.pairwise_cons.1 h.kd
    exact List.pairwise_cons.2 ⟨fun d hd => by rw [hk']; exact h1 d hd, h2⟩
  · refine List.pairwise_cons.2 ⟨fun v hv => ?_, List.pairwise_cons.2 ⟨fun v hv => by rw [hb]; exact bu v hv, bd2⟩⟩
    rcases List.mem_cons.1 hv with rfl | hv
    · rw [hb]; exact hn
    · exact bt v (List.mem_cons_of_mem _ hv)
  · have := h.sz
    rw [lens_cons] at this ⊢
    rw [hlen]
    simp at this ⊢
    omega
/-- what is out of its cell may be moved -/
theorem Jok.move {sd : Int} {t t' : Tg} {R : List Tg} {C : List Cl} (h : Jok sd (t :: R) C (some t.b)) (hb : t'.b = t.b) : Jok sd (t' :: R) C (some t.b) where
  to u hu ho := by
    rcases List.mem_cons.1 hu with rfl | hu
    · rw [hb] at ho; exact absurd rfl ho
    · exact h.to u (List.mem_cons_of_mem _ hu) ho
  fro d hd i b hib := by
    obtain ⟨u, hu, h1, h2, h3, h4⟩ := h.fro d hd i b hib
    rcases List.mem_cons.1 hu with rfl | hu
    · exact absurd (by rw [h1]) h4
    · exact ⟨u, List.mem_cons_of_mem _ hu, h1, h2, h3, h4⟩
  ne := h.ne
  kd := h.kd
  bd := by
    obtain ⟨h1, h2⟩ := List.pairwise_cons.1 h.bd
    exact List.pairwise_cons.2 ⟨fun d hd => by rw [hb]; exact h1 d hd, h2⟩
  sz := by
    have := h.sz
    simpa using this
/-- a new one -/
theorem Jok.new {sd : Int} {t : Tg} {A : List Tg} {C : List Cl} (h : Jok sd A C none) (hf : ∀ u ∈ A, t.b ≠ u.b) : Jok sd (t :: A) C (some t.b) where
  to u hu ho := by
    rcases List.mem_cons.1 hu with rfl | hu
    · exact absurd rfl ho
    · exact h.to u hu nofun
  fro d hd i b hib := by
    obtain ⟨u, hu, h1, h2, h3, _⟩ := h.fro d hd i b hib
    exact ⟨u, List.mem_cons_of_mem _ hu, h1, h2, h3, fun e => hf u hu (by rw [h1]; exact (Option.some.inj e).symm)⟩
  ne := h.ne
  kd := h.kd
  bd := List.pairwise_cons.2 ⟨hf, h.bd⟩
  sz := by
    have := h.sz
    simp at this ⊢
    exact this
/-- .. is taken out -/
theorem Jok.gone {sd : Int} {t : Tg} {A : List Tg} {C : List Cl} (h : Jok sd (t :: A) C (some t.b)) : Jok sd A C none where
  to u hu _ := h.to u (List.mem_cons_of_mem _ hu) (fun e => (List.pairwise_cons.1 h.bd).1 u hu (Option.some.inj e).symm)
  fro d hd i b hib := by
    obtain ⟨u, hu, h1, h2, h3, h4⟩ := h.fro d hd i b hib
    rcases List.mem_cons.1 hu with rfl | hu
    · exact absurd (by rw [h1]) h4
    · exact ⟨u, hu, h1, h2, h3, nofun⟩
  ne := h.ne
  kd := h.kd
  bd := (List.pairwise_cons.1 h.bd).2
  sz := by
    have := h.sz
    simp at this ⊢
    exact this
set_option maxRecDepth 100000 in
theorem Jok.nil (sd : Int) : Jok sd [] [] none := ⟨nofun, nofun, nofun, List.Pairwise.nil, List.Pairwise.nil, rfl⟩
set_option maxRecDepth 100000 in
theorem lens_ge (C : List Cl) (h : ∀ c ∈ C, c.L ≠ []) : C.length ≤ lens C := by
  induction C with
  | nil => simp [lens]
  | cons c D ih =>
    rw [lens_cons, List.length_cons]
    have h1 := ih (fun d hd => h d (List.mem_cons_of_mem _ hd))
    have h2 : c.L.length ≠ 0 := fun e => h c (List.mem_cons_self ..) (List.eq_nil_of_length_eq_zero e)
    omega
set_option maxRecDepth 100000 in
theorem lens_mem {C : List Cl} {c : Cl} (h : c ∈ C) : c.L.length ≤ lens C := by
  induction C with
  | nil => cases h
  | cons d D ih =>
    rw [lens_cons]
    rcases List.mem_cons.1 h with rfl | h
    · omega
    · have := ih h; omega
set_option maxRecDepth 100000 in
theorem Jok.few {sd : Int} {A : List Tg} {C : List Cl} {o : Option Nat} (h : Jok sd A C o) : C.length ≤ A.length := by
  have h1 := lens_ge C h.ne
  have h2 := h.sz
  split at h2 <;> omega
set_option maxRecDepth 100000 in
theorem Jok.cellLen {sd : Int} {A : List Tg} {C : List Cl} {o : Option Nat} (h : Jok sd A C o) {c : Cl} (hc : c ∈ C) : c.L.length ≤ A.length := by
  have h1 := lens_mem hc
  have h2 := h.sz
  split at h2 <;> omega
end Go.Proofs.YtgedlabmndlooaaGreat
