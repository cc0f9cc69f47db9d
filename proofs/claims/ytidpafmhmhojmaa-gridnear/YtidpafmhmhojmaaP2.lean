/- what GridNear asks of near and nearest ones. -/
import Derived.Test.YtidpafmhmhojmaaL3
namespace Go.Proofs.Ytidpafmhmhojmaa
open Go Go.RowKit

def PlOk (M : List Pl) : Prop := Srt M ∧ ∀ p ∈ M, I64 p.id ∧ I64 p.x ∧ I64 p.y
theorem PlOk.nil : PlOk [] := ⟨List.Pairwise.nil, nofun⟩
theorem PlOk.put {M : List Pl} (h : PlOk M) {t : Pl} (ht : I64 t.id ∧ I64 t.x ∧ I64 t.y) : PlOk (putM M t) := by
  refine ⟨h.1.put t, fun p hp => ?_⟩
  rcases mem_ins.1 hp with rfl | hp
  · exact ht
  · exact h.2 p (List.mem_filter.1 hp).1
theorem look_ok {M : List Pl} {k : Int} (h : (look M k).isSome = true) : ∃ p ∈ M, p.id = k ∧ look M k = some p := by
  obtain ⟨p, hp⟩ := Option.isSome_iff_exists.1 h
  obtain ⟨h1, h2⟩ := look_mem hp
  exact ⟨p, h1, h2, hp⟩
theorem at_of {M : List Pl} {k : Int} {p : Pl} (h : look M k = some p) : atX M k = p.x ∧ atY M k = p.y ∧ atB M k = true := by
  unfold atX atY atB
  rw [h]
  exact ⟨rfl, rfl, rfl⟩
theorem nrL_srt {M : List Pl} (h : Srt M) (x y r : Int) : (nrL M x y r).Pairwise (· < ·) := by
  unfold nrL
  rw [List.pairwise_map]
  exact nr_srt h x y r
theorem nrL_mem {M : List Pl} (h : Srt M) (x y r : Int) {p : Pl} (hp : p ∈ M) : p.id ∈ nrL M x y r ↔ wn (d2 x y p.x p.y) r = true := by
  unfold nrL nr
  rw [List.mem_map]
  constructor
  · rintro ⟨q, hq, e⟩
    obtain ⟨q1, q2⟩ := List.mem_filter.1 hq
    have e1 := look_of h.ne hp
    have e2 := look_of h.ne q1
    rw [e, e1] at e2
    rw [Option.some.inj e2]
    exact q2
  · intro hw
    exact ⟨p, List.mem_filter.2 ⟨hp, hw⟩, rfl⟩
/-- how often a number stands among the first -/
def cnt (K : List Int) (k : Int) (j : Nat) : Nat := (K.take j).count k
theorem cnt_zero (K : List Int) (k : Int) : cnt K k 0 = 0 := by simp [cnt]
theorem cnt_succ {K : List Int} {k z : Int} {j : Nat} (h : K[j]? = some z) : cnt K k (j + 1) = cnt K k j + (if z = k then 1 else 0) := by
  unfold cnt
  rw [List.take_add_one, h, Option.toList, List.count_append, List.count_singleton]
  by_cases e : z = k <;> simp [e]
theorem cnt_le {K : List Int} (k : Int) (j : Nat) : cnt K k j ≤ j := Nat.le_trans List.count_le_length (by rw [List.length_take]; omega)
theorem cnt_all {K : List Int} (hs : K.Pairwise (· < ·)) (k : Int) {n : Nat} (hn : K.length = n) : cnt K k n = if k ∈ K then 1 else 0 := by
  unfold cnt
  rw [List.take_of_length_le (by omega)]
  by_cases h : k ∈ K
  · rw [if_pos h]
    obtain ⟨A, B, rfl⟩ := List.append_of_mem h
    obtain ⟨_, h2, h3⟩ := List.pairwise_append.1 hs
    obtain ⟨h4, _⟩ := List.pairwise_cons.1 h2
    rw [List.count_append, List.count_cons_self, List.count_eq_zero_of_not_mem (fun q => by have := h3 k q k (List.mem_cons_self ..); omega), List.count_eq_zero_of_not_mem (fun q => by have := h4 k q; omega)]
  · rw [if_neg h, List.count_eq_zero_of_not_mem h]
theorem nst_len (M : List Pl) (x y r n : Int) : (nstL M x y r n).length = min n.toNat (nrL M x y r).length := by
  unfold nstL nst nrL
  rw [List.length_map, List.length_take, (srtD_perm x y _).length_eq, List.length_map]
/-- all of the nearest -/
theorem nst_all (M : List Pl) (x y r n : Int) (h : ((nrL M x y r).length : Int) ≤ n) : nstL M x y r n = (srtD x y (nr M x y r)).map (·.id) := by
  unfold nstL nst
  rw [List.take_of_length_le]
  rw [(srtD_perm x y _).length_eq]
  unfold nrL at h
  rw [List.length_map] at h
  omega
theorem nst_at {M : List Pl} {x y r n m z : Int} {j : Nat} (h : (nstL M x y r n)[j]? = some z) (hm : ((nrL M x y r).length : Int) ≤ m) : (nstL M x y r m)[j]? = some z := by
  rw [nst_all M x y r m hm]
  unfold nstL nst at h
  rw [List.getElem?_map, List.getElem?_take] at h
  rw [List.getElem?_map]
  split at h
  · exact h
  · cases h
theorem far_at {M : List Pl} (hs : Srt M) {x y r m z : Int} {j : Nat} (hm : ((nrL M x y r).length : Int) ≤ m) (h : (nstL M x y r m)[j]? = some z) : ∃ p ∈ M, p.id = z ∧ look M z = some p ∧ wn (d2 x y p.x p.y) r = true := by
  rw [nst_all M x y r m hm, List.getElem?_map] at h
  cases hp : (srtD x y (nr M x y r))[j]? with
  | none => rw [hp] at h; cases h
  | some p =>
    rw [hp] at h
    have e : p.id = z := Option.some.inj h
    have h1 := (srtD_perm x y _).mem_iff.1 (List.mem_of_getElem? hp)
    obtain ⟨h2, h3⟩ := List.mem_filter.1 h1
    refine ⟨p, h2, e, ?_, h3⟩
    rw [← e]
    exact look_of hs.ne h2
theorem far_two {M : List Pl} (hs : Srt M) {x y r m z w : Int} {j : Nat} (hm : ((nrL M x y r).length : Int) ≤ m) (h : (nstL M x y r m)[j]? = some z) (h2 : (nstL M x y r m)[j + 1]? = some w) {p q : Pl} (hp : look M z = some p) (hq : look M w = some q) : d2 x y p.x p.y < d2 x y q.x q.y ∨ (d2 x y p.x p.y = d2 x y q.x q.y ∧ z < w) := by
  rw [nst_all M x y r m hm, List.getElem?_map] at h h2
  have hsr := srtD_srt x y (nr M x y r) (nr_srt hs x y r).ne
  cases e1 : (srtD x y (nr M x y r))[j]? with
  | none => rw [e1] at h; cases h
  | some p' =>
    cases e2 : (srtD x y (nr M x y r))[j + 1]? with
    | none => rw [e2] at h2; cases h2
    | some q' =>
      rw [e1] at h
      rw [e2] at h2
      have i1 : p'.id = z := Option.some.inj h
      have i2 : q'.id = w := Option.some.inj h2
      have m1 := (List.mem_filter.1 ((srtD_perm x y _).mem_iff.1 (List.mem_of_getElem? e1))).1
      have m2 := (List.mem_filter.1 ((srtD_perm x y _).mem_iff.1 (List.mem_of_getElem? e2))).1
      have k1 := look_of hs.ne m1
      have k2 := look_of hs.ne m2
      rw [i1, hp] at k1
      rw [i2, hq] at k2
      have k1 := Option.some.inj k1
      have k2 := Option.some.inj k2
      subst k1 k2
      obtain ⟨l1, g1⟩ := List.getElem?_eq_some_iff.1 e1
      obtain ⟨l2, g2⟩ := List.getElem?_eq_some_iff.1 e2
      have := (List.pairwise_iff_getElem.1 hsr) j (j + 1) l1 l2 (by omega)
      rw [g1, g2] at this
      unfold ahd at this
      rw [i1, i2] at this
      exact this
end Go.Proofs.Ytidpafmhmhojmaa
