import Derived.Test.YtplcicbpkbamnabGreatDoorX33
/- LobbyPlays: accounts that are taken, one by one -/
namespace Go.Proofs.YtplcicbpkbamnabGreatDoor.Lo
open Go Go.RowKit Go.Maps

set_option maxRecDepth 100000 in
theorem cpyS_some {A B : List Ac} {p : Pr} (h : cpyS A p = some B) : B = A ++ [acOf p] ∧ fdI A p.1 = none ∧ Na.chkOK p.1 = true ∧ p.2.size = 32 := by
  unfold cpyS at h
  split at h
  · cases h
  · rename_i hq
    refine ⟨(Option.some.inj h).symm, ?_, Decidable.byContradiction fun e => hq (.inr (.inl e)), Decidable.byContradiction fun e => hq (.inr (.inr e))⟩
    cases hf : fdI A p.1 with
    | none => rfl
    | some i => exact absurd (.inl (by rw [hf]; rfl)) hq
set_option maxRecDepth 100000 in
theorem cpy_all : ∀ (P : List Pr) (A B : List Ac), cpy A P = some B → B = A ++ P.map acOf ∧ ∀ i p, P[i]? = some p → fdI (A ++ (P.take i).map acOf) p.1 = none ∧ Na.chkOK p.1 = true ∧ p.2.size = 32
  | [], A, B, h => ⟨by simpa [cpy] using h.symm, fun i p hp => by simp at hp⟩
  | q :: r, A, B, h => by
    unfold cpy at h
    split at h
    · cases h
    · rename_i C hC
      obtain ⟨rfl, h1, h2, h3⟩ := cpyS_some hC
      obtain ⟨e, hr⟩ := cpy_all r _ B h
      refine ⟨by rw [e, List.append_assoc]; rfl, fun i p hp => ?_⟩
      cases i with
      | zero =>
        obtain rfl : q = p := by simpa using hp
        exact ⟨by simpa using h1, h2, h3⟩
      | succ i =>
        obtain ⟨g1, g2, g3⟩ := hr i p (by simpa using hp)
        refine ⟨?_, g2, g3⟩
        rw [List.take_succ_cons, List.map_cons]
        rw [List.append_assoc] at g1
        exact g1
/-- one name is found, and its secret told -/
theorem new_at {c : Cf} {P : List Pr} {X : Lb} (h : newL c P = some X) {i : Nat} {p : Pr} (hp : P[i]? = some p) : (fdI X.A p.1).isSome = true ∧ secS X p.1 = p.2 ∧ p.1.size ≤ 281474976710656 := by
  unfold newL at h
  split at h
  · obtain ⟨A, hA, rfl⟩ := Option.map_eq_some_iff.1 h
    unfold cpyL at hA
    split at hA
    · cases hA
    · obtain ⟨e, hr⟩ := cpy_all P [] A hA
      obtain ⟨h1, h2, h3⟩ := hr i p hp
      have hlt := (List.getElem?_eq_some_iff.1 hp).1
      have hsp : A = (P.take i).map acOf ++ (acOf p :: (P.drop (i + 1)).map acOf) := by
        rw [e, List.nil_append, ← List.map_cons, ← List.map_append]
        congr 1
        have h9 : P.drop i = p :: P.drop (i + 1) := by rw [List.drop_eq_getElem_cons hlt, (List.getElem?_eq_some_iff.1 hp).2]
        rw [← h9, List.take_append_drop]
      have hl : ((P.take i).map acOf).length = i := by simp; omega
      have hf : fdI A p.1 = some i := by
        have h1' : ((P.take i).map acOf).findIdx? (fun a => same a p.1) = none := by
          unfold fdI at h1
          rw [if_pos h2] at h1
          simpa using h1
        unfold fdI
        rw [if_pos h2, hsp, List.findIdx?_append, h1', List.findIdx?_cons]
        have hs : same (acOf p) p.1 = true := by simp [same, acOf]
        rw [hs, hl]; simp
      have hc : p.1.size ≤ 24 := by
        have := h2
        unfold Na.chkOK at this
        simp only [Bool.and_eq_true, decide_eq_true_eq] at this
        exact this.1.1.2
      refine ⟨by show (fdI A p.1).isSome = true; rw [hf]; rfl, ?_, by omega⟩
      unfold secS
      simp only [hf]
      have hg : A[i]? = some (acOf p) := by
        rw [hsp, List.getElem?_append_right (by omega), hl, Nat.sub_self]; rfl
      simp only [hg, Option.map_some, Option.getD_some]
      simp [txt, Na.sl, acOf]
  · cases h
set_option maxRecDepth 100000 in
theorem new_empty {c : Cf} {P : List Pr} {X : Lb} (_h : newL c P = some X) : (fdI X.A ⟨#[]⟩).isSome = false := by
  have : Na.chkOK ⟨#[]⟩ = false := by simp [Na.chkOK, ByteArray.size]
  unfold fdI; rw [this]; simp
/-- where the reference's New stands: so many accounts are fine -/
def Gd (P : List Pr) (i : Nat) : Prop := cpy [] P = cpy ((P.take i).map acOf) (P.drop i)
set_option maxRecDepth 100000 in
theorem Gd.zero (P : List Pr) : Gd P 0 := by simp [Gd]
set_option maxRecDepth 100000 in
theorem Gd.step {P : List Pr} {i : Nat} {p : Pr} (h : Gd P i) (hp : P[i]? = some p) (h1 : Na.chkOK p.1 = true) (h2 : p.2.size = 32) (h3 : ∀ k z, k < i → P[k]? = some z → decide (Na.foldL (Na.sl p.1) = Na.foldL (Na.sl z.1)) = false) : Gd P (i + 1) := by
  unfold Gd at h ⊢
  rw [h, cpy_step hp]
  have hf : fdI ((P.take i).map acOf) p.1 = none := by
    unfold fdI
    rw [if_pos h1, List.findIdx?_eq_none_iff]
    intro a ha
    obtain ⟨z, hz, rfl⟩ := List.mem_map.1 ha
    obtain ⟨k, hk, hkz⟩ := List.getElem_of_mem hz
    rw [List.getElem_take] at hkz
    rw [List.length_take] at hk
    have := h3 k z (by omega) (by rw [List.getElem?_eq_getElem (by omega), hkz])
    simp only [decide_eq_false_iff_not] at this
    exact decide_eq_false (fun e => this e.symm)
  have hs : cpyS ((P.take i).map acOf) p = some ((P.take i).map acOf ++ [acOf p]) := by
    unfold cpyS
    rw [if_neg (fun q => by
      rcases q with q | q | q
      · rw [hf] at q; cases q
      · exact q h1
      · exact q h2)]
    rfl
  rw [hs, List.take_add_one, hp, List.map_append]
  rfl
set_option maxRecDepth 100000 in
theorem Gd.bad {P : List Pr} {i : Nat} {p : Pr} (h : Gd P i) (hp : P[i]? = some p) (hb : ¬ Na.chkOK p.1 = true ∨ p.2.size ≠ 32 ∨ ∃ k z, k < i ∧ P[k]? = some z ∧ decide (Na.foldL (Na.sl p.1) = Na.foldL (Na.sl z.1)) = true) : cpy [] P = none := by
  unfold Gd at h
  rw [h, cpy_step hp]
  have hs : cpyS ((P.take i).map acOf) p = none := by
    unfold cpyS
    refine if_pos ?_
    by_cases h1 : Na.chkOK p.1 = true
    · rcases hb with q | q | ⟨k, z, hk, hz, e⟩
      · exact absurd h1 q
      · exact .inr (.inr q)
      · refine .inl ?_
        unfold fdI
        rw [if_pos h1]
        cases hf : ((P.take i).map acOf).findIdx? (fun a => same a p.1) with
        | some j => rfl
        | none =>
          rw [List.findIdx?_eq_none_iff] at hf
          have hm : acOf z ∈ (P.take i).map acOf := List.mem_map.2 ⟨z, List.mem_of_getElem? (i := k) (by rw [List.getElem?_take, if_pos hk]; exact hz), rfl⟩
          have := hf _ hm
          exact absurd (of_decide_eq_true e).symm (of_decide_eq_false this)
    · exact .inr (.inl h1)
  rw [hs]
set_option maxRecDepth 100000 in
theorem Gd.all {P : List Pr} {i : Nat} (h : Gd P i) (hi : P.length ≤ i) : ∃ A, cpy [] P = some A := by
  unfold Gd at h
  rw [h, List.drop_of_length_le hi]
  exact ⟨_, rfl⟩
end Go.Proofs.YtplcicbpkbamnabGreatDoor.Lo

