/- TableTurns over lists. -/
import Derived.Test.YtkaakbldkicnaaaP0
namespace Go.Proofs.Ytkaakbldkicnaaa
namespace Tb
abbrev KI := List (ByteArray × Int)
/-- each thing is the number of a place where its key stands -/
def Num (K : List ByteArray) (i : Nat) (L : KI) : Prop := ∀ p ∈ L, ∃ j : Nat, p.2 = (j : Int) ∧ j < i ∧ K[j]? = some p.1
theorem Num.put {K : List ByteArray} {i sz : Nat} {L : KI} (h : Num K i L) (hl : L.length ≤ i) (hs : i < sz) (k : ByteArray) (hk : K[i]? = some k) (hn : (keys L).Nodup) : Num K (i + 1) (putL sz L k i) ∧ (putL sz L k i).length ≤ i + 1 := by
  have hv : ∀ p ∈ L, ∃ j : Nat, p.2 = (j : Int) ∧ j < i + 1 ∧ K[j]? = some p.1 := fun p hp => by
    obtain ⟨j, q1, q2, q3⟩ := h p hp
    exact ⟨j, q1, by omega, q3⟩
  have hnew : ∀ p, p = (k, (i : Int)) → ∃ j : Nat, p.2 = (j : Int) ∧ j < i + 1 ∧ K[j]? = some p.1 := fun p e => ⟨i, by rw [e], by omega, by rw [e]; exact hk⟩
  unfold putL
  split
  · rename_i hs
    obtain ⟨x, hx⟩ := Option.isSome_iff_exists.1 hs
    refine ⟨fun p hp => ?_, by have := rm_len hn hx; simp; omega⟩
    rcases List.mem_append.1 hp with hp | hp
    · exact hv p (List.mem_filter.1 hp).1
    · exact hnew p (List.mem_singleton.1 hp)
  · rw [if_neg (by omega)]
    refine ⟨fun p hp => ?_, by simp; omega⟩
    rcases List.mem_append.1 hp with hp | hp
    · exact hv p hp
    · exact hnew p (List.mem_singleton.1 hp)
/-- the first i things are changed by g -/
def upto (g : Int → Int) (L : KI) (i : Nat) : KI := (L.take i).map (fun p => (p.1, g p.2)) ++ L.drop i
theorem upto_zero (g : Int → Int) (L : KI) : upto g L 0 = L := by simp [upto]
theorem upto_all (g : Int → Int) (L : KI) : upto g L L.length = L.map (fun p => (p.1, g p.2)) := by simp [upto]
theorem upto_keys (g : Int → Int) (L : KI) (i : Nat) : keys (upto g L i) = keys L := by
  unfold upto keys
  rw [List.map_append, List.map_map]
  conv => rhs; rw [← List.take_append_drop i L, List.map_append]
  rfl
theorem upto_mid {g : Int → Int} {L : KI} {i : Nat} {p : ByteArray × Int} (hp : L[i]? = some p) : upto g L i = (L.take i).map (fun p => (p.1, g p.2)) ++ (p.1, p.2) :: L.drop (i + 1) ∧ upto g L (i + 1) = (L.take i).map (fun p => (p.1, g p.2)) ++ (p.1, g p.2) :: L.drop (i + 1) := by
  obtain ⟨hi, e⟩ := List.getElem?_eq_some_iff.1 hp
  unfold upto
  rw [List.drop_eq_getElem_cons hi, List.take_succ_eq_append_getElem hi, e]
  simp
theorem upto_step {g : Int → Int} {L : KI} {i : Nat} {p : ByteArray × Int} (hp : L[i]? = some p) (hn : (keys L).Nodup) : look (upto g L i) p.1 = some p.2 ∧ setL (upto g L i) p.1 (g p.2) = upto g L (i + 1) := by
  obtain ⟨e1, e2⟩ := upto_mid (g := g) hp
  have hn1 : (keys (upto g L i)).Nodup := by rw [upto_keys]; exact hn
  rw [e1] at hn1 ⊢
  obtain ⟨h1, h2, _⟩ := nodup_mid hn1
  exact ⟨look_mid h1, by rw [setL_mid h1 h2, e2]⟩
/-- behind i turns of the second function: the key D is gone at its turn, f is put at the first one -/
def dn (g : Int → Int) (D f : ByteArray) (L : KI) (i : Nat) : KI := rm ((L.take i).map (fun p => (p.1, g p.2))) D ++ L.drop i ++ (if i = 0 then [] else [(f, 5)])
theorem dn_zero (g : Int → Int) (D f : ByteArray) (L : KI) : dn g D f L 0 = L := by simp [dn, rm]
theorem rm_app' {V : Type} (A C : List (ByteArray × V)) (k : ByteArray) : rm (A ++ C) k = rm A k ++ rm C k := List.filter_append ..
theorem keys_take_map (g : Int → Int) (L : KI) (i : Nat) : keys ((L.take i).map (fun p => (p.1, g p.2))) = (keys L).take i := by simp [keys, Function.comp_def]
section
variable {g : Int → Int} {D f : ByteArray} {L : KI} {i : Nat} {p : ByteArray × Int}
/-- the parts about the turn's key -/
theorem dn_mid (hp : L[i]? = some p) : dn g D f L i = rm ((L.take i).map (fun p => (p.1, g p.2))) D ++ (p.1, p.2) :: (L.drop (i + 1) ++ (if i = 0 then [] else [(f, 5)])) := by
  obtain ⟨hi, e⟩ := List.getElem?_eq_some_iff.1 hp
  unfold dn
  rw [List.drop_eq_getElem_cons hi, e]
  simp
theorem dn_next (hp : L[i]? = some p) : dn g D f L (i + 1) = rm ((L.take i).map (fun p => (p.1, g p.2))) D ++ (if p.1 = D then [] else [(p.1, g p.2)]) ++ L.drop (i + 1) ++ [(f, 5)] := by
  obtain ⟨hi, e⟩ := List.getElem?_eq_some_iff.1 hp
  unfold dn
  rw [List.take_succ_eq_append_getElem hi, e, List.map_append, rm_app', if_neg (by omega)]
  congr 3
  by_cases h : p.1 = D
  · simp [rm, h]
  · simp [rm, h]
theorem dn_fresh (hp : L[i]? = some p) (hn : (keys L).Nodup) (hf : f ∉ keys L) : p.1 ∉ keys (rm ((L.take i).map (fun p => (p.1, g p.2))) D) ∧ p.1 ∉ keys (L.drop (i + 1)) ∧ p.1 ≠ f := by
  obtain ⟨hi, e⟩ := List.getElem?_eq_some_iff.1 hp
  have hL : keys L = (keys L).take i ++ p.1 :: keys (L.drop (i + 1)) := by
    conv => lhs; rw [← List.take_append_drop i L, List.drop_eq_getElem_cons hi, e]
    simp [keys]
  rw [hL] at hn
  obtain ⟨h1, h2, h3⟩ := List.nodup_append.1 hn
  obtain ⟨h4, _⟩ := List.nodup_cons.1 h2
  refine ⟨fun q => ?_, h4, fun q => hf ?_⟩
  · have := (keys_rm_sub _ _).subset q
    rw [keys_take_map] at this
    exact h3 p.1 this p.1 (by simp) rfl
  · rw [← q]; exact List.mem_map_of_mem (List.mem_of_getElem? hp)
theorem dn_look (hp : L[i]? = some p) (hn : (keys L).Nodup) (hf : f ∉ keys L) : look (dn g D f L i) p.1 = some p.2 := by
  rw [dn_mid hp]; exact look_mid (dn_fresh hp hn hf).1
theorem dn_rest (hp : L[i]? = some p) (hn : (keys L).Nodup) (hf : f ∉ keys L) : p.1 ∉ keys (L.drop (i + 1) ++ (if i = 0 then [] else [(f, (5 : Int))])) := by
  obtain ⟨_, h2, h3⟩ := dn_fresh (g := id) (D := ⟨#[]⟩) hp hn hf
  intro q
  rw [keys, List.map_append] at q
  rcases List.mem_append.1 q with q | q
  · exact h2 q
  · split at q
    · cases q
    · simp at q; exact h3 q
/-- what one turn leaves -/
theorem dn_step {sz : Nat} (hp : L[i]? = some p) (hn : (keys L).Nodup) (hf : f ∉ keys L) (hs : L.length < sz) :
    setL (if i = 0 then putL sz (if p.1 = D then rm (dn g D f L i) D else dn g D f L i) f 5 else (if p.1 = D then rm (dn g D f L i) D else dn g D f L i)) p.1 (g p.2) = dn g D f L (i + 1) := by
  have hA := (dn_fresh (g := g) (D := D) hp hn hf).1
  have hC := dn_rest hp hn hf
  obtain ⟨_, hC2, hpf⟩ := dn_fresh (g := g) (D := D) hp hn hf
  by_cases hD : p.1 = D
  · have e1 : rm (dn g D f L i) D = rm ((L.take i).map (fun p => (p.1, g p.2))) D ++ (L.drop (i + 1) ++ (if i = 0 then [] else [(f, 5)])) := by
      rw [dn_mid hp, ← hD]
      exact rm_mid (by rw [hD] at hA ⊢; exact hA) hC
    rw [if_pos hD, e1, dn_next hp, if_pos hD]
    by_cases h0 : i = 0
    · subst h0
      have hlk : look (rm ((L.take 0).map (fun p => (p.1, g p.2))) D ++ (L.drop (0 + 1) ++ [])) f = none := look_none.2 (fun q => hf (by
        have : (keys (rm ((L.take 0).map (fun p => (p.1, g p.2))) D ++ (L.drop (0 + 1) ++ []))) = keys (L.drop 1) := by simp [rm, keys]
        rw [this] at q
        exact ((List.drop_sublist 1 L).map _).subset q))
      simp only [if_true]
      unfold putL
      rw [hlk, if_neg (by simp), if_neg (by simp [rm]; omega)]
      rw [setL_none]
      · simp [rm]
      · intro q
        rw [keys, List.map_append] at q
        rcases List.mem_append.1 q with q | q
        · simp [rm] at q
          exact hC2 (by simpa [keys] using q)
        · simp at q; exact hpf q
    · simp only [h0, if_false]
      rw [setL_none]
      · simp
      · intro q
        rw [keys, List.map_append] at q
        rcases List.mem_append.1 q with q | q
        · exact hA q
        · simp only [h0, if_false] at hC
          exact hC q
  · rw [if_neg hD, dn_next hp, if_neg hD]
    by_cases h0 : i = 0
    · subst h0
      have hlk : look (dn g D f L 0) f = none := look_none.2 (by rw [dn_zero]; exact hf)
      simp only [if_true]
      unfold putL
      rw [hlk, if_neg (by simp), if_neg (by rw [dn_zero]; omega), dn_mid hp]
      simp only [if_true, List.append_nil]
      rw [List.append_assoc, List.cons_append, setL_mid hA]
      · simp
      · intro q
        rw [keys, List.map_append] at q
        rcases List.mem_append.1 q with q | q
        · exact hC2 q
        · simp at q; exact hpf q
    · simp only [h0, if_false]
      rw [dn_mid hp, setL_mid hA hC]
      simp [h0]
end
end Tb
end Go.Proofs.Ytkaakbldkicnaaa
