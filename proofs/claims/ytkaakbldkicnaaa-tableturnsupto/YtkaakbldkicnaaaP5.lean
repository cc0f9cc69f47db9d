/- TableTurns over lists: its end. -/
import Derived.Test.YtkaakbldkicnaaaP4
namespace Go.Proofs.Ytkaakbldkicnaaa
namespace Tb
abbrev newOne : ByteArray := ⟨#[97, 32, 110, 101, 119, 32, 111, 110, 101]⟩
def fsh (ks : List ByteArray) : Nat → ByteArray
  | 0 => newOne
  | j + 1 => fsh ks j ++ ks.getD j ⟨#[]⟩
theorem fsh_ge (ks : List ByteArray) : ∀ (j i : Nat), i < j → 9 + (ks.getD i ⟨#[]⟩).size ≤ (fsh ks j).size ∧ 9 ≤ (fsh ks j).size
  | 0, i, h => by omega
  | j + 1, i, h => by
    rw [fsh, ByteArray.size_append]
    have h9 : 9 ≤ (fsh ks j).size := by
      cases j with
      | zero => exact Nat.le_refl _
      | succ j => exact (fsh_ge ks (j + 1) 0 (by omega)).2
    by_cases e : i = j
    · subst e; omega
    · have := fsh_ge ks j i (by omega); omega
theorem fsh_le (ks : List ByteArray) (hk : ∀ k ∈ ks, k.size ≤ 1048576) : ∀ j, (fsh ks j).size ≤ 9 + j * 1048576
  | 0 => Nat.le_refl _
  | j + 1 => by
    rw [fsh, ByteArray.size_append]
    have h1 := fsh_le ks hk j
    have h2 : (ks.getD j ⟨#[]⟩).size ≤ 1048576 := by
      rw [List.getD]
      cases hq : ks[j]? with
      | none => exact Nat.zero_le _
      | some x => exact hk x (List.mem_of_getElem? hq)
    omega
theorem fsh_not {ks : List ByteArray} {f : ByteArray} (hf : (fsh ks ks.length).size ≤ f.size) : f ∉ ks := by
  intro h
  obtain ⟨i, hi, e⟩ := List.getElem_of_mem h
  have := (fsh_ge ks ks.length i hi).1
  rw [List.getD, List.getElem?_eq_getElem hi, Option.getD_some, e] at this
  omega
variable {g : Int → Int} {D f : ByteArray} {L : KI}
theorem dn_all (h : 1 ≤ L.length) : dn g D f L L.length = rm (L.map (fun p => (p.1, g p.2))) D ++ [(f, 5)] := by
  unfold dn
  rw [if_neg (by omega)]; simp
theorem keys_map (g : Int → Int) (L : KI) : keys (L.map (fun p => (p.1, g p.2))) = keys L := by simp [keys, Function.comp_def]
theorem dn_noD (h : 1 ≤ L.length) (hfD : f ≠ D) : look (dn g D f L L.length) D = none := by
  rw [dn_all h, look_none]
  intro q
  rw [keys, List.map_append] at q
  rcases List.mem_append.1 q with q | q
  · exact rm_keys q
  · simp at q; exact hfD q.symm
theorem dn_isF (h : 1 ≤ L.length) (hf : f ∉ keys L) : look (dn g D f L L.length) f = some 5 := by
  rw [dn_all h]
  refine look_mid (C := []) (fun q => hf ?_)
  have := (keys_rm_sub _ _).subset q
  rw [keys_map] at this
  exact this
theorem dn_len (h : 1 ≤ L.length) (hn : (keys L).Nodup) : (dn g D f L L.length).length + (if (look L D).isSome then 1 else 0) = L.length + 1 := by
  rw [dn_all h, List.length_append]
  have hk := keys_map g L
  have hn2 : (keys (L.map (fun p => (p.1, g p.2)))).Nodup := by rw [hk]; exact hn
  cases hq : look L D with
  | none =>
    have : D ∉ keys (L.map (fun p => (p.1, g p.2))) := by rw [hk]; exact look_none.1 hq
    rw [rm_none this]; simp
  | some x =>
    have hm : D ∈ keys (L.map (fun p => (p.1, g p.2))) := by
      rw [hk]
      exact Classical.byContradiction fun q => by rw [look_none.2 q] at hq; cases hq
    cases hq2 : look (L.map (fun p => (p.1, g p.2))) D with
    | none => exact absurd hm (look_none.1 hq2)
    | some y =>
      have := rm_len hn2 hq2
      rw [List.length_map] at this
      simp; omega
end Tb
end Go.Proofs.Ytkaakbldkicnaaa
