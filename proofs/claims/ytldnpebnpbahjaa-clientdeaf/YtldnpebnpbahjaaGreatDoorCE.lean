import Derived.Test.YtldnpebnpbahjaaGreatDoorCK
/- strings as they are handed in: how long they are -/
namespace Go.Proofs.YtldnpebnpbahjaaGreatDoor
open Go Go.ChangeShapes Go.WideShapes Go.ChangeAt Go.RowKit Pk.Sn

theorem all_mem {H : Type} {P : Program} {t : TypeId} : ∀ {ds : List (DataW H)} {d : DataW H}, d ∈ ds → ∀ x ∈ d.weights P t, x ∈ DataW.weightsAll P t ds
  | d0 :: ds, d, h, x, hx => by
    simp only [DataW.weightsAll, List.mem_append]
    rcases List.mem_cons.1 h with rfl | h
    · exact Or.inl hx
    · exact Or.inr (all_mem h x hx)
theorem strs_small {H : Type} {enc : TypeId × Value → H} {W : World} {a0 : Option Addr} {n0 c0 fuel : Nat} {d : DataW H} {pl : List MemPlace} {ts : List TypeId} {ds : List (DataW H)} (hf : DataW.trod enc Tryz.prog W 0 (fun _ => true) true fuel 58 (Value.slice a0 n0 c0).cells.toList = some (d, pl))
    (hsz : (DataW.weightsEach Tryz.prog ts ds).all (· ≤ reachBytes) = true) {i : Nat} (ht : ts[i]? = some 58) (hd : ds[i]? = some d) :
    ∃ ps : List ByteArray, Strs W a0 n0 ps ∧ ∀ (j : Nat) (p : ByteArray), ps[j]? = some p → p.size ≤ 140737488355328 := by
  have hlt := reachBytes_lt
  rcases Deep.open_strs under22' under9 cells9 hf with ⟨hcs, hx⟩ | ⟨a, len, cap, m, Sx, hcs, _, hl, _, hm, hx, hc⟩
  · have e : Value.slice a0 n0 c0 = Value.slice none 0 0 := by simpa [Value.cells] using hcs
    injection e with e1 e2 e3
    subst e1 e2 e3
    exact ⟨[], ⟨rfl, fun h => by omega⟩, fun j p h => by simp at h⟩
  · have e : Value.slice a0 n0 c0 = Value.slice (some a) len cap := by simpa [Value.cells] using hcs
    injection e with e1 e2 e3
    subst e1 e2 e3
    simp only [if_true] at hm
    simp only [Prod.mk.injEq] at hx
    have at_ : ∀ j p, ((List.range n0).map Sx)[j]? = some p → j < n0 ∧ Sx j = p := fun j p hp => by
      have hj : j < n0 := by have := (List.getElem?_eq_some_iff.1 hp).1; simpa using this
      refine ⟨hj, ?_⟩
      have : ((List.range n0).map Sx)[j]? = some (Sx j) := by rw [List.getElem?_map, List.getElem?_range hj]; rfl
      rw [this] at hp; exact Option.some.inj hp
    refine ⟨(List.range n0).map Sx, ⟨by simp, fun hn => ?_⟩, fun j p hp => ?_⟩
    · have h0 := (hc 0 (by omega)).1
      obtain ⟨b, off, rfl⟩ : ∃ b off, a = ⟨b, off, none⟩ := by
        obtain ⟨b, off, bt⟩ := a
        cases bt with
        | none => exact ⟨b, off, rfl⟩
        | some x =>
          exfalso
          simp [World.cell?, Addr.add] at h0
          split at h0 <;> cases h0
      refine ⟨b, off, rfl, fun j p hp => ?_⟩
      obtain ⟨hj, e2⟩ := at_ j p hp
      have := (hc j (by omega)).1
      rw [Addr.add_mid] at this
      rw [this, e2]
    · obtain ⟨hj, e2⟩ := at_ j p hp
      have hmem : (DataW.lit (.string (Sx j).data.toList) : DataW H) ∈ (List.range n0).map fun i => DataW.lit (.string (Sx i).data.toList) := List.mem_map.2 ⟨j, List.mem_range.2 hj, rfl⟩
      have h1 : (Sx j).data.toList.length ∈ DataW.weightsEach Tryz.prog ts ds := by
        refine DataW.weights_mem_each ht hd _ ?_
        rw [hx.1]
        simp only [DataW.weights, under22', List.mem_cons, List.mem_append]
        exact Or.inr (Or.inl (all_mem hmem _ (by simp [DataW.weights])))
      have h2 := List.all_eq_true.1 hsz _ h1
      have h3 : (Sx j).data.toList.length ≤ reachBytes := by simpa using h2
      have e4 : (Sx j).data.toList.length = (Sx j).size := sl_len (Sx j)
      rw [← e2]
      omega
end Go.Proofs.YtldnpebnpbahjaaGreatDoor
