import Derived.Test.YtplcicbpkbamnaaDoorX12
/- lobby: what is known of a lobby stays so. -/
namespace Go.Proofs.YtplcicbpkbamnaaDoor.Lo
open Go Go.RowKit Go.Maps

theorem nums_upd {S1 : List Se} {k : Nat} {s' : Se} (hn : s'.num = k) : (S1.map fun s => if s.num = k then s' else s).map Se.num = S1.map Se.num := by
  rw [List.map_map]
  refine List.map_congr_left fun s _ => ?_
  simp only [Function.comp]
  split
  · rename_i e; rw [hn, e]
  · rfl
theorem LbOk.upd {X : Lb} {k : Nat} {s' : Se} (ok : LbOk X) (hn : s'.num = k) (hb : 1 ≤ s'.num ∧ s'.num < X.next ∧ s'.pl < X.most ∧ s'.key.length = 32 ∧ s'.acc < X.A.length ∧ s'.heard < 18446744073709551616 ∧ s'.high < 18446744073709551616 ∧ s'.sent < 18446744073709551616 ∧ s'.wh < 18446744073709551616 ∧ s'.wb < 18446744073709551616 ∧ 0 ≤ s'.y ∧ s'.y ≤ 16 * X.u ∧ s'.nm.size ≤ 281474976710656 ∧ s'.fr.size ≤ 281474976710656) : LbOk (upd X k s') := by
  refine ⟨ok.m1, ok.m2, ok.r, ok.a1, ok.a2, ok.n1, ok.n2, ?_, fun z hz => ?_, ?_⟩
  · show ((X.S.map fun s => if s.num = k then s' else s).map Se.num).Nodup
    rw [nums_upd hn]; exact ok.nd
  · obtain ⟨z0, hz0, e⟩ := List.mem_map.1 hz
    by_cases q : z0.num = k
    · rw [if_pos q] at e
      subst e
      exact hb
    · rw [if_neg q] at e
      subst e
      exact ok.s z0 hz0
  · show (X.S.map fun s => if s.num = k then s' else s).length ≤ X.most
    rw [List.length_map]; exact ok.le
theorem LbOk.del {X : Lb} {k : Nat} (ok : LbOk X) : LbOk (del X k) := by
  refine ⟨ok.m1, ok.m2, ok.r, ok.a1, ok.a2, ok.n1, ok.n2, ?_, fun z hz => ok.s z (List.mem_filter.1 hz).1, Nat.le_trans (List.length_filter_le ..) ok.le⟩
  exact ((List.filter_sublist (l := X.S)).map Se.num).nodup ok.nd
theorem fds_num {X : Lb} {k : Nat} {s : Se} (h : fds X k = some s) : s ∈ X.S ∧ s.num = k := by
  have := List.find?_some h
  simp only [decide_eq_true_eq] at this
  exact ⟨List.mem_of_find?_eq_some h, this⟩
theorem LbOk.sent {X : Lb} {k : Nat} (ok : LbOk X) : LbOk (sntX X k) := by
  unfold sntX
  cases hf : fds X k with
  | none => exact ok
  | some s =>
    obtain ⟨hm, hn⟩ := fds_num hf
    obtain ⟨b1, b2, b3, b4, b5, b6, b7, b8, b9, b10, b11, b12, b13, b14⟩ := ok.s s hm
    exact ok.upd (s' := snt s) hn ⟨b1, b2, b3, b4, b5, b6, b7, Nat.mod_lt _ (by omega), b9, b10, b11, b12, b13, b14⟩
theorem LbOk.leave {X : Lb} {k : Nat} (ok : LbOk X) : LbOk (levX X k) := by
  unfold levX
  cases hf : fds X k with
  | none => exact ok
  | some s => exact ok.del
theorem LbOk.acp {X : Lb} {k q tick : Nat} {cmd : Bool} (ok : LbOk X) (hq : q < 18446744073709551616) (ht : tick < 18446744073709551616) : LbOk (acpX X k q cmd tick) := by
  unfold acpX
  cases hf : fds X k with
  | none => exact ok
  | some s =>
    obtain ⟨hm, hn⟩ := fds_num hf
    obtain ⟨b1, b2, b3, b4, b5, b6, b7, b8, b9, b10, b11, b12, b13, b14⟩ := ok.s s hm
    show LbOk (Lo.upd X k (accE s q cmd tick))
    unfold accE
    by_cases hc : accC s q cmd = 0
    · rw [if_pos hc]
      refine ok.upd (s' := acc s q cmd tick) hn ⟨b1, b2, b3, b4, b5, ht, Wi.mkH_lt b9 hq, b8, Wi.mkH_lt b9 hq, Wi.mkB_lt b10, ?_, ?_, b13, b14⟩
      · show 0 ≤ (if cmd = true then s.y - 16 else s.y)
        by_cases e : cmd = true
        · rw [if_pos e]
          have h16 : ¬ s.y < 16 := fun z => by
            unfold accC at hc
            split at hc
            · omega
            · rw [if_pos ⟨e, z⟩] at hc
              omega
          omega
        · rw [if_neg e]; exact b11
      · show (if cmd = true then s.y - 16 else s.y) ≤ 16 * X.u
        by_cases e : cmd = true
        · rw [if_pos e]; omega
        · rw [if_neg e]; exact b12
    · rw [if_neg hc]
      exact ok.upd (s' := s) hn ⟨b1, b2, b3, b4, b5, b6, b7, b8, b9, b10, b11, b12, b13, b14⟩
end Go.Proofs.YtplcicbpkbamnaaDoor.Lo

