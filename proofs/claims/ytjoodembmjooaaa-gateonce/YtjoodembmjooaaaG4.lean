/- gate: sorting by Player. -/
import Derived.Test.YtjoodembmjooaaaLS1
import Derived.Test.YtjoodembmjooaaaG3
namespace Go.Proofs.Ytjoodembmjooaaa
open Go Go.RowKit Go.Maps Go.Shelf Go.Lib Go.Sort

theorem nan29 (a : Int) (W : World) : Calls Try.prog 29 #[.int .i64 a] W fun e w' => e = .returned (.bool false) ∧ w' = W := by
  go_enter Try.func29, Try.ntmps29
  go_wp2_with fail
  go_ret
  exact ⟨by simp, rfl⟩
set_option maxRecDepth 100000 in
set_option maxHeartbeats 4000000 in
theorem cmp23 (a b : Int) (W : World) : Calls Try.prog 23 #[.int .i64 a, .int .i64 b] W fun e w' => e = .returned (.int .i64 (Lib.compareInt a b)) ∧ w' = W := by
  by_cases h1 : a < b
  · have HE : Keep (Lib.compareInt a b = -1) := ⟨by unfold Lib.compareInt; simp [h1]⟩
    go_enter Try.func23, Try.ntmps23
    go_wp2_with (go_at_call 29; refine (nan29 _ _).mono ?_; rintro e w' ⟨rfl, rfl⟩)
    go_ret
    rw [HE.out]
    exact ⟨rfl, rfl⟩
  · by_cases h2 : b < a
    · have HE : Keep (Lib.compareInt a b = 1) := ⟨by unfold Lib.compareInt; simp [h1, h2]⟩
      go_enter Try.func23, Try.ntmps23
      go_wp2_with (go_at_call 29; refine (nan29 _ _).mono ?_; rintro e w' ⟨rfl, rfl⟩)
      go_ret
      rw [HE.out]
      exact ⟨rfl, rfl⟩
    · have HE : Keep (Lib.compareInt a b = 0) := ⟨by unfold Lib.compareInt; simp [h1, h2]⟩
      go_enter Try.func23, Try.ntmps23
      go_wp2_with (go_at_call 29; refine (nan29 _ _).mono ?_; rintro e w' ⟨rfl, rfl⟩)
      go_ret
      rw [HE.out]
      exact ⟨rfl, rfl⟩
/-- the order: by Player -/
def cfN (x y : Itn) : Int := Lib.compareInt x.pl y.pl
theorem ltN (x y : Itn) : ltOf cfN x y = decide (x.pl < y.pl) := by
  unfold ltOf cfN Lib.compareInt
  by_cases h1 : x.pl < y.pl
  · simp [h1]
  · by_cases h2 : y.pl < x.pl <;> simp [h1, h2]
theorem swoN : SWO (ltOf cfN) where
  irrefl x := by rw [ltN]; simp
  trans x y z h1 h2 := by rw [ltN] at *; simp at *; omega
  ntrans x y z h1 h2 := by rw [ltN] at *; simp at *; omega
set_option maxRecDepth 100000 in
set_option maxHeartbeats 4000000 in
theorem closure22 (x y : Itn) (W : World) : Calls Try.prog 22 #[.agg (itv x).toArray, .agg (itv y).toArray] W fun e w' => e = .returned (.int .i64 (cfN x y)) ∧ ∃ q os', w' = grow (W.drewN q) os' := by
  have hcon := fun W' => cmp23 x.pl y.pl W'
  show Calls Try.prog 22 #[.agg #[iv x.pl, iv x.th, iv x.tu, .bool x.fi, .bool x.bo], .agg #[iv y.pl, iv y.th, iv y.tu, .bool y.fi, .bool y.bo]] W _
  unfold cfN
  generalize Lib.compareInt x.pl y.pl = r at hcon ⊢
  go_enter Try.func22, Try.ntmps22
  go_wp2_with (go_at_call 23; refine (hcon _).mono ?_; rintro e w' ⟨rfl, rfl⟩)
  go_ret
  exact ⟨rfl, 0, _, by rw [alloc_eq_grow, alloc_eq_grow, grow_grow]; rfl⟩
theorem cmpLays22 (blk off size : Nat) (w : World) : CmpLays Try.prog 22 #[] itv 5 cfN blk off size w :=
  fun _ _ _ _ x y => closure22 x y _
theorem its_at : ∀ (L : List Itn) (t : Nat), t < L.length * 5 → (its L)[t]! = (itv (L.toArray[t / 5]!))[t % 5]!
  | [], t, h => by simp at h
  | a :: r, t, h => by
    have hl : (itv a).length = 5 := rfl
    have e : its (a :: r) = itv a ++ its r := by simp [its]
    rw [e]
    by_cases h5 : t < 5
    · rw [show t / 5 = 0 by omega, show t % 5 = t by omega]
      rw [List.getElem!_eq_getElem?_getD, List.getElem?_append_left (by omega), ← List.getElem!_eq_getElem?_getD]
      rfl
    · obtain ⟨u, rfl⟩ : ∃ u, t = u + 5 := ⟨t - 5, by omega⟩
      have hu : u < r.length * 5 := by rw [List.length_cons] at h; omega
      rw [show (u + 5) / 5 = u / 5 + 1 by omega, show (u + 5) % 5 = u % 5 by omega]
      rw [List.getElem!_eq_getElem?_getD, List.getElem?_append_right (by omega), hl, Nat.add_sub_cancel, ← List.getElem!_eq_getElem?_getD, its_at r u hu]
      simp
theorem flat_its (L : List Itn) : flatK itv 5 L.toArray = (its L).toArray := by
  refine ext_get! (by simp [its_len]) fun t ht => ?_
  have ht' : t < L.length * 5 := by simpa using ht
  rw [get_flatK _ _ _ t (by simpa using ht'), ← its_at L t ht']
  simp
theorem setMany_all (vs : List Value) (F : Array Value) (h : vs.length = F.size) : setMany F 0 vs = vs.toArray := by
  refine ext_get! (by simp [h]) fun t ht => ?_
  have ht' : t < F.size := by simpa using ht
  rw [get_setMany _ _ _ t ht', if_pos (by omega)]
  simp
theorem gr_grow (w : World) (os : Array Obj) : w.grownBy (grow w os) none :=
  ⟨rfl, rfl, rfl, by simp [grow], fun b hb _ => by simp [grow, Array.getElem?_append, hb]⟩
theorem gr_ahead (w : World) (n : Nat) : w.grownBy (Sort.ahead w n) none := ⟨rfl, rfl, rfl, Nat.le_refl _, fun _ _ _ => rfl⟩
theorem Sep.rowSets {w0 : World} {l : List As} {e : TypeId} {s g n c : Nat} : ∀ (vs : List Value) (A B : List Value) (W : World), vs.length = B.length → Sep w0 W (rowV e s (.slice (some ⟨g, 0, none⟩) n c) n (A ++ B) :: l) → Sep w0 (W.setCells g A.length vs) (rowV e s (.slice (some ⟨g, 0, none⟩) n c) n (A ++ vs) :: l)
  | [], A, B, W, hl, h => by
    obtain rfl : B = [] := List.eq_nil_of_length_eq_zero hl.symm
    exact h
  | v :: r, A, B, W, hl, h => by
    cases B with
    | nil => cases hl
    | cons b B =>
      have h2 := h.rowSet A.length v
      rw [List.set_append_right _ _ (Nat.le_refl _), Nat.sub_self, List.set_cons_zero] at h2
      rw [show A ++ v :: B = (A ++ [v]) ++ B by simp] at h2
      have h3 := Sep.rowSets r (A ++ [v]) B _ (by simpa using hl) h2
      rw [List.length_append, List.append_assoc] at h3
      exact h3
theorem sort_c : SortC := by
  intro w0 W l g c L hm h
  have ho := h.rowGet k0m
  have hoo := ho
  obtain ⟨hlen, h2⟩ := ho
  have hx : g < W.heap.size ∧ ∀ (k : Nat) t, (its L)[k]? = some t → W.cell? ⟨g, k, none⟩ = some t ∧ W.frozen? ⟨g, k, none⟩ = false := by
    by_cases hL : 0 < L.length
    · obtain ⟨g', c', e, hc⟩ := own_any hoo hL
      injection e with e1 e2 e3
      injection e1 with e1
      injection e1 with e1
      subst e1
      refine ⟨?_, hc⟩
      rcases h2 with ⟨q, _⟩ | ⟨g', cap, cur, q, _, hh, _⟩
      · cases q
      · injection q with e1 e2 e3
        cases e1
        exact (Array.getElem?_eq_some_iff.1 hh).1
    · obtain rfl : L = [] := List.eq_nil_of_length_eq_zero (by omega)
      refine ⟨?_, fun k t hk => by cases hk⟩
      rcases h2 with ⟨q, _⟩ | ⟨g', cap, cur, q, _, hh, _⟩
      · cases q
      · injection q with e1 e2 e3
        cases e1
        exact (Array.getElem?_eq_some_iff.1 hh).1
  obtain ⟨hblk, hc⟩ := hx
  have hH : HoldsK itv 5 W g 0 L.toArray := by
    intro j hj
    rw [flat_its] at hj ⊢
    have hj' : j < (its L).length := by simpa using hj
    have := hc j (its L)[j] (List.getElem?_eq_getElem hj')
    rw [Nat.zero_add]
    simpa [hj'] using this
  have eg : ∀ args w, (callFunc 22 args).run Try.prog w = .ok (.enter 22 args) w := enters_of Try.func22 (by kernel_rfl) rfl
  have hcon := AnyQ.slices_SortFunc Try.sortIt 5 Try.isAgg36 Try.sizeOf36 itv (fun _ => rfl) itv_one cfN swoN 22 #[] g 0 c L.toArray W eg (cmpLays22 g 0 _ W) hH hblk (by simp; omega)
  change Calls Try.prog 21 _ _ _ at hcon
  simp only [List.size_toArray] at hcon
  refine hcon.mono ?_
  rintro e W' ⟨rfl, d', n, os, hp, hs, rfl⟩
  obtain ⟨hp1, _, hp2⟩ := hp
  have hd : d'.toList.length = L.length := by simpa using hp1
  have hpm : d'.toList.Perm L := by
    rw [show d'.extract 0 L.length = d' by rw [← hd]; simp, show L.toArray.extract 0 L.length = L.toArray by simp] at hp2
    exact hp2
  refine ⟨rfl, d'.toList, hpm, ?_, ?_⟩
  · rw [List.pairwise_iff_getElem]
    intro i j hi hj hij
    have := hs i j (Nat.zero_le _) hij (by rw [← hd]; exact hj)
    rw [ltN] at this
    have hi' : i < d'.size := by simpa using hi
    have hj' : j < d'.size := by simpa using hj
    rw [getElem!_pos d' i hi', getElem!_pos d' j hj'] at this
    simp only [Array.getElem_toList]
    have := of_decide_eq_false this
    omega
  · have e1 : putRowK itv 5 (Sort.ahead W n) g 0 d' = (Sort.ahead W n).setCells g 0 (its d'.toList) := by
      have q := setCells_putRow (Sort.ahead W n) g 0 (its d'.toList) 0 (flatK itv 5 L.toArray) (by rw [its_len, size_flatK, hd]; simp)
      rw [putRow_self id (Sort.ahead W n) g 0 _ (holdsK_ahead itv 5 W n g 0 _ hH), setMany_all _ _ (by rw [its_len, size_flatK, hd]; simp)] at q
      rw [Nat.add_zero] at q
      rw [q]
      show putRow id _ g 0 (flatK itv 5 d') = _
      rw [← flat_its]
    have h2 := Sep.rowSets (its d'.toList) [] (its L) _ (by rw [its_len, its_len, hd]) (h.grown (gr_ahead W n))
    have h3 := h2.grown (gr_grow _ os)
    show Sep w0 (grow (putRowK itv 5 (Sort.ahead W n) g 0 d') os) _
    rw [e1]
    exact h3
end Go.Proofs.Ytjoodembmjooaaa
