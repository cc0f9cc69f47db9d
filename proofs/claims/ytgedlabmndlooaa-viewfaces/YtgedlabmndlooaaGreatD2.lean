/- view: what is seen is sorted -/
import Derived.Test.YtgedlabmndlooaaGreatLS2
import Derived.Test.YtgedlabmndlooaaGreatD1
import Derived.Test.YtgedlabmndlooaaGreatH9
namespace Go.Proofs.YtgedlabmndlooaaGreat
open Go Go.RowKit Go.Maps Go.Shelf Go.Lib Go.Sort

abbrev sns (L : List Sn) : List Value := fl snv L
set_option maxRecDepth 100000 in
theorem sns_len (L : List Sn) : (sns L).length = L.length * 5 := fl_len snv_len L
/-- told ahead of another -/
def tld (x y : Sn) : Prop := x.kd < y.kd ∨ (x.kd = y.kd ∧ x.id < y.id)
instance (x y : Sn) : Decidable (tld x y) := by unfold tld; infer_instance
instance : Inhabited Sn := ⟨zN⟩
theorem cmp_cases (a b : Int) : (a < b ∧ Lib.compareInt a b = -1) ∨ (a = b ∧ Lib.compareInt a b = 0) ∨ (b < a ∧ Lib.compareInt a b = 1) := by
  unfold Lib.compareInt
  rcases Int.lt_trichotomy a b with h | h | h
  · exact .inl ⟨h, by rw [if_pos h]⟩
  · exact .inr (.inl ⟨h, by rw [if_neg (by omega), if_neg (by omega)]⟩)
  · exact .inr (.inr ⟨h, by rw [if_neg (by omega), if_pos h]⟩)
theorem cfS_lt (x y : Sn) : cfS x y < 0 ↔ tld x y := by
  unfold cfS orZ tld
  rcases cmp_cases x.kd y.kd with ⟨h, e⟩ | ⟨h, e⟩ | ⟨h, e⟩
  · rw [e, if_neg (by omega)]; omega
  · rw [e, if_pos rfl]
    rcases cmp_cases x.id y.id with ⟨k, f⟩ | ⟨k, f⟩ | ⟨k, f⟩ <;> rw [f] <;> omega
  · rw [e, if_neg (by omega)]; omega
theorem ltS (x y : Sn) : ltOf cfS x y = decide (tld x y) := by
  unfold ltOf
  exact decide_eq_decide.2 (cfS_lt x y)
theorem swoS : SWO (ltOf cfS) where
  irrefl x := by rw [ltS]; exact decide_eq_false (by unfold tld; omega)
  trans x y z h1 h2 := by
    rw [ltS, decide_eq_true_iff] at *
    unfold tld at *
    omega
  ntrans x y z h1 h2 := by
    rw [ltS, decide_eq_false_iff_not] at *
    unfold tld at *
    omega
set_option maxRecDepth 100000 in
theorem cmpLays68 (blk off size : Nat) (w : World) : CmpLays Tryz.prog 68 #[] snv 5 cfS blk off size w :=
  fun _ _ _ _ x y => by
    refine (cmpS_n x y _).mono ?_
    rintro e w' ⟨rfl, hg⟩
    exact ⟨rfl, hg.is_grow⟩
set_option maxRecDepth 100000 in
theorem sortS_none (w : World) (p : Option Addr) (cap : Nat) (fv : Value) : Calls Tryz.prog 67 #[.slice p 0 cap, fv] w fun e w' => e = .returned (.tuple #[]) ∧ w' = w :=
  AnyF.slices_SortFunc_none (P := Tryz.prog) (ρ := Tryz.sortSn_ren) { Tryz.sortSn with } p cap fv w
set_option maxRecDepth 100000 in
theorem sns_at : ∀ (L : List Sn) (t : Nat), t < L.length * 5 → (sns L)[t]! = (snv (L.toArray[t / 5]!))[t % 5]!
  | [], t, h => by simp at h
  | a :: r, t, h => by
    have hl : (snv a).length = 5 := rfl
    have e : sns (a :: r) = snv a ++ sns r := by simp [sns, fl]
    rw [e]
    by_cases h5 : t < 5
    · rw [show t / 5 = 0 by omega, show t % 5 = t by omega]
      rw [List.getElem!_eq_getElem?_getD, List.getElem?_append_left (by omega), ← List.getElem!_eq_getElem?_getD]
      rfl
    · obtain ⟨u, rfl⟩ : ∃ u, t = u + 5 := ⟨t - 5, by omega⟩
      have hu : u < r.length * 5 := by rw [List.length_cons] at h; omega
      rw [show (u + 5) / 5 = u / 5 + 1 by omega, show (u + 5) % 5 = u % 5 by omega]
      rw [List.getElem!_eq_getElem?_getD, List.getElem?_append_right (by omega), hl, Nat.add_sub_cancel, ← List.getElem!_eq_getElem?_getD, sns_at r u hu]
      simp
set_option maxRecDepth 100000 in
theorem flat_sns (L : List Sn) : flatK snv 5 L.toArray = (sns L).toArray := by
  refine ext_get! (by simp [sns_len]) fun t ht => ?_
  have ht' : t < L.length * 5 := by simpa using ht
  rw [get_flatK _ _ _ t (by simpa using ht'), ← sns_at L t ht']
  simp
set_option maxRecDepth 100000 in
theorem setMany_all (vs : List Value) (F : Array Value) (h : vs.length = F.size) : setMany F 0 vs = vs.toArray := by
  refine ext_get! (by simp [h]) fun t ht => ?_
  have ht' : t < F.size := by simpa using ht
  rw [get_setMany _ _ _ t ht', if_pos (by omega)]
  simp
set_option maxRecDepth 100000 in
theorem gr_grow (w : World) (os : Array Obj) : w.grownBy (grow w os) none :=
  ⟨rfl, rfl, rfl, by simp [grow], fun b hb _ => by simp [grow, Array.getElem?_append, hb]⟩
set_option maxRecDepth 100000 in
theorem gr_ahead (w : World) (n : Nat) : w.grownBy (Sort.ahead w n) none := ⟨rfl, rfl, rfl, Nat.le_refl _, fun _ _ _ => rfl⟩
set_option maxRecDepth 100000 in
theorem Sep.rowSets {w0 : World} {l : List As} {e : TypeId} {s g n c : Nat} : ∀ (vs : List Value) (A B : List Value) (W : World), vs.length = B.length → Sep w0 W (rowV e s (.slice (some ⟨g, 0, none⟩) n c) n (A ++ B) :: l) → Sep w0 (W.setCells g A.length vs) (rowV e s (.slice (some ⟨g, 0, none⟩) n c) n (A ++ vs) :: l)
  | [], A, B, W, hl, h => by
    obtain rfl : B = [] := List.eq_nil_of_length_eq_zero hl.symm
    exact h
  | v :: r, A, B, W, hl, h => by
    cases B with
    | nil => cases hl
    | cons b B =>
      have h2 := h.rowSet A.length v
      rw [List.set_append_right _ _ (Nat.le_refl _), Nat.sub_self, List.set_cons_zero] at h2
      rw [show A ++ v :: B = (A ++ [v]) ++ B by simp] at h2
      have h3 := Sep.rowSets r (A ++ [v]) B _ (by simpa using hl) h2
      rw [List.length_append, List.append_assoc] at h3
      exact h3
set_option maxRecDepth 100000 in
theorem sortS_c (w0 W : World) (l : List As) (g c : Nat) (L : List Sn) (hm : L.length * 40 ≤ 140737488355328) (h : Sep w0 W (rowV 33 5 (sl g L.length c) L.length (sns L) :: l)) :
    Calls Tryz.prog 67 #[sl g L.length c, .func (.func 68) #[] #[]] W fun e W' => e = .returned (.tuple #[]) ∧ ∃ L' : List Sn, L'.Perm L ∧ L'.Pairwise (fun a b => ltOf cfS b a = false) ∧ Sep w0 W' (rowV 33 5 (sl g L.length c) L.length (sns L') :: l) := by
  have ho := h.rowGet k0m
  have hoo := ho
  obtain ⟨hlen, h2⟩ := ho
  have hx : g < W.heap.size ∧ ∀ (k : Nat) t, (sns L)[k]? = some t → W.cell? ⟨g, k, none⟩ = some t ∧ W.frozen? ⟨g, k, none⟩ = false := by
    by_cases hL : 0 < L.length
    · obtain ⟨g', c', e, hc⟩ := own_any hoo hL
      injection e with e1 e2 e3
      injection e1 with e1
      injection e1 with e1
      subst e1
      refine ⟨?_, hc⟩
      rcases h2 with ⟨q, _⟩ | ⟨g', cap, cur, q, _, hh, _⟩
      · cases q
      · injection q with e1 e2 e3
        cases e1
        exact (Array.getElem?_eq_some_iff.1 hh).1
    · obtain rfl : L = [] := List.eq_nil_of_length_eq_zero (by omega)
      refine ⟨?_, fun k t hk => by cases hk⟩
      rcases h2 with ⟨q, _⟩ | ⟨g', cap, cur, q, _, hh, _⟩
      · cases q
      · injection q with e1 e2 e3
        cases e1
        exact (Array.getElem?_eq_some_iff.1 hh).1
  obtain ⟨hblk, hc⟩ := hx
  have hH : HoldsK snv 5 W g 0 L.toArray := by
    intro j hj
    rw [flat_sns] at hj ⊢
    have hj' : j < (sns L).length := by simpa using hj
    have := hc j (sns L)[j] (List.getElem?_eq_getElem hj')
    rw [Nat.zero_add]
    simpa [hj'] using this
  have eg : ∀ args w, (callFunc 68 args).run Tryz.prog w = .ok (.enter 68 args) w := enters_of Tryz.func68 (by kernel_rfl) rfl
  have hcon := AnyQ.slices_SortFunc Tryz.sortSn 5 Tryz.isAgg33 Tryz.sizeOf33 snv (fun _ => rfl) snv_one cfS swoS 68 #[] g 0 c L.toArray W eg (cmpLays68 g 0 _ W) hH hblk (by simp; omega)
  change Calls Tryz.prog 67 _ _ _ at hcon
  simp only [List.size_toArray] at hcon
  refine hcon.mono ?_
  rintro e W' ⟨rfl, d', n, os, hp, hs, rfl⟩
  obtain ⟨hp1, _, hp2⟩ := hp
  have hd : d'.toList.length = L.length := by simpa using hp1
  have hpm : d'.toList.Perm L := by
    rw [show d'.extract 0 L.length = d' by rw [← hd]; simp, show L.toArray.extract 0 L.length = L.toArray by simp] at hp2
    exact hp2
  refine ⟨rfl, d'.toList, hpm, ?_, ?_⟩
  · rw [List.pairwise_iff_getElem]
    intro i j hi hj hij
    have := hs i j (Nat.zero_le _) hij (by rw [← hd]; exact hj)
    have hi' : i < d'.size := by simpa using hi
    have hj' : j < d'.size := by simpa using hj
    rw [getElem!_pos d' i hi', getElem!_pos d' j hj'] at this
    simp only [Array.getElem_toList]
    exact this
  · have e1 : putRowK snv 5 (Sort.ahead W n) g 0 d' = (Sort.ahead W n).setCells g 0 (sns d'.toList) := by
      have q := setCells_putRow (Sort.ahead W n) g 0 (sns d'.toList) 0 (flatK snv 5 L.toArray) (by rw [sns_len, size_flatK, hd]; simp)
      rw [putRow_self id (Sort.ahead W n) g 0 _ (holdsK_ahead snv 5 W n g 0 _ hH), setMany_all _ _ (by rw [sns_len, size_flatK, hd]; simp)] at q
      rw [Nat.add_zero] at q
      rw [q]
      show putRow id _ g 0 (flatK snv 5 d') = _
      rw [← flat_sns]
    have h2 := Sep.rowSets (sns d'.toList) [] (sns L) _ (by rw [sns_len, sns_len, hd]) (h.grown (gr_ahead W n))
    have h3 := h2.grown (gr_grow _ os)
    show Sep w0 (grow (putRowK snv 5 (Sort.ahead W n) g 0 d') os) _
    rw [e1]
    exact h3
end Go.Proofs.YtgedlabmndlooaaGreat
