/- N0, N1, N2 -/
import Derived.Test.YtgedlabmndlooaaGreatP5
import Derived.Test.YtgedlabmndlooaaGreatF0
import Derived.Deep.DeepCutAuto
namespace Go.Proofs.YtgedlabmndlooaaGreat
open Go

theorem nearer_tr {x y : Int} {a b c : Sn} (h : nearer x y a b) (k : nearer x y b c) : nearer x y a c := by
  unfold nearer at *
  rcases h with h | ⟨h1, h2⟩
  · rcases k with k | ⟨k1, k2⟩
    · exact .inl (by omega)
    · exact .inl (by omega)
  · rcases k with k | ⟨k1, k2⟩
    · exact .inl (by omega)
    · exact .inr ⟨by omega, tld_tr h2 k2⟩
/-- all keys are different -/
def DK (L : List Sn) : Prop := L.Pairwise (fun a b => tld a b ∨ tld b a)
theorem nearer_tot {x y : Int} {a b : Sn} (h : tld a b ∨ tld b a) : nearer x y a b ∨ nearer x y b a := by
  unfold nearer
  rcases Int.lt_trichotomy (d2 x y a.x a.y) (d2 x y b.x b.y) with q | q | q
  · exact .inl (.inl q)
  · rcases h with h | h
    · exact .inl (.inr ⟨q, h⟩)
    · exact .inr (.inr ⟨q.symm, h⟩)
  · exact .inr (.inl q)
theorem DK.two {L : List Sn} (h : DK L) {i j : Nat} {a b : Sn} (hi : L[i]? = some a) (hj : L[j]? = some b) (hij : i ≠ j) : tld a b ∨ tld b a := by
  obtain ⟨h1, rfl⟩ := List.getElem?_eq_some_iff.1 hi
  obtain ⟨h2, rfl⟩ := List.getElem?_eq_some_iff.1 hj
  rcases Nat.lt_or_gt_of_ne hij with q | q
  · exact List.pairwise_iff_getElem.1 h i j h1 h2 q
  · exact (List.pairwise_iff_getElem.1 h j i h2 h1 q).symm
theorem DK.perm {L L' : List Sn} (h : DK L) (p : L.Perm L') : DK L' := p.pairwise h (fun h => h.symm)
/-- the best of the first i -/
def Bs (R : Sn → Sn → Prop) (L : List Sn) (b i : Nat) : Prop := ∃ t, L[b]? = some t ∧ ∀ j u, j < i → j ≠ b → L[j]? = some u → R t u
theorem Bs.start (R : Sn → Sn → Prop) {L : List Sn} (h : 0 < L.length) : Bs R L 0 1 := ⟨L[0], List.getElem?_eq_getElem h, fun j u hj hn _ => by omega⟩
theorem Bs.yes {R : Sn → Sn → Prop} (tr : ∀ a b c, R a b → R b c → R a c) {L : List Sn} {b i : Nat} {t u : Sn} (h : Bs R L b i) (hb : L[b]? = some t) (hi : L[i]? = some u) (hr : R u t) : Bs R L i (i + 1) := by
  obtain ⟨t', ht, q⟩ := h
  rw [hb] at ht
  injection ht with ht
  subst ht
  refine ⟨u, hi, fun j v hj hn hv => ?_⟩
  by_cases e : j = b
  · subst e; rw [hb] at hv; injection hv with hv; subst hv; exact hr
  · exact tr _ _ _ hr (q j v (by omega) e hv)
theorem Bs.no {R : Sn → Sn → Prop} (tot : ∀ a b, tld a b ∨ tld b a → R a b ∨ R b a) {L : List Sn} (hd : DK L) {b i : Nat} {t u : Sn} (h : Bs R L b i) (hbi : b < i) (hb : L[b]? = some t) (hi : L[i]? = some u) (hr : ¬ R u t) : Bs R L b (i + 1) := by
  obtain ⟨t', ht, q⟩ := h
  rw [hb] at ht
  injection ht with ht
  subst ht
  refine ⟨t, hb, fun j v hj hn hv => ?_⟩
  by_cases e : j = i
  · subst e
    rw [hi] at hv
    injection hv with hv
    subst hv
    rcases tot _ _ (hd.two hi hb (by omega)) with k | k
    · exact absurd k hr
    · exact k
  · exact q j v (by omega) hn hv
theorem erase_perm {α : Type} : ∀ (l : List α) (k : Nat) (h : k < l.length), (l[k] :: l.eraseIdx k).Perm l
  | a :: l, 0, _ => List.Perm.refl _
  | a :: l, k + 1, h => by
    have h' : k < l.length := by simpa using h
    exact (List.Perm.swap _ _ _).trans ((erase_perm l k h').cons a)
/-- So was chosen of E, Lf is left -/
structure Sel (R : Sn → Sn → Prop) (E So Lf : List Sn) : Prop where
  p : (So ++ Lf).Perm E
  r : ∀ t ∈ So, ∀ u ∈ Lf, R t u
  s : So.Pairwise R
theorem Sel.start (R : Sn → Sn → Prop) (E : List Sn) : Sel R E [] E := ⟨List.Perm.refl _, nofun, List.Pairwise.nil⟩
theorem Sel.step {R : Sn → Sn → Prop} {E So Lf : List Sn} (h : Sel R E So Lf) {b : Nat} {t : Sn} (hb : Lf[b]? = some t) (hB : Bs R Lf b Lf.length) : Sel R E (So ++ [t]) (Lf.eraseIdx b) := by
  obtain ⟨hl, e⟩ := List.getElem?_eq_some_iff.1 hb
  obtain ⟨t', ht, q⟩ := hB
  rw [hb] at ht
  injection ht with ht
  subst ht
  refine ⟨?_, fun t' ht' u hu => ?_, ?_⟩
  · refine List.Perm.trans ?_ h.p
    rw [List.append_assoc]
    refine List.Perm.append_left So ?_
    have k := erase_perm Lf b hl
    rw [e] at k
    exact k
  · rcases List.mem_append.1 ht' with k | k
    · exact h.r t' k u (List.mem_of_mem_eraseIdx hu)
    · rw [List.mem_singleton] at k
      subst k
      obtain ⟨j, hj, hv⟩ := List.mem_eraseIdx_iff_getElem?.1 hu
      exact q j u (List.getElem?_eq_some_iff.1 hv).1 hj hv
  · refine List.pairwise_append.2 ⟨h.s, List.pairwise_singleton _ _, fun a ha c hc => ?_⟩
    rw [List.mem_singleton] at hc
    subst hc
    exact h.r a ha c (List.mem_of_getElem? hb)
theorem Sel.dk {R : Sn → Sn → Prop} {E So Lf : List Sn} (h : Sel R E So Lf) (hd : DK E) : DK Lf := by
  have q := hd.perm h.p.symm
  exact (List.pairwise_append.1 q).2.1
theorem Sel.dk2 {R : Sn → Sn → Prop} {E So Lf : List Sn} (h : Sel R E So Lf) (hd : DK E) : DK So := by
  have q := hd.perm h.p.symm
  exact (List.pairwise_append.1 q).1
theorem sel_told {E So Lf Td : List Sn} {pl x y r : Int} {s : Nat} (hE : ∀ t ∈ E, notO pl t = true) (h : Sel (nearer x y) (E.filter (nrS x y r)) So Lf) (hs : So.length ≤ s) (he : Lf = [] ∨ So.length = s) (k : Sel tld So Td []) : Told E pl x y r s Td := by
  have hp : Td.Perm So := by have q := k.p; rw [List.append_nil] at q; exact q
  refine ⟨k.s, fun t ht => ?_, by rw [hp.length_eq]; exact hs, fun u hu hn _ hnt => ?_⟩
  · have m := h.p.subset (List.mem_append_left _ (hp.subset ht))
    obtain ⟨m1, m2⟩ := List.mem_filter.1 m
    exact ⟨m1, m2, hE t m1⟩
  · have m : u ∈ So ++ Lf := h.p.symm.subset (List.mem_filter.2 ⟨hu, hn⟩)
    have m2 : u ∈ Lf := by
      rcases List.mem_append.1 m with q | q
      · exact absurd (hp.symm.subset q) hnt
      · exact q
    refine ⟨?_, fun t ht => h.r t (hp.subset ht) u m2⟩
    rcases he with e | e
    · rw [e] at m2; cases m2
    · rw [hp.length_eq]; exact e
/-- the cars that may be seen, behind k of them -/
def entC (LC : List Cr) (p : Int) : Nat → List Sn
  | 0 => []
  | k + 1 => entC LC p k ++ (match LC[k]? with
    | some c => if (∀ d ∈ LC.take k, d.pl ≠ c.pl) ∧ c.pl ≠ p ∧ c.wa ≤ 0 then [carS c] else []
    | none => [])
theorem entC_step (LC : List Cr) (p : Int) (k : Nat) (c : Cr) (hc : LC[k]? = some c) : entC LC p (k + 1) = entC LC p k ++ (if (∀ d ∈ LC.take k, d.pl ≠ c.pl) ∧ c.pl ≠ p ∧ c.wa ≤ 0 then [carS c] else []) := by
  simp only [entC, hc]
theorem entC_mem (LC : List Cr) (p : Int) : ∀ (k : Nat) (t : Sn), t ∈ entC LC p k ↔ ∃ i c, i < k ∧ LC[i]? = some c ∧ (∀ d ∈ LC.take i, d.pl ≠ c.pl) ∧ c.pl ≠ p ∧ c.wa ≤ 0 ∧ t = carS c
  | 0, t => by simp [entC]
  | k + 1, t => by
    rw [entC, List.mem_append, entC_mem LC p k t]
    constructor
    · rintro (⟨i, c, h1, h2⟩ | h)
      · exact ⟨i, c, by omega, h2⟩
      · cases hk : LC[k]? with
        | none => rw [hk] at h; cases h
        | some c =>
          rw [hk] at h
          simp only at h
          split at h
          · rename_i hc
            rw [List.mem_singleton] at h
            exact ⟨k, c, by omega, hk, hc.1, hc.2.1, hc.2.2, h⟩
          · cases h
    · rintro ⟨i, c, h1, h2, h3, h4, h5, h6⟩
      by_cases e : i = k
      · subst e
        right
        rw [h2]
        simp only
        rw [if_pos ⟨h3, h4, h5⟩]
        exact List.mem_singleton.2 h6
      · exact .inl ⟨i, c, by omega, h2, h3, h4, h5, h6⟩
def entS (LS : List Sh) : Nat → List Sn
  | 0 => []
  | k + 1 => entS LS k ++ (match LS[k]? with
    | some c => if (∀ d ∈ LS.take k, d.id ≠ c.id) then [shoS c] else []
    | none => [])
theorem entS_step (LS : List Sh) (k : Nat) (c : Sh) (hc : LS[k]? = some c) : entS LS (k + 1) = entS LS k ++ (if (∀ d ∈ LS.take k, d.id ≠ c.id) then [shoS c] else []) := by
  simp only [entS, hc]
theorem entS_mem (LS : List Sh) : ∀ (k : Nat) (t : Sn), t ∈ entS LS k ↔ ∃ i c, i < k ∧ LS[i]? = some c ∧ (∀ d ∈ LS.take i, d.id ≠ c.id) ∧ t = shoS c
  | 0, t => by simp [entS]
  | k + 1, t => by
    rw [entS, List.mem_append, entS_mem LS k t]
    constructor
    · rintro (⟨i, c, h1, h2⟩ | h)
      · exact ⟨i, c, by omega, h2⟩
      · cases hk : LS[k]? with
        | none => rw [hk] at h; cases h
        | some c =>
          rw [hk] at h
          simp only at h
          split at h
          · rename_i hc
            rw [List.mem_singleton] at h
            exact ⟨k, c, by omega, hk, hc, h⟩
          · cases h
    · rintro ⟨i, c, h1, h2, h3, h6⟩
      by_cases e : i = k
      · subst e
        right
        rw [h2]
        simp only
        rw [if_pos h3]
        exact List.mem_singleton.2 h6
      · exact .inl ⟨i, c, by omega, h2, h3, h6⟩
theorem entC_dk (LC : List Cr) (p : Int) : ∀ k, DK (entC LC p k)
  | 0 => List.Pairwise.nil
  | k + 1 => by
    rw [entC]
    refine List.pairwise_append.2 ⟨entC_dk LC p k, ?_, fun a ha b hb => ?_⟩
    · cases hk : LC[k]? with
      | none => exact List.Pairwise.nil
      | some c =>
        simp only
        split
        · exact List.pairwise_singleton _ _
        · exact List.Pairwise.nil
    · cases hk : LC[k]? with
      | none => rw [hk] at hb; cases hb
      | some c =>
        rw [hk] at hb
        simp only at hb
        split at hb
        · rename_i hc
          rw [List.mem_singleton] at hb
          subst hb
          obtain ⟨i, d, h1, h2, _, _, _, rfl⟩ := (entC_mem LC p k a).1 ha
          have hd : d.pl ≠ c.pl := hc.1 d (List.mem_of_getElem? (by rw [List.getElem?_take_of_lt h1]; exact h2))
          rcases Int.lt_or_gt_of_ne hd with q | q
          · exact .inl (.inr ⟨rfl, q⟩)
          · exact .inr (.inr ⟨rfl, q⟩)
        · cases hb
theorem entS_dk (LS : List Sh) : ∀ k, DK (entS LS k)
  | 0 => List.Pairwise.nil
  | k + 1 => by
    rw [entS]
    refine List.pairwise_append.2 ⟨entS_dk LS k, ?_, fun a ha b hb => ?_⟩
    · cases hk : LS[k]? with
      | none => exact List.Pairwise.nil
      | some c =>
        simp only
        split
        · exact List.pairwise_singleton _ _
        · exact List.Pairwise.nil
    · cases hk : LS[k]? with
      | none => rw [hk] at hb; cases hb
      | some c =>
        rw [hk] at hb
        simp only at hb
        split at hb
        · rename_i hc
          rw [List.mem_singleton] at hb
          subst hb
          obtain ⟨i, d, h1, h2, _, rfl⟩ := (entS_mem LS k a).1 ha
          have hd : d.id ≠ c.id := hc d (List.mem_of_getElem? (by rw [List.getElem?_take_of_lt h1]; exact h2))
          rcases Int.lt_or_gt_of_ne hd with q | q
          · exact .inl (.inr ⟨rfl, q⟩)
          · exact .inr (.inr ⟨rfl, q⟩)
        · cases hb
/-- all that may be seen -/
def ents (LC : List Cr) (LS : List Sh) (p : Int) : List Sn := entC LC p LC.length ++ entS LS LS.length
theorem ents_dk (LC : List Cr) (LS : List Sh) (p : Int) : DK (ents LC LS p) := by
  refine List.pairwise_append.2 ⟨entC_dk _ _ _, entS_dk _ _, fun a ha b hb => .inl ?_⟩
  obtain ⟨_, c, _, _, _, _, _, rfl⟩ := (entC_mem _ _ _ a).1 ha
  obtain ⟨_, s, _, _, _, rfl⟩ := (entS_mem _ _ b).1 hb
  exact .inl (by show (1 : Int) < 2; decide)
theorem ents_not (LC : List Cr) (LS : List Sh) (p : Int) : ∀ t ∈ ents LC LS p, notO p t = true := by
  intro t ht
  rcases List.mem_append.1 ht with h | h
  · obtain ⟨_, c, _, _, _, q, _, rfl⟩ := (entC_mem _ _ _ t).1 h
    unfold notO carS
    simp [q]
  · obtain ⟨_, s, _, _, _, rfl⟩ := (entS_mem _ _ t).1 h
    rfl
theorem entC_len (LC : List Cr) (p : Int) : ∀ k, (entC LC p k).length ≤ k
  | 0 => Nat.le_refl _
  | k + 1 => by
    rw [entC, List.length_append]
    have := entC_len LC p k
    cases LC[k]? with
    | none => simp only [List.length_nil]; omega
    | some c => simp only; split <;> simp only [List.length_singleton, List.length_nil] <;> omega
theorem entS_len (LS : List Sh) : ∀ k, (entS LS k).length ≤ k
  | 0 => Nat.le_refl _
  | k + 1 => by
    rw [entS, List.length_append]
    have := entS_len LS k
    cases LS[k]? with
    | none => simp only [List.length_nil]; omega
    | some c => simp only; split <;> simp only [List.length_singleton, List.length_nil] <;> omega
end Go.Proofs.YtgedlabmndlooaaGreat

namespace Go.Proofs.YtgedlabmndlooaaGreat
open Go Go.RowKit Go.Maps Go.Shelf Go.Lib Go.Sort

instance (x y : Int) (a b : Sn) : Decidable (nearer x y a b) := by unfold nearer; infer_instance
set_option maxRecDepth 100000 in
set_option maxHeartbeats 16000000 in
theorem rown_c (W : World) (tick nx p : Int) (vc vs : Value) (LC : List Cr) (hc : Ls crv 14 W vc LC) (hn : LC.length ≤ 281474976710656) :
    Calls Tryz.prog 36 #[.agg #[.int .u64 tick, vc, vs, iv nx], iv p] W fun e W' => OwR W W' LC p e := by
  obtain ⟨ac, cc, rfl, hcr⟩ := hc
  obtain ⟨nc, hnc⟩ : ∃ n, LC.length = n := ⟨_, rfl⟩
  rw [hnc] at hn ⊢
  have HL := Keep.mk hnc
  have HV := Keep.mk hcr
  have S1 := ((Sep.nil W).newBox #[.int .u64 tick, .slice ac nc cc, vs, iv nx] 37).newBox #[iv 0, .string { data := #[] }, iv 0, iv 0, iv 0, iv 0, iv 0, iv 0, iv 0, iv 0, iv 0, iv 0, iv 0, iv 0] 26
  simp only [World.size_alloc] at S1
  obtain ⟨bs, hbs⟩ : ∃ b, W.heap.size = b := ⟨_, rfl⟩
  obtain ⟨rb, hrb⟩ : ∃ b, bs + 1 = b := ⟨_, rfl⟩
  obtain ⟨W1, hW1⟩ : ∃ w, (W.alloc (.cells #[.int .u64 tick, .slice ac nc cc, vs, iv nx] 37)).alloc (.cells #[iv 0, .string { data := #[] }, iv 0, iv 0, iv 0, iv 0, iv 0, iv 0, iv 0, iv 0, iv 0, iv 0, iv 0, iv 0] 26) = w := ⟨_, rfl⟩
  rw [hW1, hbs, hrb] at S1
  have HB : Keep (Sep W W1 [boxA rb zcr 26, boxA bs [.int .u64 tick, .slice ac nc cc, vs, iv nx] 37]) := ⟨S1⟩
  obtain ⟨dc, hdc⟩ := under26
  have HBZ := Keep.mk built26z
  clear S1 hcr hnc
  go_enter Tryz.func36, Tryz.ntmps36
  go_wp2_with fail
  clear hW1 hbs hrb
  go_loopw [6] (fun u6 wr => ∃ i : Nat, i ≤ nc ∧ u6 = iv i ∧ Keep (∀ c ∈ LC.take i, c.pl ≠ p) ∧ Keep (Sep W wr [boxA rb zcr 26, boxA bs [.int .u64 tick, .slice ac nc cc, vs, iv nx] 37])) (fun u6 _ => (nc - intOf u6).toNat)
  case atStart => exact ⟨0, by omega, rfl, ⟨by simp⟩, HB⟩
  case round =>
    clear HB
    obtain ⟨i, hi, rfl, HI, HB⟩ := hrel
    have d1 := (HB.out.boxGet k1m).cellv 1 _ rfl
    by_cases hlt : i < nc
    · have hlt1 : (i : Int) < (nc : Int) := by omega
      have hi0 : (0 : Int) ≤ (i : Int) := by omega
      have hit : ((i : Nat) : Int).toNat = i := by omega
      have hiw : IntKind.i64.wrap ((i : Int) + 1) = ((i + 1 : Nat) : Int) := by rw [IntKind.wrap_i64]; omega
      obtain ⟨c, hc⟩ : ∃ y, LC[i]? = some y := ⟨_, List.getElem?_eq_getElem (by rw [HL.out]; exact hlt)⟩
      obtain ⟨g1, o1, e1, q1⟩ := HV.out (by rw [HL.out]; omega)
      subst e1
      have HR : Keep (wr.rangeAt g1 (o1 + i * 14) (crv c)) := ⟨fun r u hu => HB.out.g.cell (q1 i c hc r u hu) (by simp)⟩
      have l0 : wr.cell? ⟨g1, o1 + i * 14, none⟩ = some (iv c.pl) := by have := HR.out 0 (iv c.pl) rfl; simpa using this
      have HTK : Keep (LC.take (i + 1) = LC.take i ++ [c]) := ⟨by rw [List.take_add_one, hc]; rfl⟩
      have HC := Keep.mk hc
      have HIN : Keep (i < nc) := ⟨hlt⟩
      clear q1 hc hlt hi
      by_cases hp : c.pl = p
      · have k1 : (c.pl == p) = true := by simp [hp]
        have k2 : decide (c.pl = p) = true := by simp [hp]
        have HF : Keep (LC.find? (fun c => c.pl == p) = some c) := ⟨by
          obtain ⟨h1, h2⟩ := List.getElem?_eq_some_iff.1 HC.out
          refine List.find?_eq_some_iff_getElem.2 ⟨by simp [hp], i, h1, h2, fun j hj => ?_⟩
          have := HI.out LC[j] (List.mem_take_iff_getElem.2 ⟨j, by omega, rfl⟩)
          simpa using this⟩
        have HON := Keep.mk (crv_one c)
        clear hp
        go_wp2_with (first
          | (with_reducible show wpList _ _ _ ({ dst := some 26, op := Op.load 26 _, type := _, pos := _, after := _, guard := _ } :: _) _ _
             refine wpList_load_mid rfl 26 _ rfl _ _ rfl (crv c) _ HR.out hdc.1 hdc.2 info26 ?_)
          | (with_reducible show wpList _ _ _ ({ dst := _, op := Op.store 26 _ _, type := _, pos := _, after := _, guard := _ } :: _) _ _
             refine store_at _ rb 0 zcr (crv c) 26 26 rfl rfl rfl rfl (HB.out.boxGet k0m) (Nat.le_refl _) info26 HON.out ?_
             intro w6 hS6 g6
             have S6 := hS6 _ _ HB.out
             rw [over_all zcr (crv c) rfl] at S6
             have HS6 := Keep.mk S6
             clear S6 hS6 g6))
        refine ret_ct rfl rfl (HS6.out.boxGet k0m) hdc.1 hdc.2 info26 rfl ?_
        refine ⟨HS6.out.g, fun h0 => ?_, fun ow ho => ?_⟩
        · rw [HF.out] at h0; cases h0
        · rw [HF.out] at ho
          injection ho with ho
          subst ho
          rfl
      · have k1 : (c.pl == p) = false := by simp [hp]
        have k2 : decide (c.pl = p) = false := by simp [hp]
        have HI2 : Keep (∀ c ∈ LC.take (i + 1), c.pl ≠ p) := ⟨fun d hd => by
          rw [HTK.out] at hd
          rcases List.mem_append.1 hd with k | k
          · exact HI.out d k
          · rw [List.mem_singleton] at k; subst k; exact hp⟩
        clear hp
        go_wp2_with fail
        go_roundw
        case rel => exact ⟨i + 1, HIN.out, rfl, HI2, HB⟩
        case measure => simp [intOf]; have := HIN.out; omega
    · have hlt1 : ¬ (i : Int) < (nc : Int) := by omega
      have HF : Keep (LC.find? (fun c => c.pl == p) = none) := ⟨List.find?_eq_none.2 fun c hc => by
        have q := HI.out c
        rw [List.take_of_length_le (by rw [HL.out]; omega)] at q
        simpa using q hc⟩
      clear hlt hi
      go_wp2_with (first
        | (with_reducible show wpList _ _ _ ({ dst := some 27, op := Op.build 26 _, type := _, pos := _, after := _, guard := _ } :: _) _ _
           refine wpList_build rfl 26 _ rfl zcr.toArray ((congrArg (Tryz.prog.built 26) (by simp only [List.map_toArray, List.map_nil])).trans HBZ.out) ?_)
        | (with_reducible show wpList _ _ _ ({ dst := _, op := Op.store 26 _ _, type := _, pos := _, after := _, guard := _ } :: _) _ _
           refine store_at _ rb 0 zcr zcr 26 26 rfl rfl rfl rfl (HB.out.boxGet k0m) (Nat.le_refl _) info26 zcr_one ?_
           intro w6 hS6 g6
           have S6 := hS6 _ _ HB.out
           rw [over_all zcr zcr rfl] at S6
           have HS6 := Keep.mk S6
           clear S6 hS6 g6))
      refine ret_ct rfl rfl (HS6.out.boxGet k0m) hdc.1 hdc.2 info26 rfl ?_
      refine ⟨HS6.out.g, fun _ => rfl, fun ow ho => ?_⟩
      rw [HF.out] at ho; cases ho
set_option maxRecDepth 100000 in
set_option maxHeartbeats 16000000 in
theorem rahd_c (a b : Sn) (W : World) : Calls Tryz.prog 41 #[.agg (snv a).toArray, .agg (snv b).toArray] W fun e W' => e = .returned (.bool (decide (tld a b))) ∧ W.grownBy W' none := by
  have S1 := ((Sep.nil W).newBox #[iv a.kd, iv a.id, iv a.x, iv a.y, iv a.hd] 33).newBox #[iv b.kd, iv b.id, iv b.x, iv b.y, iv b.hd] 33
  simp only [World.size_alloc] at S1
  obtain ⟨b2, hb2⟩ : ∃ b, W.heap.size = b := ⟨_, rfl⟩
  obtain ⟨b3, hb3⟩ : ∃ b, b2 + 1 = b := ⟨_, rfl⟩
  obtain ⟨W1, hW1⟩ : ∃ w, (W.alloc (.cells #[iv a.kd, iv a.id, iv a.x, iv a.y, iv a.hd] 33)).alloc (.cells #[iv b.kd, iv b.id, iv b.x, iv b.y, iv b.hd] 33) = w := ⟨_, rfl⟩
  rw [hW1, hb2, hb3] at S1
  have HG := Keep.mk S1.g
  have c0 := (S1.boxGet k1m).cellv 0 _ rfl
  have c1 := (S1.boxGet k1m).cellv 1 _ rfl
  have d0 := (S1.boxGet k0m).cellv 0 _ rfl
  have d1 := (S1.boxGet k0m).cellv 1 _ rfl
  clear S1
  show Calls Tryz.prog 41 #[.agg #[iv a.kd, iv a.id, iv a.x, iv a.y, iv a.hd], .agg #[iv b.kd, iv b.id, iv b.x, iv b.y, iv b.hd]] W _
  by_cases hk : a.kd = b.kd
  · have k1 : (a.kd == b.kd) = true := by simp [hk]
    have k3 : decide (a.kd = b.kd) = true := by simp [hk]
    have HE : Keep (decide (tld a b) = decide (a.id < b.id)) := ⟨decide_eq_decide.2 (by unfold tld; omega)⟩
    clear hk
    go_enter Tryz.func41, Tryz.ntmps41
    go_wp2_with fail
    go_ret
    exact ⟨by rw [HE.out]; rfl, HG.out⟩
  · have k1 : (a.kd == b.kd) = false := by simp [hk]
    have k3 : decide (a.kd = b.kd) = false := by simp [hk]
    have HE : Keep (decide (tld a b) = decide (a.kd < b.kd)) := ⟨decide_eq_decide.2 (by unfold tld; omega)⟩
    go_enter Tryz.func41, Tryz.ntmps41
    go_wp2_with fail
    go_ret
    exact ⟨by rw [HE.out]; rfl, HG.out⟩
set_option maxRecDepth 100000 in
set_option maxHeartbeats 16000000 in
theorem rnea_c (x y : Int) (a b : Sn) (hx : I64 x) (hy : I64 y) (ha : I64 a.x ∧ I64 a.y) (hb : I64 b.x ∧ I64 b.y) (W : World) : Calls Tryz.prog 39 #[vv x y, .agg (snv a).toArray, .agg (snv b).toArray] W fun e W' => e = .returned (.bool (decide (nearer x y a b))) ∧ W.grownBy W' none := by
  have S1 := (((Sep.nil W).newBox #[iv x, iv y] 24).newBox #[iv a.kd, iv a.id, iv a.x, iv a.y, iv a.hd] 33).newBox #[iv b.kd, iv b.id, iv b.x, iv b.y, iv b.hd] 33
  simp only [World.size_alloc] at S1
  obtain ⟨b2, hb2⟩ : ∃ b, W.heap.size = b := ⟨_, rfl⟩
  obtain ⟨b3, hb3⟩ : ∃ b, b2 + 1 = b := ⟨_, rfl⟩
  obtain ⟨b4, hb4⟩ : ∃ b, b3 + 1 = b := ⟨_, rfl⟩
  obtain ⟨W1, hW1⟩ : ∃ w, ((W.alloc (.cells #[iv x, iv y] 24)).alloc (.cells #[iv a.kd, iv a.id, iv a.x, iv a.y, iv a.hd] 33)).alloc (.cells #[iv b.kd, iv b.id, iv b.x, iv b.y, iv b.hd] 33) = w := ⟨_, rfl⟩
  rw [hW1, hb2, hb3, hb4] at S1
  have HB : Keep (Sep W W1 [boxA b4 (snv b) 33, boxA b3 (snv a) 33, boxA b2 [iv x, iv y] 24]) := ⟨S1⟩
  obtain ⟨dw, hdw⟩ := under24
  obtain ⟨du, hdu⟩ := under33
  have HI := Keep.mk (And.intro (And.intro hx hy) (And.intro ha hb))
  have R1 := Keep.mk ((S1.boxGet k2m).range)
  have R2 : Keep (W1.rangeAt b3 2 [iv a.x, iv a.y]) := ⟨fun j u hu => by
    rw [Nat.add_comm]
    refine (S1.boxGet k1m).cellv (j + 2) u ?_
    match j, hu with
    | 0, hu => exact hu
    | 1, hu => exact hu⟩
  clear S1 hx hy ha hb
  show Calls Tryz.prog 39 #[.agg #[iv x, iv y], .agg #[iv a.kd, iv a.id, iv a.x, iv a.y, iv a.hd], .agg #[iv b.kd, iv b.id, iv b.x, iv b.y, iv b.hd]] W _
  go_enter Tryz.func39, Tryz.ntmps39
  go_wp2_with (first
    | (with_reducible show wpList _ _ _ ({ dst := some 9, op := Op.load 24 _, type := _, pos := _, after := _, guard := _ } :: _) _ _
       refine wpList_load_mid rfl 24 _ rfl _ _ rfl ([iv x, iv y]) _ R1.out hdw.1 hdw.2 info24 ?_)
    | (with_reducible show wpList _ _ _ ({ dst := some 11, op := Op.load 24 _, type := _, pos := _, after := _, guard := _ } :: _) _ _
       refine wpList_load_mid rfl 24 _ rfl _ _ rfl ([iv a.x, iv a.y]) _ R2.out hdw.1 hdw.2 info24 ?_))
  clear hW1 hb2 hb3 hb4
  refine (rdist_c x y a.x a.y HI.out.1.1 HI.out.1.2 HI.out.2.1.1 HI.out.2.1.2 W1).mono ?_
  rintro e W2 ⟨rfl, g2⟩
  replace HB := Keep.mk (HB.out.grown g2.g)
  clear g2 R1 R2
  have R1 := Keep.mk ((HB.out.boxGet k2m).range)
  have R2 : Keep (W2.rangeAt b4 2 [iv b.x, iv b.y]) := ⟨fun j u hu => by
    rw [Nat.add_comm]
    refine (HB.out.boxGet k0m).cellv (j + 2) u ?_
    match j, hu with
    | 0, hu => exact hu
    | 1, hu => exact hu⟩
  go_wp2_with (first
    | (with_reducible show wpList _ _ _ ({ dst := some 13, op := Op.load 24 _, type := _, pos := _, after := _, guard := _ } :: _) _ _
       refine wpList_load_mid rfl 24 _ rfl _ _ rfl ([iv x, iv y]) _ R1.out hdw.1 hdw.2 info24 ?_)
    | (with_reducible show wpList _ _ _ ({ dst := some 15, op := Op.load 24 _, type := _, pos := _, after := _, guard := _ } :: _) _ _
       refine wpList_load_mid rfl 24 _ rfl _ _ rfl ([iv b.x, iv b.y]) _ R2.out hdw.1 hdw.2 info24 ?_))
  refine (rdist_c x y b.x b.y HI.out.1.1 HI.out.1.2 HI.out.2.2.1 HI.out.2.2.2 W2).mono ?_
  rintro e W3 ⟨rfl, g3⟩
  replace HB := Keep.mk (HB.out.grown g3.g)
  clear g3 R1 R2
  obtain ⟨da, hda⟩ : ∃ d, d2 x y a.x a.y = d := ⟨_, rfl⟩
  obtain ⟨db, hdb⟩ : ∃ d, d2 x y b.x b.y = d := ⟨_, rfl⟩
  rw [hda, hdb]
  by_cases hk : da = db
  · have k1 : (da == db) = true := by simp [hk]
    have k3 : decide (da = db) = true := by simp [hk]
    have HE : Keep (decide (nearer x y a b) = decide (tld a b)) := ⟨decide_eq_decide.2 (by
      unfold nearer
      rw [hda, hdb]
      exact ⟨fun h => h.elim (fun h => by omega) (fun h => h.2), fun h => .inr ⟨hk, h⟩⟩)⟩
    have R1 := Keep.mk ((HB.out.boxGet k1m).range)
    have R2 := Keep.mk ((HB.out.boxGet k0m).range)
    clear hda hdb hk
    go_wp2_with (first
      | (with_reducible show wpList _ _ _ ({ dst := some 23, op := Op.load 33 _, type := _, pos := _, after := _, guard := _ } :: _) _ _
         refine wpList_load_mid rfl 33 _ rfl _ _ rfl (snv a) _ R1.out hdu.1 hdu.2 info33 ?_)
      | (with_reducible show wpList _ _ _ ({ dst := some 24, op := Op.load 33 _, type := _, pos := _, after := _, guard := _ } :: _) _ _
         refine wpList_load_mid rfl 33 _ rfl _ _ rfl (snv b) _ R2.out hdu.1 hdu.2 info33 ?_))
    refine (rahd_c a b W3).mono ?_
    rintro e W4 ⟨rfl, g4⟩
    replace HB := Keep.mk (HB.out.grown g4)
    clear g4 R1 R2
    go_wp2_with fail
    go_ret
    exact ⟨by rw [HE.out]; rfl, HB.out.g⟩
  · have k1 : (da == db) = false := by simp [hk]
    have k3 : decide (da = db) = false := by simp [hk]
    have HE : Keep (decide (nearer x y a b) = decide (da < db)) := ⟨decide_eq_decide.2 (by
      unfold nearer
      rw [hda, hdb]
      exact ⟨fun h => h.elim (fun h => h) (fun h => absurd h.1 hk), fun h => .inl h⟩)⟩
    clear hda hdb
    go_wp2_with fail
    go_ret
    exact ⟨by rw [HE.out]; rfl, HB.out.g⟩
/-- the list but for one, behind k -/
def wo (L : List Sn) (b k : Nat) : List Sn := (L.take k).eraseIdx b
theorem wo_eq (L : List Sn) (b k : Nat) (x : Sn) (hx : L[k]? = some x) (hkb : k = b) (hb : b < L.length) : wo L b (k + 1) = wo L b k := by
  subst hkb
  unfold wo
  rw [List.take_add_one, hx]
  have hl : (L.take k).length = k := by rw [List.length_take]; omega
  have e2 : (L.take k).eraseIdx k = L.take k := List.eraseIdx_of_length_le (by omega)
  have e1 : (L.take k ++ [x]).eraseIdx k = L.take k ++ [x].eraseIdx (k - (L.take k).length) := List.eraseIdx_append_of_length_le (by omega) [x]
  show (L.take k ++ [x]).eraseIdx k = (L.take k).eraseIdx k
  rw [e1, e2, hl, Nat.sub_self]
  simp
theorem wo_ne (L : List Sn) (b k : Nat) (x : Sn) (hx : L[k]? = some x) (hkb : k ≠ b) : wo L b (k + 1) = wo L b k ++ [x] := by
  unfold wo
  rw [List.take_add_one, hx]
  have hk := (List.getElem?_eq_some_iff.1 hx).1
  have hl : (L.take k).length = k := by rw [List.length_take]; omega
  rcases Nat.lt_or_gt_of_ne hkb with q | q
  · have e : (L.take k ++ (some x).toList).length ≤ b := by simp; omega
    rw [List.eraseIdx_of_length_le e, List.eraseIdx_of_length_le (by omega)]
    rfl
  · rw [List.eraseIdx_append_of_lt_length (by omega)]
    rfl
theorem wo_len (L : List Sn) (b k : Nat) : (wo L b k).length ≤ k := by
  unfold wo
  have := List.length_eraseIdx_le (L.take k) b
  have : (L.take k).length ≤ k := by rw [List.length_take]; omega
  omega
theorem bsN2 (x : Sn) (W : World) : (Instr.buildSlice 27 1 #[(0, .agg (snv x).toArray)]).run Tryz.prog W = .ok (sl W.heap.size 1 1) (W.alloc (.cells (snv x).toArray 33)) := by kernel_rfl
theorem Sep.appSn {w0 W : World} {l : List As} {v : Value} {L : List Sn} {n : Nat} (x : Sn) (hl : L.length = n) (h : Sep w0 W (rowV 33 5 v n (fl snv L) :: l)) (hn : (n + 1) * 40 ≤ 140737488355328) :
    ∃ g k W', (Builtin.append_ #[27, 27] 27 #[v, sl W.heap.size 1 1]).run Tryz.prog (W.alloc (.cells (snv x).toArray 33)) = .ok (sl g (n + 1) k) W' ∧ Sep w0 W' (rowV 33 5 (sl g (n + 1) k) (n + 1) (fl snv (L ++ [x])) :: l) := by
  subst hl
  obtain ⟨i, i1, i2, i3, i4⟩ := infoBN
  obtain ⟨g, k, W', r, S⟩ := Sep.app (t := 27) undN i1 i4 i2 i3 rfl (by decide) h (snv x) rfl (snv_one x) hn (by decide)
  refine ⟨g, k, W', r, ?_⟩
  rw [fl_app, show fl snv [x] = snv x by simp [fl]]
  exact S
set_option maxRecDepth 100000 in
set_option maxHeartbeats 16000000 in
theorem rwo_c (W : World) (va : Value) (A : List Sn) (b : Nat) (ha : Ls snv 5 W va A) (hb : b < A.length) (hn : A.length ≤ 4194304) :
    Calls Tryz.prog 40 #[va, iv b] W fun e W' => ∃ v, e = .returned v ∧ Sep W W' [rowV 33 5 v (A.eraseIdx b).length (fl snv (A.eraseIdx b))] := by
  obtain ⟨aa, ca, rfl, hv⟩ := ha
  obtain ⟨n, hna⟩ : ∃ n, A.length = n := ⟨_, rfl⟩
  rw [hna] at hb hn ⊢
  have HA := Keep.mk hv
  have HNA := Keep.mk hna
  have HBN := Keep.mk (And.intro hb hn)
  have HB : Keep (Sep W W [rowV 33 5 (.slice none 0 0) 0 (fl snv (wo A b 0))]) := ⟨(Sep.nil W).nilV 33 5⟩
  obtain ⟨du, hdu⟩ := under33
  clear hv hna hb hn
  go_enter Tryz.func40, Tryz.ntmps40
  go_wp2_with fail
  go_loopw [5, 6] (fun u5 u6 wr => ∃ (i m : Nat) (av : Option Addr) (cv : Nat), i ≤ n ∧ u6 = iv i ∧ u5 = .slice av m cv ∧ Keep ((wo A b i).length = m ∧ m ≤ i) ∧ Keep (Sep W wr [rowV 33 5 (.slice av m cv) m (fl snv (wo A b i))])) (fun _ u6 _ => (n - intOf u6).toNat)
  case atStart => exact ⟨0, 0, none, 0, Nat.zero_le _, rfl, rfl, ⟨by simp [wo]⟩, HB⟩
  case round =>
    clear HB
    obtain ⟨i, m, av, cv, hi, rfl, rfl, HM, HB⟩ := hrel
    by_cases hlt : i < n
    · have hlt1 : (i : Int) < (n : Int) := by omega
      have hi0 : (0 : Int) ≤ (i : Int) := by omega
      have hit : ((i : Nat) : Int).toNat = i := by omega
      have hiw : IntKind.i64.wrap ((i : Int) + 1) = ((i + 1 : Nat) : Int) := by rw [IntKind.wrap_i64]; have := HBN.out; omega
      obtain ⟨x, hx⟩ : ∃ x, A[i]? = some x := ⟨_, List.getElem?_eq_getElem (by rw [HNA.out]; exact hlt)⟩
      obtain ⟨g1, o1, e1, q1⟩ := HA.out (by rw [HNA.out]; omega)
      subst e1
      have HX : Keep (wr.rangeAt g1 (o1 + i * 5) (snv x)) := ⟨fun r u hu => HB.out.g.cell (q1 i x hx r u hu) (by simp)⟩
      have HXI := Keep.mk hx
      have HIN : Keep (i < n) := ⟨hlt⟩
      clear q1 hx hlt hi
      by_cases hib : i = b
      · have k1 : ((i : Int) == (b : Int)) = true := by simp [hib]
        have k2 : decide ((i : Int) = (b : Int)) = true := by simp [hib]
        have k4 : (i == b) = true := by simp [hib]
        have HW := Keep.mk (wo_eq A b i x HXI.out hib (by rw [HNA.out]; exact HBN.out.1))
        clear hib
        go_wp2_with fail
        go_roundw
        case rel => exact ⟨i + 1, m, av, cv, HIN.out, rfl, rfl, ⟨by rw [HW.out]; have := HM.out; omega⟩, ⟨by rw [HW.out]; exact HB.out⟩⟩
        case measure => simp [intOf]; have := HIN.out; omega
      · have k0 : ¬ (i : Int) = (b : Int) := by omega
        have k1 : ((i : Int) == (b : Int)) = false := beq_eq_false_iff_ne.2 k0
        have k2 : decide ((i : Int) = (b : Int)) = false := decide_eq_false k0
        have k4 : (i == b) = false := by simp [hib]
        have HW := Keep.mk (wo_ne A b i x HXI.out hib)
        obtain ⟨g9, c9, w9, ap, S9⟩ := Sep.appSn x HM.out.1 HB.out (by have := HM.out; have := HBN.out; have := HIN.out; omega)
        have AP := Keep.mk ap
        have HBS := Keep.mk (bsN2 x)
        have HS9 : Keep (Sep W w9 [rowV 33 5 (sl g9 (m + 1) c9) (m + 1) (fl snv (wo A b (i + 1)))]) := ⟨by rw [HW.out]; exact S9⟩
        clear ap S9 hib HB
        go_wp2_with (first
          | (with_reducible show wpList _ _ _ ({ dst := some 20, op := Op.load 33 _, type := _, pos := _, after := _, guard := _ } :: _) _ _
             refine wpList_load_mid rfl 33 _ rfl _ _ rfl (snv x) _ HX.out hdu.1 hdu.2 info33 ?_)
          | (with_reducible show wpList _ _ _ ({ dst := some 21, op := Op.buildSlice 27 _ _, type := _, pos := _, after := _, guard := _ } :: _) _ _
             refine wpList_bs_run rfl (.tmp 20) 27 rfl _ rfl (HBS.out _) ?_)
          | (with_reducible show wpList _ _ _ ({ dst := some 22, op := Op.call { callee := Callee.builtin Builtin.append, args := _, argTypes := _ }, type := _, pos := _, after := _, guard := _ } :: _) _ _
             refine wpList_append_run _ rfl (.tmp 16) (.tmp 21) 27 rfl _ _ rfl rfl AP.out ?_))
        go_roundw
        case rel => exact ⟨i + 1, m + 1, some ⟨g9, 0, none⟩, c9, HIN.out, rfl, rfl, ⟨by rw [HW.out, List.length_append, HM.out.1]; have := HM.out; exact ⟨rfl, by omega⟩⟩, HS9⟩
        case measure => simp [intOf]; have := HIN.out; omega
    · have hlt1 : ¬ (i : Int) < (n : Int) := by omega
      have e : wo A b i = A.eraseIdx b := by unfold wo; rw [List.take_of_length_le (by rw [HNA.out]; omega)]
      rw [e] at HM HB
      clear hlt hi
      go_wp2_with fail
      go_ret
      exact ⟨_, rfl, by rw [HM.out.1]; exact HB.out⟩
end Go.Proofs.YtgedlabmndlooaaGreat

namespace Go.Proofs.YtgedlabmndlooaaGreat
open Go Go.RowKit Go.Maps Go.Shelf Go.Lib Go.Sort

theorem wp_bs1 {P : Program} {o : Oper} {a : Act} {w : World} {K : Act → World → Prop} {Q : Exit → Act → World → Prop} (t : TypeId) (n : Nat) (x : Operand)
    (ho : o.op = .buildSlice t n #[(0, x)]) (u : Value) (hx : a.eval x = u) {v' : Value} {w' : World}
    (hr : (Instr.buildSlice t n #[(0, u)]).run P w = .ok v' w') (h : K (a.put o.dst v') w') : Oper.wp P o a w K Q := by
  unfold Oper.wp execOp
  simp only [ho, Sem.run_bind, Sem.run_pure, Result.andThen_ok, List.map_toArray, List.map_cons, List.map_nil, hx, hr]
  exact h
theorem builtCS (c : Cr) : Tryz.prog.built 33 [(0, iv 1), (1, iv c.pl), (2, .agg [iv c.x, iv c.y].toArray), (3, iv c.hd)] = some (snv (carS c)).toArray := by kernel_rfl
theorem builtSS (s : Sh) : Tryz.prog.built 33 [(0, iv 2), (1, iv s.id), (2, .agg [iv s.x, iv s.y].toArray)] = some (snv (shoS s)).toArray := by kernel_rfl
theorem take_snoc {α : Type} {L : List α} {k : Nat} {d : α} (h : L[k]? = some d) : L.take (k + 1) = L.take k ++ [d] := by rw [List.take_add_one, h]; rfl
set_option maxRecDepth 100000 in
set_option maxHeartbeats 16000000 in
theorem rent_c (W : World) (tick nx p : Int) (vc vs : Value) (LC : List Cr) (LS : List Sh) (hc : Ls crv 14 W vc LC) (hs : Ls shv 7 W vs LS) (hnc : LC.length ≤ 1048576) (hns : LS.length ≤ 1048576) :
    Calls Tryz.prog 37 #[.agg #[.int .u64 tick, vc, vs, iv nx], iv p] W fun e W' => ∃ v, e = .returned v ∧ Sep W W' [rowV 33 5 v (ents LC LS p).length (fl snv (ents LC LS p))] := by
  obtain ⟨ac, cc, rfl, hcr⟩ := hc
  obtain ⟨az, cz, rfl, hsr⟩ := hs
  obtain ⟨nc, hncc⟩ : ∃ n, LC.length = n := ⟨_, rfl⟩
  obtain ⟨ns, hnss⟩ : ∃ n, LS.length = n := ⟨_, rfl⟩
  have HVC := Keep.mk hcr
  have HVS := Keep.mk hsr
  have HN : Keep (LC.length = nc ∧ LS.length = ns ∧ nc ≤ 1048576 ∧ ns ≤ 1048576) := ⟨⟨hncc, hnss, by omega, by omega⟩⟩
  rw [hncc, hnss]
  have S1 := (Sep.nil W).newBox #[.int .u64 tick, .slice ac nc cc, .slice az ns cz, iv nx] 37
  obtain ⟨b2, hb2⟩ : ∃ b, W.heap.size = b := ⟨_, rfl⟩
  obtain ⟨W1, hW1⟩ : ∃ w, W.alloc (.cells #[.int .u64 tick, .slice ac nc cc, .slice az ns cz, iv nx] 37) = w := ⟨_, rfl⟩
  rw [hW1, hb2] at S1
  have HB : Keep (Sep W W1 (rowV 33 5 (.slice none 0 0) 0 (fl snv (entC LC p 0)) :: boxA b2 [.int .u64 tick, .slice ac nc cc, .slice az ns cz, iv nx] 37 :: [])) := ⟨S1.nilV 33 5⟩
  obtain ⟨dc, hdc⟩ := under26
  obtain ⟨du, hdu⟩ := under33
  obtain ⟨dw, hdw⟩ := under24
  clear S1 hcr hsr hncc hnss hnc hns
  go_enter Tryz.func37, Tryz.ntmps37
  go_wp2_with fail
  clear hW1 hb2
  go_loopw [5, 6] (fun u5 u6 wr => ∃ (i m : Nat) (av : Option Addr) (cv : Nat), i ≤ nc ∧ u6 = iv i ∧ u5 = .slice av m cv ∧ Keep ((entC LC p i).length = m ∧ m ≤ i) ∧ Keep (Sep W wr (rowV 33 5 (.slice av m cv) m (fl snv (entC LC p i)) :: boxA b2 [.int .u64 tick, .slice ac nc cc, .slice az ns cz, iv nx] 37 :: []))) (fun _ u6 _ => (nc - intOf u6).toNat)
  case atStart => exact ⟨0, 0, none, 0, Nat.zero_le _, rfl, rfl, ⟨⟨rfl, Nat.le_refl _⟩⟩, HB⟩
  case round =>
    clear HB
    obtain ⟨i, m, av, cv, hi, rfl, rfl, HM, HB⟩ := hrel
    have d1 := (HB.out.boxGet k1m).cellv 1 _ rfl
    by_cases hlt : i < nc
    · have hlt1 : (i : Int) < (nc : Int) := by omega
      have hi0 : (0 : Int) ≤ (i : Int) := by omega
      have hit : ((i : Nat) : Int).toNat = i := by omega
      have hiw : IntKind.i64.wrap ((i : Int) + 1) = ((i + 1 : Nat) : Int) := by rw [IntKind.wrap_i64]; have := HN.out; omega
      obtain ⟨c, hc⟩ : ∃ y, LC[i]? = some y := ⟨_, List.getElem?_eq_getElem (by have := HN.out; omega)⟩
      obtain ⟨g1, o1, e1, q1⟩ := HVC.out (by have := HN.out; omega)
      subst e1
      have HV := Keep.mk q1
      have HR : Keep (wr.rangeAt g1 (o1 + i * 14) (crv c)) := ⟨fun r u hu => HB.out.g.cell (q1 i c hc r u hu) (by simp)⟩
      have HC := Keep.mk hc
      have HIN : Keep (i < nc) := ⟨hlt⟩
      have HON := Keep.mk (crv_one c)
      clear q1 hc hlt hi
      go_wp2_with (first
        | (with_reducible show wpList _ _ _ ({ dst := some 24, op := Op.load 26 _, type := _, pos := _, after := _, guard := _ } :: _) _ _
           refine wpList_load_mid rfl 26 _ rfl _ _ rfl (crv c) _ HR.out hdc.1 hdc.2 info26 ?_)
        | (with_reducible show wpList _ _ _ ({ dst := _, op := Op.store 26 _ _, type := _, pos := _, after := _, guard := _ } :: _) _ _
           refine store_new wr (crv c) 26 rfl rfl rfl rfl rfl info26 HON.out ?_))
      intro w6 hS6 g6
      obtain ⟨cb, hcb⟩ : ∃ b, wr.heap.size = b := ⟨_, rfl⟩
      have S6 := hS6 _ _ HB.out
      rw [hcb] at S6 ⊢
      replace HB := Keep.mk S6
      clear S6 hS6 g6 hcb d1 HON HR
      go_wp2_with fail
      as_aux_lemma =>
        go_loopw [8, 9] (fun u8 u9 wy => ∃ (k : Nat) (fb : Bool), k ≤ i ∧ u9 = iv k ∧ u8 = .bool fb ∧ Keep (fb = true ↔ ∀ d ∈ LC.take k, d.pl ≠ c.pl) ∧ Keep (Sep W wy (boxA cb (crv c) 26 :: rowV 33 5 (.slice av m cv) m (fl snv (entC LC p i)) :: boxA b2 [.int .u64 tick, .slice (some ⟨g1, o1, none⟩) nc cc, .slice az ns cz, iv nx] 37 :: []))) (fun _ u9 _ => (i - intOf u9).toNat)
        case atStart => exact ⟨0, true, Nat.zero_le _, rfl, rfl, ⟨by simp⟩, HB⟩
        case round =>
          clear HB
          obtain ⟨k, fb, hk, rfl, rfl, HF, HB⟩ := hrel
          by_cases hkt : k < i
          · have hk1 : (k : Int) < (i : Int) := by omega
            have hk0 : (0 : Int) ≤ (k : Int) := by omega
            have hkn : ((k : Nat) : Int).toNat = k := by omega
            have hk2 : (k : Int) < (nc : Int) := by have := HIN.out; omega
            have hkw : IntKind.i64.wrap ((k : Int) + 1) = ((k + 1 : Nat) : Int) := by rw [IntKind.wrap_i64]; have := HN.out; have := HIN.out; omega
            obtain ⟨d, hd⟩ : ∃ d, LC[k]? = some d := ⟨_, List.getElem?_eq_getElem (by have := HN.out; have := HIN.out; omega)⟩
            have HKD : Keep (W.cell? ⟨g1, o1 + k * 14, none⟩ = some (iv d.pl)) := ⟨by have q := HV.out k d hd 0 (iv d.pl) rfl; simpa using q⟩
            have HTS := Keep.mk (take_snoc hd)
            have HKT : Keep (k < i) := ⟨hkt⟩
            clear hkt hk hd
            by_cases hEQ0 : d.pl = c.pl
            · have hEQ : (d.pl == c.pl) = true := by simp [hEQ0]
              have hEQ2 : decide (d.pl = c.pl) = true := by simp [hEQ0]
              have HF2 : Keep (false = true ↔ ∀ d ∈ LC.take (k + 1), d.pl ≠ c.pl) := ⟨⟨fun h => Bool.noConfusion h, fun h => absurd hEQ0 (h d (by rw [HTS.out]; exact List.mem_append_right _ (List.mem_singleton.2 rfl)))⟩⟩
              clear hEQ0
              go_wp2_with fail
              refine region_Y (S := fun w' => Sep W w' (boxA cb (crv c) 26 :: rowV 33 5 (.slice av m cv) m (fl snv (entC LC p i)) :: boxA b2 [.int .u64 tick, .slice (some ⟨g1, o1, none⟩) nc cc, .slice az ns cz, iv nx] 37 :: [])) [] (by kernel_rfl) ?_
              obtain ⟨W0, hW0⟩ : ∃ W_, wr.drew = W_ := ⟨_, rfl⟩
              replace HB := Keep.mk (HB.out.grown (gr_drew _ none))
              rw [hW0] at HB ⊢
              clear hW0
              have hHeld : (fun w' => Sep W w' (boxA cb (crv c) 26 :: rowV 33 5 (.slice av m cv) m (fl snv (entC LC p i)) :: boxA b2 [.int .u64 tick, .slice (some ⟨g1, o1, none⟩) nc cc, .slice az ns cz, iv nx] 37 :: [])) W0 := HB.out
              refine yp (i := 0) (v := ?_) rfl (Or.inl ⟨by rfl, ?_⟩) ?_
              rotate_left
              · (intro w hSw; go_simp; first | done | (with_reducible rfl))
              simp only [Act.put, A1, A3, A4, A5, A6]
              refine yt (i := 1) (v := ?_) rfl (Or.inl ⟨by rfl, ?_⟩) (by assumption) ?_
              rotate_left
              · (intro w hSw; have q := (hSw.boxGet k2m).cellv 1 _ rfl; go_simp; first | done | (with_reducible rfl))
              simp only [Act.put, A1, A2, A3, A4, A5, A6]
              refine yp (i := 2) (v := ?_) rfl (Or.inl ⟨by rfl, ?_⟩) ?_
              rotate_left
              · (intro w hSw; go_simp; first | done | (with_reducible rfl))
              simp only [Act.put, A1, A2, A3, A4, A5, A6]
              refine yp (i := 3) (v := ?_) rfl (Or.inl ⟨by rfl, ?_⟩) ?_
              rotate_left
              · (intro w hSw; go_simp; first | done | (with_reducible rfl))
              simp only [Act.put, A1, A2, A3, A4, A5, A6]
              refine yp (i := 4) (v := ?_) rfl (Or.inl ⟨by rfl, ?_⟩) ?_
              rotate_left
              · (intro w hSw; go_simp; first | done | (with_reducible rfl))
              simp only [Act.put, A1, A2, A3, A4, A5, A6]
              refine yt (i := 5) (v := ?_) rfl (Or.inl ⟨by rfl, ?_⟩) (by assumption) ?_
              rotate_left
              · (intro w hSw; have q := hSw.g.cell HKD.out (by simp); go_simp; first | done | (with_reducible rfl))
              simp only [Act.put, A1, A2, A3, A4, A5, A6]
              refine yp (i := 6) (v := ?_) rfl (Or.inl ⟨by rfl, ?_⟩) ?_
              rotate_left
              · (intro w hSw; go_simp; first | done | (with_reducible rfl))
              simp only [Act.put, A1, A2, A3, A4, A5, A6]
              refine yt (i := 7) (v := ?_) rfl (Or.inl ⟨by rfl, ?_⟩) (by assumption) ?_
              rotate_left
              · (intro w hSw; have q := (hSw.boxGet k0m).cellv 0 _ rfl; go_simp; first | done | (with_reducible rfl))
              simp only [Act.put, A1, A2, A3, A4, A5, A6]
              refine yt (i := 8) (v := .bool true) rfl (Or.inl ⟨by rfl, ?_⟩) (by assumption) ?_
              · (intro w hSw; have q := hEQ; have q2 := hEQ2; go_simp; first | done | rfl | (simp; done) | trace_state)
              simp only [Act.put, A1, A2, A3, A4, A5, A6]
              refine wpAnyY_done (by kernel_rfl) ?_ _
              clear hHeld hEQ hEQ2
              go_wp2_with fail
              go_roundw
              case rel => exact ⟨k + 1, false, HKT.out, rfl, rfl, HF2, HB⟩
              case measure => simp [intOf]; have := HKT.out; omega
            · have hEQ : (d.pl == c.pl) = false := by simp [hEQ0]
              have hEQ2 : decide (d.pl = c.pl) = false := by simp [hEQ0]
              have HF2 : Keep (fb = true ↔ ∀ d ∈ LC.take (k + 1), d.pl ≠ c.pl) := ⟨HF.out.trans ⟨fun h e he => by
                rw [HTS.out] at he
                rcases List.mem_append.1 he with he | he
                · exact h e he
                · rw [List.mem_singleton] at he; subst he; exact hEQ0, fun h e he => h e (by rw [HTS.out]; exact List.mem_append_left _ he)⟩⟩
              clear hEQ0
              go_wp2_with fail
              refine region_Y (S := fun w' => Sep W w' (boxA cb (crv c) 26 :: rowV 33 5 (.slice av m cv) m (fl snv (entC LC p i)) :: boxA b2 [.int .u64 tick, .slice (some ⟨g1, o1, none⟩) nc cc, .slice az ns cz, iv nx] 37 :: [])) [] (by kernel_rfl) ?_
              obtain ⟨W0, hW0⟩ : ∃ W_, wr.drew = W_ := ⟨_, rfl⟩
              replace HB := Keep.mk (HB.out.grown (gr_drew _ none))
              rw [hW0] at HB ⊢
              clear hW0
              have hHeld : (fun w' => Sep W w' (boxA cb (crv c) 26 :: rowV 33 5 (.slice av m cv) m (fl snv (entC LC p i)) :: boxA b2 [.int .u64 tick, .slice (some ⟨g1, o1, none⟩) nc cc, .slice az ns cz, iv nx] 37 :: [])) W0 := HB.out
              refine yp (i := 0) (v := ?_) rfl (Or.inl ⟨by rfl, ?_⟩) ?_
              rotate_left
              · (intro w hSw; go_simp; first | done | (with_reducible rfl))
              simp only [Act.put, A1, A3, A4, A5, A6]
              refine yt (i := 1) (v := ?_) rfl (Or.inl ⟨by rfl, ?_⟩) (by assumption) ?_
              rotate_left
              · (intro w hSw; have q := (hSw.boxGet k2m).cellv 1 _ rfl; go_simp; first | done | (with_reducible rfl))
              simp only [Act.put, A1, A2, A3, A4, A5, A6]
              refine yp (i := 2) (v := ?_) rfl (Or.inl ⟨by rfl, ?_⟩) ?_
              rotate_left
              · (intro w hSw; go_simp; first | done | (with_reducible rfl))
              simp only [Act.put, A1, A2, A3, A4, A5, A6]
              refine yp (i := 3) (v := ?_) rfl (Or.inl ⟨by rfl, ?_⟩) ?_
              rotate_left
              · (intro w hSw; go_simp; first | done | (with_reducible rfl))
              simp only [Act.put, A1, A2, A3, A4, A5, A6]
              refine yp (i := 4) (v := ?_) rfl (Or.inl ⟨by rfl, ?_⟩) ?_
              rotate_left
              · (intro w hSw; go_simp; first | done | (with_reducible rfl))
              simp only [Act.put, A1, A2, A3, A4, A5, A6]
              refine yt (i := 5) (v := ?_) rfl (Or.inl ⟨by rfl, ?_⟩) (by assumption) ?_
              rotate_left
              · (intro w hSw; have q := hSw.g.cell HKD.out (by simp); go_simp; first | done | (with_reducible rfl))
              simp only [Act.put, A1, A2, A3, A4, A5, A6]
              refine yp (i := 6) (v := ?_) rfl (Or.inl ⟨by rfl, ?_⟩) ?_
              rotate_left
              · (intro w hSw; go_simp; first | done | (with_reducible rfl))
              simp only [Act.put, A1, A2, A3, A4, A5, A6]
              refine yt (i := 7) (v := ?_) rfl (Or.inl ⟨by rfl, ?_⟩) (by assumption) ?_
              rotate_left
              · (intro w hSw; have q := (hSw.boxGet k0m).cellv 0 _ rfl; go_simp; first | done | (with_reducible rfl))
              simp only [Act.put, A1, A2, A3, A4, A5, A6]
              refine yt (i := 8) (v := .bool false) rfl (Or.inl ⟨by rfl, ?_⟩) (by assumption) ?_
              · (intro w hSw; have q := hEQ; have q2 := hEQ2; go_simp; first | done | rfl | (simp; done) | trace_state)
              simp only [Act.put, A1, A2, A3, A4, A5, A6]
              refine wpAnyY_done (by kernel_rfl) ?_ _
              clear hHeld hEQ hEQ2
              go_wp2_with fail
              go_roundw
              case rel => exact ⟨k + 1, fb, HKT.out, rfl, rfl, HF2, HB⟩
              case measure => simp [intOf]; have := HKT.out; omega
          · have hk1 : ¬ (k : Int) < (i : Int) := by omega
            obtain rfl : k = i := by omega
            clear hkt hk
            have cc0 := (HB.out.boxGet k0m).cellv 0 _ rfl
            have cc4 := (HB.out.boxGet k0m).cellv 6 _ rfl
            have cc9 := (HB.out.boxGet k0m).cellv 11 _ rfl
            cases fb
            · have HE : Keep (entC LC p (k + 1) = entC LC p k) := ⟨by rw [entC_step LC p k c HC.out, if_neg (fun h => Bool.noConfusion (HF.out.2 h.1)), List.append_nil]⟩
              clear cc4
              go_wp2_with fail
              go_roundw
              case rel => exact ⟨k + 1, m, av, cv, HIN.out, rfl, rfl, ⟨by rw [HE.out]; have := HM.out; omega⟩, ⟨by rw [HE.out]; exact HB.out.tail⟩⟩
              case measure => simp [intOf]; have := HIN.out; omega
            · by_cases hp : c.pl = p
              · have k1 : (c.pl == p) = true := by simp [hp]
                have k2 : decide (c.pl = p) = true := by simp [hp]
                have k5 : (c.pl != p) = false := by simp [hp]
                have HE : Keep (entC LC p (k + 1) = entC LC p k) := ⟨by rw [entC_step LC p k c HC.out, if_neg (fun h => h.2.1 hp), List.append_nil]⟩
                clear hp cc4
                go_wp2_with fail
                go_roundw
                case rel => exact ⟨k + 1, m, av, cv, HIN.out, rfl, rfl, ⟨by rw [HE.out]; have := HM.out; omega⟩, ⟨by rw [HE.out]; exact HB.out.tail⟩⟩
                case measure => simp [intOf]; have := HIN.out; omega
              · have k1 : (c.pl == p) = false := by simp [hp]
                have k2 : decide (c.pl = p) = false := by simp [hp]
                have k5 : (c.pl != p) = true := by simp [hp]
                by_cases hw : c.wa ≤ 0
                · have w1 : decide (c.wa ≤ 0) = true := by simp [hw]
                  have HE : Keep (entC LC p (k + 1) = entC LC p k ++ [carS c]) := ⟨by rw [entC_step LC p k c HC.out, if_pos ⟨HF.out.1 rfl, hp, hw⟩]⟩
                  have HR2 : Keep (wr.rangeAt cb 2 [iv c.x, iv c.y]) := ⟨fun j u hu => by
                    rw [Nat.add_comm]
                    refine (HB.out.boxGet k0m).cellv (j + 2) u ?_
                    match j, hu with
                    | 0, hu => exact hu
                    | 1, hu => exact hu⟩
                  obtain ⟨g9, c9, w9, ap, S9⟩ := Sep.appSn (carS c) HM.out.1 HB.out.swap (by have := HM.out.2; have := HN.out; have := HIN.out; omega)
                  have AP := Keep.mk ap
                  have HBS := Keep.mk (bsN2 (carS c))
                  have HBD := Keep.mk (builtCS c)
                  have HS9 : Keep (Sep W w9 (rowV 33 5 (sl g9 (m + 1) c9) (m + 1) (fl snv (entC LC p (k + 1))) :: boxA b2 [.int .u64 tick, .slice (some ⟨g1, o1, none⟩) nc cc, .slice az ns cz, iv nx] 37 :: [])) := ⟨by rw [HE.out]; exact S9.swap.tail⟩
                  clear ap S9 hp
                  go_wp2_with (first
                    | (with_reducible show wpList _ _ _ ({ dst := some 55, op := Op.load 24 _, type := _, pos := _, after := _, guard := _ } :: _) _ _
                       refine wpList_load_mid rfl 24 _ rfl _ _ rfl ([iv c.x, iv c.y]) _ HR2.out hdw.1 hdw.2 info24 ?_)
                    | (with_reducible show wpList _ _ _ ({ dst := some 58, op := Op.build 33 _, type := _, pos := _, after := _, guard := _ } :: _) _ _
                       refine wpList_build rfl 33 _ rfl (snv (carS c)).toArray ((congrArg (Tryz.prog.built 33) (by first | (simp only [List.map_toArray, List.map_cons, List.map_nil, Act.eval]; done) | (simp only [List.map_toArray, List.map_cons, List.map_nil, Act.eval]; with_reducible rfl) | (simp only [List.map_toArray, List.map_cons, List.map_nil, Act.eval]; rfl))).trans HBD.out) ?_
                       simp only [Act.put, List.setIfInBounds_toArray, List.set_cons_zero, List.set_cons_succ])
                    | (with_reducible show wpList _ _ _ ({ dst := some 59, op := Op.buildSlice 27 _ _, type := _, pos := _, after := _, guard := _ } :: _) _ _
                       refine wpList_bs_run rfl (.tmp 58) 27 rfl _ rfl (HBS.out _) ?_)
                    | (with_reducible show wpList _ _ _ ({ dst := some 60, op := Op.call { callee := Callee.builtin Builtin.append, args := _, argTypes := _ }, type := _, pos := _, after := _, guard := _ } :: _) _ _
                       refine wpList_append_run _ rfl (.tmp 51) (.tmp 59) 27 rfl _ _ rfl rfl AP.out ?_))
                  go_roundw
                  case rel => exact ⟨k + 1, m + 1, some ⟨g9, 0, none⟩, c9, HIN.out, rfl, rfl, ⟨by rw [HE.out, List.length_append, HM.out.1]; have := HM.out.2; exact ⟨rfl, by omega⟩⟩, HS9⟩
                  case measure => simp [intOf]; have := HIN.out; omega
                · have w1 : decide (c.wa ≤ 0) = false := by simp [hw]
                  have HE : Keep (entC LC p (k + 1) = entC LC p k) := ⟨by rw [entC_step LC p k c HC.out, if_neg (fun h => hw h.2.2), List.append_nil]⟩
                  clear hp cc4
                  go_wp2_with fail
                  go_roundw
                  case rel => exact ⟨k + 1, m, av, cv, HIN.out, rfl, rfl, ⟨by rw [HE.out]; have := HM.out; omega⟩, ⟨by rw [HE.out]; exact HB.out.tail⟩⟩
                  case measure => simp [intOf]; have := HIN.out; omega

    · have hlt1 : ¬ (i : Int) < (nc : Int) := by omega
      have e : LC.length = i := by have := HN.out.1; omega
      replace HB : Keep (Sep W wr (rowV 33 5 (.slice av m cv) m (fl snv (entC LC p LC.length ++ entS LS 0)) :: boxA b2 [.int .u64 tick, .slice ac nc cc, .slice az ns cz, iv nx] 37 :: [])) := ⟨by rw [e]; show Sep W wr (rowV 33 5 (.slice av m cv) m (fl snv (entC LC p i ++ [])) :: _); rw [List.append_nil]; exact HB.out⟩
      replace HM : Keep ((entC LC p LC.length ++ entS LS 0).length = m ∧ m ≤ nc + 0) := ⟨by rw [e]; show (entC LC p i ++ []).length = m ∧ _; rw [List.append_nil]; have := HM.out; omega⟩
      clear hlt hi e
      go_wp2_with fail
      clear d1
      as_aux_lemma =>
        go_loopw [5, 10] (fun u5 u10 wr => ∃ (i m : Nat) (av : Option Addr) (cv : Nat), i ≤ ns ∧ u10 = iv i ∧ u5 = .slice av m cv ∧ Keep ((entC LC p LC.length ++ entS LS i).length = m ∧ m ≤ nc + i) ∧ Keep (Sep W wr (rowV 33 5 (.slice av m cv) m (fl snv (entC LC p LC.length ++ entS LS i)) :: boxA b2 [.int .u64 tick, .slice ac nc cc, .slice az ns cz, iv nx] 37 :: []))) (fun _ u10 _ => (ns - intOf u10).toNat)
        case atStart => exact ⟨0, m, av, cv, Nat.zero_le _, rfl, rfl, HM, HB⟩
        case round =>
          clear HB HM
          obtain ⟨i, m, av, cv, hi, rfl, rfl, HM, HB⟩ := hrel
          have d2' := (HB.out.boxGet k1m).cellv 2 _ rfl
          by_cases hlt : i < ns
          · have hlt1 : (i : Int) < (ns : Int) := by omega
            have hi0 : (0 : Int) ≤ (i : Int) := by omega
            have hit : ((i : Nat) : Int).toNat = i := by omega
            have hiw : IntKind.i64.wrap ((i : Int) + 1) = ((i + 1 : Nat) : Int) := by rw [IntKind.wrap_i64]; have := HN.out; omega
            obtain ⟨s, hs⟩ : ∃ y, LS[i]? = some y := ⟨_, List.getElem?_eq_getElem (by have := HN.out; omega)⟩
            obtain ⟨g1, o1, e1, q1⟩ := HVS.out (by have := HN.out; omega)
            subst e1
            have HV := Keep.mk q1
            have HID : Keep (W.cell? ⟨g1, o1 + i * 7, none⟩ = some (iv s.id)) := ⟨by have q := q1 i s hs 0 (iv s.id) rfl; simpa using q⟩
            have HXY : Keep (W.rangeAt g1 (o1 + i * 7 + 2) [iv s.x, iv s.y]) := ⟨fun j u hu => by
              have q := q1 i s hs (j + 2) u (by
                match j, hu with
                | 0, hu => exact hu
                | 1, hu => exact hu)
              rw [show o1 + i * 7 + 2 + j = o1 + i * 7 + (j + 2) by omega]
              exact q⟩
            have HBS2 := Keep.mk (builtSS s)
            have HC := Keep.mk hs
            have HIN : Keep (i < ns) := ⟨hlt⟩
            clear q1 hs hlt hi
            go_wp2_with fail
            clear d2'
            as_aux_lemma =>
              go_loopw [11, 12] (fun u11 u12 wy => ∃ (k : Nat) (fb : Bool), k ≤ i ∧ u12 = iv k ∧ u11 = .bool fb ∧ Keep (fb = true ↔ ∀ d ∈ LS.take k, d.id ≠ s.id) ∧ Keep (Sep W wy (rowV 33 5 (.slice av m cv) m (fl snv (entC LC p LC.length ++ entS LS i)) :: boxA b2 [.int .u64 tick, .slice ac nc cc, .slice (some ⟨g1, o1, none⟩) ns cz, iv nx] 37 :: []))) (fun _ u12 _ => (i - intOf u12).toNat)
              case atStart => exact ⟨0, true, Nat.zero_le _, rfl, rfl, ⟨by simp⟩, HB⟩
              case round =>
                clear HB
                obtain ⟨k, fb, hk, rfl, rfl, HF, HB⟩ := hrel
                by_cases hkt : k < i
                · have hk1 : (k : Int) < (i : Int) := by omega
                  have hk0 : (0 : Int) ≤ (k : Int) := by omega
                  have hkn : ((k : Nat) : Int).toNat = k := by omega
                  have hk2 : (k : Int) < (ns : Int) := by have := HIN.out; omega
                  have hkw : IntKind.i64.wrap ((k : Int) + 1) = ((k + 1 : Nat) : Int) := by rw [IntKind.wrap_i64]; have := HN.out; have := HIN.out; omega
                  obtain ⟨d, hd⟩ : ∃ d, LS[k]? = some d := ⟨_, List.getElem?_eq_getElem (by have := HN.out; have := HIN.out; omega)⟩
                  have HKD : Keep (W.cell? ⟨g1, o1 + k * 7, none⟩ = some (iv d.id)) := ⟨by have q := HV.out k d hd 0 (iv d.id) rfl; simpa using q⟩
                  have HTS := Keep.mk (take_snoc hd)
                  have HKT : Keep (k < i) := ⟨hkt⟩
                  clear hkt hk hd
                  by_cases hEQ0 : d.id = s.id
                  · have hEQ : (d.id == s.id) = true := by simp [hEQ0]
                    have hEQ2 : decide (d.id = s.id) = true := by simp [hEQ0]
                    have HF2 : Keep (false = true ↔ ∀ d ∈ LS.take (k + 1), d.id ≠ s.id) := ⟨⟨fun h => Bool.noConfusion h, fun h => absurd hEQ0 (h d (by rw [HTS.out]; exact List.mem_append_right _ (List.mem_singleton.2 rfl)))⟩⟩
                    clear hEQ0
                    go_wp2_with fail
                    refine region_Y (S := fun w' => Sep W w' (rowV 33 5 (.slice av m cv) m (fl snv (entC LC p LC.length ++ entS LS i)) :: boxA b2 [.int .u64 tick, .slice ac nc cc, .slice (some ⟨g1, o1, none⟩) ns cz, iv nx] 37 :: [])) [] (by kernel_rfl) ?_
                    obtain ⟨W0, hW0⟩ : ∃ W_, wr.drew = W_ := ⟨_, rfl⟩
                    replace HB := Keep.mk (HB.out.grown (gr_drew _ none))
                    rw [hW0] at HB ⊢
                    clear hW0
                    have hHeld : (fun w' => Sep W w' (rowV 33 5 (.slice av m cv) m (fl snv (entC LC p LC.length ++ entS LS i)) :: boxA b2 [.int .u64 tick, .slice ac nc cc, .slice (some ⟨g1, o1, none⟩) ns cz, iv nx] 37 :: [])) W0 := HB.out
                    refine yp (i := 0) (v := ?_) rfl (Or.inl ⟨by rfl, ?_⟩) ?_
                    rotate_left
                    · (intro w hSw; go_simp; first | done | (with_reducible rfl))
                    simp only [Act.put, A1, A3, A4, A5, A6]
                    refine yt (i := 1) (v := ?_) rfl (Or.inl ⟨by rfl, ?_⟩) (by assumption) ?_
                    rotate_left
                    · (intro w hSw; have q := (hSw.boxGet k1m).cellv 2 _ rfl; go_simp; first | done | (with_reducible rfl))
                    simp only [Act.put, A1, A2, A3, A4, A5, A6]
                    refine yp (i := 2) (v := ?_) rfl (Or.inl ⟨by rfl, ?_⟩) ?_
                    rotate_left
                    · (intro w hSw; go_simp; first | done | (with_reducible rfl))
                    simp only [Act.put, A1, A2, A3, A4, A5, A6]
                    refine yp (i := 3) (v := ?_) rfl (Or.inl ⟨by rfl, ?_⟩) ?_
                    rotate_left
                    · (intro w hSw; go_simp; first | done | (with_reducible rfl))
                    simp only [Act.put, A1, A2, A3, A4, A5, A6]
                    refine yp (i := 4) (v := ?_) rfl (Or.inl ⟨by rfl, ?_⟩) ?_
                    rotate_left
                    · (intro w hSw; go_simp; first | done | (with_reducible rfl))
                    simp only [Act.put, A1, A2, A3, A4, A5, A6]
                    refine yt (i := 5) (v := ?_) rfl (Or.inl ⟨by rfl, ?_⟩) (by assumption) ?_
                    rotate_left
                    · (intro w hSw; have q := hSw.g.cell HKD.out (by simp); go_simp; first | done | (with_reducible rfl))
                    simp only [Act.put, A1, A2, A3, A4, A5, A6]
                    refine yp (i := 6) (v := ?_) rfl (Or.inl ⟨by rfl, ?_⟩) ?_
                    rotate_left
                    · (intro w hSw; go_simp; first | done | (with_reducible rfl))
                    simp only [Act.put, A1, A2, A3, A4, A5, A6]
                    refine yt (i := 7) (v := ?_) rfl (Or.inl ⟨by rfl, ?_⟩) (by assumption) ?_
                    rotate_left
                    · (intro w hSw; have q := (hSw.boxGet k1m).cellv 2 _ rfl; go_simp; first | done | (with_reducible rfl))
                    simp only [Act.put, A1, A2, A3, A4, A5, A6]
                    refine yp (i := 8) (v := ?_) rfl (Or.inl ⟨by rfl, ?_⟩) ?_
                    rotate_left
                    · (intro w hSw; go_simp; first | done | (with_reducible rfl))
                    simp only [Act.put, A1, A2, A3, A4, A5, A6]
                    refine yp (i := 9) (v := ?_) rfl (Or.inl ⟨by rfl, ?_⟩) ?_
                    rotate_left
                    · (intro w hSw; go_simp; first | done | (with_reducible rfl))
                    simp only [Act.put, A1, A2, A3, A4, A5, A6]
                    refine yp (i := 10) (v := ?_) rfl (Or.inl ⟨by rfl, ?_⟩) ?_
                    rotate_left
                    · (intro w hSw; go_simp; first | done | (with_reducible rfl))
                    simp only [Act.put, A1, A2, A3, A4, A5, A6]
                    refine yt (i := 11) (v := ?_) rfl (Or.inl ⟨by rfl, ?_⟩) (by assumption) ?_
                    rotate_left
                    · (intro w hSw; have q := hSw.g.cell HID.out (by simp); go_simp; first | done | (with_reducible rfl))
                    simp only [Act.put, A1, A2, A3, A4, A5, A6]
                    refine yt (i := 12) (v := .bool true) rfl (Or.inl ⟨by rfl, ?_⟩) (by assumption) ?_
                    · (intro w hSw; have q := hEQ; have q2 := hEQ2; go_simp; first | done | rfl | (simp; done) | trace_state)
                    simp only [Act.put, A1, A2, A3, A4, A5, A6]
                    refine wpAnyY_done (by kernel_rfl) ?_ _
                    clear hHeld hEQ hEQ2
                    go_wp2_with fail
                    go_roundw
                    case rel => exact ⟨k + 1, false, HKT.out, rfl, rfl, HF2, HB⟩
                    case measure => simp [intOf]; have := HKT.out; omega
                  · have hEQ : (d.id == s.id) = false := by simp [hEQ0]
                    have hEQ2 : decide (d.id = s.id) = false := by simp [hEQ0]
                    have HF2 : Keep (fb = true ↔ ∀ d ∈ LS.take (k + 1), d.id ≠ s.id) := ⟨HF.out.trans ⟨fun h e he => by
                      rw [HTS.out] at he
                      rcases List.mem_append.1 he with he | he
                      · exact h e he
                      · rw [List.mem_singleton] at he; subst he; exact hEQ0, fun h e he => h e (by rw [HTS.out]; exact List.mem_append_left _ he)⟩⟩
                    clear hEQ0
                    go_wp2_with fail
                    refine region_Y (S := fun w' => Sep W w' (rowV 33 5 (.slice av m cv) m (fl snv (entC LC p LC.length ++ entS LS i)) :: boxA b2 [.int .u64 tick, .slice ac nc cc, .slice (some ⟨g1, o1, none⟩) ns cz, iv nx] 37 :: [])) [] (by kernel_rfl) ?_
                    obtain ⟨W0, hW0⟩ : ∃ W_, wr.drew = W_ := ⟨_, rfl⟩
                    replace HB := Keep.mk (HB.out.grown (gr_drew _ none))
                    rw [hW0] at HB ⊢
                    clear hW0
                    have hHeld : (fun w' => Sep W w' (rowV 33 5 (.slice av m cv) m (fl snv (entC LC p LC.length ++ entS LS i)) :: boxA b2 [.int .u64 tick, .slice ac nc cc, .slice (some ⟨g1, o1, none⟩) ns cz, iv nx] 37 :: [])) W0 := HB.out
                    refine yp (i := 0) (v := ?_) rfl (Or.inl ⟨by rfl, ?_⟩) ?_
                    rotate_left
                    · (intro w hSw; go_simp; first | done | (with_reducible rfl))
                    simp only [Act.put, A1, A3, A4, A5, A6]
                    refine yt (i := 1) (v := ?_) rfl (Or.inl ⟨by rfl, ?_⟩) (by assumption) ?_
                    rotate_left
                    · (intro w hSw; have q := (hSw.boxGet k1m).cellv 2 _ rfl; go_simp; first | done | (with_reducible rfl))
                    simp only [Act.put, A1, A2, A3, A4, A5, A6]
                    refine yp (i := 2) (v := ?_) rfl (Or.inl ⟨by rfl, ?_⟩) ?_
                    rotate_left
                    · (intro w hSw; go_simp; first | done | (with_reducible rfl))
                    simp only [Act.put, A1, A2, A3, A4, A5, A6]
                    refine yp (i := 3) (v := ?_) rfl (Or.inl ⟨by rfl, ?_⟩) ?_
                    rotate_left
                    · (intro w hSw; go_simp; first | done | (with_reducible rfl))
                    simp only [Act.put, A1, A2, A3, A4, A5, A6]
                    refine yp (i := 4) (v := ?_) rfl (Or.inl ⟨by rfl, ?_⟩) ?_
                    rotate_left
                    · (intro w hSw; go_simp; first | done | (with_reducible rfl))
                    simp only [Act.put, A1, A2, A3, A4, A5, A6]
                    refine yt (i := 5) (v := ?_) rfl (Or.inl ⟨by rfl, ?_⟩) (by assumption) ?_
                    rotate_left
                    · (intro w hSw; have q := hSw.g.cell HKD.out (by simp); go_simp; first | done | (with_reducible rfl))
                    simp only [Act.put, A1, A2, A3, A4, A5, A6]
                    refine yp (i := 6) (v := ?_) rfl (Or.inl ⟨by rfl, ?_⟩) ?_
                    rotate_left
                    · (intro w hSw; go_simp; first | done | (with_reducible rfl))
                    simp only [Act.put, A1, A2, A3, A4, A5, A6]
                    refine yt (i := 7) (v := ?_) rfl (Or.inl ⟨by rfl, ?_⟩) (by assumption) ?_
                    rotate_left
                    · (intro w hSw; have q := (hSw.boxGet k1m).cellv 2 _ rfl; go_simp; first | done | (with_reducible rfl))
                    simp only [Act.put, A1, A2, A3, A4, A5, A6]
                    refine yp (i := 8) (v := ?_) rfl (Or.inl ⟨by rfl, ?_⟩) ?_
                    rotate_left
                    · (intro w hSw; go_simp; first | done | (with_reducible rfl))
                    simp only [Act.put, A1, A2, A3, A4, A5, A6]
                    refine yp (i := 9) (v := ?_) rfl (Or.inl ⟨by rfl, ?_⟩) ?_
                    rotate_left
                    · (intro w hSw; go_simp; first | done | (with_reducible rfl))
                    simp only [Act.put, A1, A2, A3, A4, A5, A6]
                    refine yp (i := 10) (v := ?_) rfl (Or.inl ⟨by rfl, ?_⟩) ?_
                    rotate_left
                    · (intro w hSw; go_simp; first | done | (with_reducible rfl))
                    simp only [Act.put, A1, A2, A3, A4, A5, A6]
                    refine yt (i := 11) (v := ?_) rfl (Or.inl ⟨by rfl, ?_⟩) (by assumption) ?_
                    rotate_left
                    · (intro w hSw; have q := hSw.g.cell HID.out (by simp); go_simp; first | done | (with_reducible rfl))
                    simp only [Act.put, A1, A2, A3, A4, A5, A6]
                    refine yt (i := 12) (v := .bool false) rfl (Or.inl ⟨by rfl, ?_⟩) (by assumption) ?_
                    · (intro w hSw; have q := hEQ; have q2 := hEQ2; go_simp; first | done | rfl | (simp; done) | trace_state)
                    simp only [Act.put, A1, A2, A3, A4, A5, A6]
                    refine wpAnyY_done (by kernel_rfl) ?_ _
                    clear hHeld hEQ hEQ2
                    go_wp2_with fail
                    go_roundw
                    case rel => exact ⟨k + 1, fb, HKT.out, rfl, rfl, HF2, HB⟩
                    case measure => simp [intOf]; have := HKT.out; omega
                · have hk1 : ¬ (k : Int) < (i : Int) := by omega
                  obtain rfl : k = i := by omega
                  clear hkt hk
                  cases fb
                  · have HE : Keep (entS LS (k + 1) = entS LS k) := ⟨by rw [entS_step LS k s HC.out, if_neg (fun h => Bool.noConfusion (HF.out.2 h)), List.append_nil]⟩
                    go_wp2_with fail
                    go_roundw
                    case rel => exact ⟨k + 1, m, av, cv, HIN.out, rfl, rfl, ⟨by rw [HE.out]; have := HM.out; omega⟩, ⟨by rw [HE.out]; exact HB.out⟩⟩
                    case measure => simp [intOf]; have := HIN.out; omega
                  · have HE : Keep (entC LC p LC.length ++ entS LS (k + 1) = (entC LC p LC.length ++ entS LS k) ++ [shoS s]) := ⟨by rw [entS_step LS k s HC.out, if_pos (HF.out.1 rfl), List.append_assoc]⟩
                    go_wp2_with fail
                    refine region_Y (S := fun w' => Sep W w' (boxA b2 [.int .u64 tick, .slice ac nc cc, .slice (some ⟨g1, o1, none⟩) ns cz, iv nx] 37 :: [])) [] (by kernel_rfl) ?_
                    obtain ⟨W0, hW0⟩ : ∃ W_, wr.drew = W_ := ⟨_, rfl⟩
                    replace HB := Keep.mk (HB.out.grown (gr_drew _ none))
                    rw [hW0] at HB ⊢
                    clear hW0
                    have hHeld : (fun w' => Sep W w' (boxA b2 [.int .u64 tick, .slice ac nc cc, .slice (some ⟨g1, o1, none⟩) ns cz, iv nx] 37 :: [])) W0 := HB.out.tail
                    refine yp (i := 0) (v := ?_) rfl (Or.inl ⟨by rfl, ?_⟩) ?_
                    rotate_left
                    · (intro w hSw; go_simp; first | done | (with_reducible rfl))
                    simp only [Act.put, A1, A3, A4, A5, A6]
                    refine yp (i := 1) (v := ?_) rfl (Or.inl ⟨by rfl, ?_⟩) ?_
                    rotate_left
                    · (intro w hSw; go_simp; first | done | (with_reducible rfl))
                    simp only [Act.put, A1, A2, A3, A4, A5, A6]
                    refine yt (i := 2) (v := ?_) rfl (Or.inl ⟨by rfl, ?_⟩) (by assumption) ?_
                    rotate_left
                    · (intro w hSw; have q := (hSw.boxGet k0m).cellv 2 _ rfl; go_simp; first | done | (with_reducible rfl))
                    simp only [Act.put, A1, A2, A3, A4, A5, A6]
                    refine yp (i := 3) (v := ?_) rfl (Or.inl ⟨by rfl, ?_⟩) ?_
                    rotate_left
                    · (intro w hSw; go_simp; first | done | (with_reducible rfl))
                    simp only [Act.put, A1, A2, A3, A4, A5, A6]
                    refine yp (i := 4) (v := ?_) rfl (Or.inl ⟨by rfl, ?_⟩) ?_
                    rotate_left
                    · (intro w hSw; go_simp; first | done | (with_reducible rfl))
                    simp only [Act.put, A1, A2, A3, A4, A5, A6]
                    refine yp (i := 5) (v := ?_) rfl (Or.inl ⟨by rfl, ?_⟩) ?_
                    rotate_left
                    · (intro w hSw; go_simp; first | done | (with_reducible rfl))
                    simp only [Act.put, A1, A2, A3, A4, A5, A6]
                    refine yt (i := 6) (v := ?_) rfl (Or.inl ⟨by rfl, ?_⟩) (by assumption) ?_
                    rotate_left
                    · (intro w hSw; have q := hSw.g.cell HID.out (by simp); go_simp; first | done | (with_reducible rfl))
                    simp only [Act.put, A1, A2, A3, A4, A5, A6]
                    refine yp (i := 7) (v := ?_) rfl (Or.inl ⟨by rfl, ?_⟩) ?_
                    rotate_left
                    · (intro w hSw; go_simp; first | done | (with_reducible rfl))
                    simp only [Act.put, A1, A2, A3, A4, A5, A6]
                    refine yt (i := 8) (v := ?_) rfl (Or.inl ⟨by rfl, ?_⟩) (by assumption) ?_
                    rotate_left
                    · (intro w hSw; have q := (hSw.boxGet k0m).cellv 2 _ rfl; go_simp; first | done | (with_reducible rfl))
                    simp only [Act.put, A1, A2, A3, A4, A5, A6]
                    refine yp (i := 9) (v := ?_) rfl (Or.inl ⟨by rfl, ?_⟩) ?_
                    rotate_left
                    · (intro w hSw; go_simp; first | done | (with_reducible rfl))
                    simp only [Act.put, A1, A2, A3, A4, A5, A6]
                    refine yp (i := 10) (v := ?_) rfl (Or.inl ⟨by rfl, ?_⟩) ?_
                    rotate_left
                    · (intro w hSw; go_simp; first | done | (with_reducible rfl))
                    simp only [Act.put, A1, A2, A3, A4, A5, A6]
                    refine yp (i := 11) (v := ?_) rfl (Or.inl ⟨by rfl, ?_⟩) ?_
                    rotate_left
                    · (intro w hSw; go_simp; first | done | (with_reducible rfl))
                    simp only [Act.put, A1, A2, A3, A4, A5, A6]
                    refine yt (i := 12) (v := .agg ([iv s.x, iv s.y]).toArray) rfl (yieldsIf_load_mid (by rfl) 24 _ rfl _ _ rfl _ _ (fun w hSw => fun r u hu => hSw.g.cell (HXY.out r u hu) (by simp)) hdw.1 hdw.2 info24) (by assumption) ?_
                    simp only [Act.put, A1, A2, A3, A4, A5, A6]
                    refine yp (i := 13) (v := .agg (snv (shoS s)).toArray) rfl (yieldsIf_build (by rfl) 33 _ rfl _ ?_) ?_
                    · refine (congrArg (Tryz.prog.built 33) ?_).trans HBS2.out
                      simp only [List.map_toArray, List.map_cons, List.map_nil]
                      rfl
                    simp only [Act.put, A1, A2, A3, A4, A5, A6]
                    refine wpAnyY_one (i := 14) (by kernel_rfl) rfl (fun K hK => ?_)
                    have bs := bsN2 (shoS s) W0
                    have g6 := gr_alloc W0 (.cells (snv (shoS s)).toArray 33) none
                    obtain ⟨g9, c9, w9, ap, S9⟩ := Sep.appSn (shoS s) HM.out.1 HB.out (by have := HM.out.2; have := HN.out; have := HIN.out; omega)
                    have AP := Keep.mk ap
                    have HS9 := Keep.mk S9
                    clear ap S9
                    obtain ⟨w6, hw6⟩ : ∃ w, W0.alloc (.cells (snv (shoS s)).toArray 33) = w := ⟨_, rfl⟩
                    obtain ⟨b6, hb6⟩ : ∃ b, W0.heap.size = b := ⟨_, rfl⟩
                    rw [hw6, hb6] at bs AP
                    rw [hw6] at g6
                    rw [if_pos (show Region.wanted _ _ = true from rfl)]
                    refine wp_bs1 27 1 (.tmp 100) rfl _ rfl bs ?_
                    refine hK.out _ _ (fun h => h.grown g6) ?_
                    clear hK K hHeld bs hw6 hb6 HB g6
                    simp only [Act.put, A1, A2, A3, A4, A5, A6]
                    refine wpAnyY_one (i := 15) (by kernel_rfl) rfl (fun K hK => ?_)
                    rw [if_pos (show Region.wanted _ _ = true from rfl)]
                    refine wp_append_run (.tmp 87) (.tmp 101) 27 rfl _ _ rfl rfl AP.out ?_
                    refine hK.out _ _ (fun _ => HS9.out.tail) ?_
                    clear hK K AP
                    simp only [Act.put, A1, A2, A3, A4, A5, A6]
                    refine wpAnyY_one (i := 16) (by kernel_rfl) rfl (fun K hK => ?_)
                    go_simp
                    refine hK.out _ _ (fun h => h) ?_
                    clear hK K
                    refine wpAnyY_done (by kernel_rfl) ?_ _
                    have HF9 : Keep (Sep W w9 (rowV 33 5 (sl g9 (m + 1) c9) (m + 1) (fl snv (entC LC p LC.length ++ entS LS (k + 1))) :: boxA b2 [.int .u64 tick, .slice ac nc cc, .slice (some ⟨g1, o1, none⟩) ns cz, iv nx] 37 :: [])) := ⟨by rw [HE.out]; exact HS9.out⟩
                    clear HS9
                    go_wp2_with fail
                    go_roundw
                    case rel => exact ⟨k + 1, m + 1, some ⟨g9, 0, none⟩, c9, HIN.out, rfl, rfl, ⟨by rw [HE.out, List.length_append, HM.out.1]; have := HM.out.2; exact ⟨rfl, by omega⟩⟩, HF9⟩
                    case measure => simp [intOf]; have := HIN.out; omega
          · have hlt1 : ¬ (i : Int) < (ns : Int) := by omega
            obtain rfl : i = ns := by omega
            have HE : Keep (ents LC LS p = entC LC p LC.length ++ entS LS i ∧ (ents LC LS p).length = m) := ⟨by
              have e : ents LC LS p = entC LC p LC.length ++ entS LS i := by unfold ents; rw [HN.out.2.1]
              exact ⟨e, by rw [e]; exact HM.out.1⟩⟩
            clear hlt hi
            go_wp2_with fail
            go_ret
            exact ⟨_, rfl, by rw [HE.out.2, HE.out.1]; exact Sep.dropM (l := []) [_] [_] HB.out⟩

end Go.Proofs.YtgedlabmndlooaaGreat
