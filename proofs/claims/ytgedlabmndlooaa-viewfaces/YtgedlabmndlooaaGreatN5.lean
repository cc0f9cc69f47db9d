/- N4, N5 -/
import Derived.Test.YtgedlabmndlooaaGreatN3
import Derived.Deep.DeepCutAuto
namespace Go.Proofs.YtgedlabmndlooaaGreat
open Go

/-- a player behind the first j -/
def Gt (C : List Cr) (j : Nat) (x : Int) : Prop := ∀ c ∈ C.take j, c.pl < x
theorem Gt.zero (C : List Cr) (x : Int) : Gt C 0 x := by intro c hc; simp at hc
theorem gt_last {C : List Cr} (hs : C.Pairwise (fun a b => a.pl < b.pl)) {j : Nat} {c : Cr} (hc : C[j]? = some c) (x : Int) : Gt C (j + 1) x ↔ c.pl < x := by
  constructor
  · intro h
    exact h c (by rw [List.take_add_one, hc]; exact List.mem_append_right _ (List.mem_singleton.2 rfl))
  · intro h d hd
    rw [List.take_add_one, hc] at hd
    rcases List.mem_append.1 hd with hd | hd
    · obtain ⟨k, hk, e⟩ := List.mem_take_iff_getElem.1 hd
      obtain ⟨hj, e2⟩ := List.getElem?_eq_some_iff.1 hc
      have q := List.pairwise_iff_getElem.1 hs k j (by omega) hj (by omega)
      rw [e, e2] at q
      omega
    · have e : d = c := by simpa using hd
      rw [e]
      exact h
/-- the best of the first i cars -/
def Ab (LC C : List Cr) (j i : Nat) (b : Int) : Prop :=
  (b = -1 ∧ ∀ k c, k < i → LC[k]? = some c → ¬ Gt C j c.pl) ∨ (∃ (n : Nat) (cb : Cr), b = (n : Int) ∧ n < i ∧ LC[n]? = some cb ∧ Gt C j cb.pl ∧ ∀ k c, k < i → LC[k]? = some c → Gt C j c.pl → cb.pl ≤ c.pl)
theorem Ab.start (LC C : List Cr) (j : Nat) : Ab LC C j 0 (-1) := .inl ⟨rfl, fun k c hk => by omega⟩
theorem Ab.skip {LC C : List Cr} {j i : Nat} {b : Int} {c : Cr} (h : Ab LC C j i b) (hc : LC[i]? = some c) (hg : ¬ Gt C j c.pl) : Ab LC C j (i + 1) b := by
  rcases h with ⟨e, q⟩ | ⟨n, cb, e, h1, h2, h3, q⟩
  · refine .inl ⟨e, fun k d hk hd => ?_⟩
    by_cases ek : k = i
    · subst ek; rw [hc] at hd; injection hd with hd; subst hd; exact hg
    · exact q k d (by omega) hd
  · refine .inr ⟨n, cb, e, by omega, h2, h3, fun k d hk hd hgd => ?_⟩
    by_cases ek : k = i
    · subst ek; rw [hc] at hd; injection hd with hd; subst hd; exact absurd hgd hg
    · exact q k d (by omega) hd hgd
theorem Ab.new {LC C : List Cr} {j i : Nat} {c : Cr} (h : Ab LC C j i (-1)) (hc : LC[i]? = some c) (hg : Gt C j c.pl) : Ab LC C j (i + 1) (i : Int) := by
  rcases h with ⟨e, q⟩ | ⟨n, cb, e, h1, h2, h3, q⟩
  · refine .inr ⟨i, c, rfl, by omega, hc, hg, fun k d hk hd hgd => ?_⟩
    by_cases ek : k = i
    · subst ek; rw [hc] at hd; injection hd with hd; subst hd; exact Int.le_refl _
    · exact absurd hgd (q k d (by omega) hd)
  · omega
theorem Ab.less {LC C : List Cr} {j i n : Nat} {c cb : Cr} (h : Ab LC C j i (n : Int)) (hb : LC[n]? = some cb) (hc : LC[i]? = some c) (hg : Gt C j c.pl) (hl : c.pl < cb.pl) : Ab LC C j (i + 1) (i : Int) := by
  rcases h with ⟨e, q⟩ | ⟨n', cb', e, h1, h2, h3, q⟩
  · omega
  · obtain rfl : n = n' := by omega
    rw [hb] at h2
    injection h2 with h2
    subst h2
    refine .inr ⟨i, c, rfl, by omega, hc, hg, fun k d hk hd hgd => ?_⟩
    by_cases ek : k = i
    · subst ek; rw [hc] at hd; injection hd with hd; subst hd; exact Int.le_refl _
    · have := q k d (by omega) hd hgd
      omega
theorem Ab.keep {LC C : List Cr} {j i n : Nat} {c cb : Cr} (h : Ab LC C j i (n : Int)) (hb : LC[n]? = some cb) (hc : LC[i]? = some c) (hl : ¬ c.pl < cb.pl) : Ab LC C j (i + 1) (n : Int) := by
  rcases h with ⟨e, q⟩ | ⟨n', cb', e, h1, h2, h3, q⟩
  · omega
  · obtain rfl : n = n' := by omega
    rw [hb] at h2
    injection h2 with h2
    subst h2
    refine .inr ⟨n, cb, rfl, by omega, hb, h3, fun k d hk hd hgd => ?_⟩
    by_cases ek : k = i
    · subst ek; rw [hc] at hd; injection hd with hd; subst hd; omega
    · exact q k d (by omega) hd hgd
theorem Ab.cases {LC C : List Cr} {j i : Nat} {b : Int} (h : Ab LC C j i b) : b = -1 ∨ ∃ (n : Nat) (cb : Cr), b = (n : Int) ∧ n < i ∧ LC[n]? = some cb := by
  rcases h with ⟨e, _⟩ | ⟨n, cb, e, h1, h2, _⟩
  · exact .inl e
  · exact .inr ⟨n, cb, e, h1, h2⟩
theorem fst_mem {LC C : List Cr} (h : Fst1 (fun c : Cr => c.pl) LC C) {c : Cr} (hc : c ∈ C) : c ∈ LC := List.mem_of_find?_eq_some ((h.2 c).1 hc)
theorem gt_at {C : List Cr} (hs : C.Pairwise (fun a b => a.pl < b.pl)) {j : Nat} {c : Cr} (hc : C[j]? = some c) : Gt C j c.pl := by
  intro d hd
  obtain ⟨k, hk, e⟩ := List.mem_take_iff_getElem.1 hd
  obtain ⟨hj, e2⟩ := List.getElem?_eq_some_iff.1 hc
  have q := List.pairwise_iff_getElem.1 hs k j (by omega) hj (by omega)
  rw [e, e2] at q
  exact q
theorem Ab.end0 {LC C : List Cr} (hF : Fst1 (fun c : Cr => c.pl) LC C) {j : Nat} (h : Ab LC C j LC.length (-1)) : C.length ≤ j := by
  refine Classical.byContradiction fun hn => ?_
  obtain ⟨c, hc⟩ : ∃ c, C[j]? = some c := ⟨_, List.getElem?_eq_getElem (by omega)⟩
  obtain ⟨k, hk⟩ := List.mem_iff_getElem?.1 (fst_mem hF (List.mem_of_getElem? hc))
  rcases h with ⟨_, q⟩ | ⟨n, cb, e, _⟩
  · exact q k c (List.getElem?_eq_some_iff.1 hk).1 hk (gt_at hF.1 hc)
  · omega
theorem Ab.end1 {LC C : List Cr} (hF : Fst1 (fun c : Cr => c.pl) LC C) {j n : Nat} {cb : Cr} (hb : LC[n]? = some cb) (h : Ab LC C j LC.length (n : Int)) : ∃ c, C[j]? = some c ∧ c.pl = cb.pl ∧ LC.find? (fun d => d.pl == cb.pl) = some c := by
  rcases h with ⟨e, q⟩ | ⟨n', cb', e, h1, h2, h3, q⟩
  · omega
  · obtain rfl : n = n' := by omega
    rw [hb] at h2
    injection h2 with h2
    subst h2
    obtain ⟨c', hc'⟩ : ∃ c', LC.find? (fun d => d.pl == cb.pl) = some c' := by
      cases hf : LC.find? (fun d => d.pl == cb.pl) with
      | none =>
        have := List.find?_eq_none.1 hf cb (List.mem_of_getElem? hb)
        simp at this
      | some c' => exact ⟨c', rfl⟩
    have e1 : c'.pl = cb.pl := by
      have := List.find?_some hc'
      simpa using this
    have m1 : c' ∈ C := (hF.2 c').2 (by show LC.find? (fun y => y.pl == c'.pl) = some c'; rw [e1]; exact hc')
    obtain ⟨k, hk⟩ := List.mem_iff_getElem?.1 m1
    have hkl := (List.getElem?_eq_some_iff.1 hk).1
    have hkj : j ≤ k := Classical.byContradiction fun hn => by
      have := h3 c' (List.mem_take_iff_getElem.2 ⟨k, by omega, (List.getElem?_eq_some_iff.1 hk).2⟩)
      omega
    obtain ⟨c, hc⟩ : ∃ c, C[j]? = some c := ⟨_, List.getElem?_eq_getElem (by omega)⟩
    obtain ⟨k2, hk2⟩ := List.mem_iff_getElem?.1 (fst_mem hF (List.mem_of_getElem? hc))
    have g1 := q k2 c (List.getElem?_eq_some_iff.1 hk2).1 hk2 (gt_at hF.1 hc)
    by_cases ejk : j = k
    · subst ejk
      rw [hc] at hk
      injection hk with hk
      subst hk
      exact ⟨c, hc, e1, hc'⟩
    · obtain ⟨hj, e2⟩ := List.getElem?_eq_some_iff.1 hc
      have := List.pairwise_iff_getElem.1 hF.1 j k hj hkl (by omega)
      rw [e2, (List.getElem?_eq_some_iff.1 hk).2] at this
      simp only at this
      omega
end Go.Proofs.YtgedlabmndlooaaGreat

namespace Go.Proofs.YtgedlabmndlooaaGreat
open Go Go.RowKit Go.Maps Go.Shelf Go.Lib Go.Sort

/-- what the reference's All answers -/
structure AlW (W W' : World) (tick : Int) (LC C : List Cr) (LS : List Sh) (rad sho : Int) (v : Value) : Prop where
  o : ∃ (Vs : List Vt), Vs.map (fun q => q.1) = C ∧ (∀ q ∈ Vs, (∃ a n c, q.2.1 = .slice a n c) ∧ Told (ents LC LS q.1.pl) q.1.pl q.1.x q.1.y (65536 * kpZ rad 1024) (kpZ sho 32).toNat q.2.2 ∧ q.2.2.length ≤ 32) ∧ Sep W W' (rowV 29 16 v Vs.length (fl (vwE tick) Vs) :: Vs.map rwE)
theorem fst_len {LC C : List Cr} (h : Fst1 (fun c : Cr => c.pl) LC C) : C.length ≤ LC.length := by
  have nd : ∀ (A B : List Cr), A.Nodup → (∀ t ∈ A, t ∈ B) → A.length ≤ B.length := by
    intro A
    induction A with
    | nil => intro B _ _; exact Nat.zero_le _
    | cons a A ih =>
      intro B h hs
      obtain ⟨h1, h2⟩ := List.nodup_cons.1 h
      obtain ⟨B1, B2, e⟩ := List.append_of_mem (hs a (List.mem_cons_self ..))
      have q := ih (B1 ++ B2) h2 (fun t ht => by
        have := hs t (List.mem_cons_of_mem _ ht)
        rw [e] at this
        rcases List.mem_append.1 this with k | k
        · exact List.mem_append_left _ k
        · rcases List.mem_cons.1 k with rfl | k
          · exact absurd ht h1
          · exact List.mem_append_right _ k)
      rw [e]
      simp only [List.length_append, List.length_cons] at q ⊢
      omega
  exact nd C LC (h.1.imp (fun q e => by subst e; exact Int.lt_irrefl _ q)) (fun t ht => fst_mem h ht)
theorem Ab.end0' {LC C : List Cr} {j i : Nat} (h : Ab LC C j i (-1)) (hF : Fst1 (fun c : Cr => c.pl) LC C) (hi : LC.length = i) : C.length ≤ j := by
  subst hi
  exact Ab.end0 hF h
theorem Ab.end1' {LC C : List Cr} (hF : Fst1 (fun c : Cr => c.pl) LC C) {j n i : Nat} {cb : Cr} (hi : LC.length = i) (hb : LC[n]? = some cb) (h : Ab LC C j i (n : Int)) : ∃ c, C[j]? = some c ∧ c.pl = cb.pl ∧ LC.find? (fun d => d.pl == cb.pl) = some c := by
  subst hi
  exact Ab.end1 hF hb h
theorem ofT_yes {tick : Int} {LC : List Cr} {LS : List Sh} {p r s tk : Int} {ow c : Cr} {T : List Sn} {cd : Int} (hc : LC.find? (fun c => c.pl == p) = some c) (h : OfT tick LC LS p r s tk ow T cd) : 0 = cd ∧ c = ow ∧ tick = tk ∧ Told (ents LC LS p) p c.x c.y (65536 * kpZ r 1024) (kpZ s 32).toNat T := by
  rcases h with ⟨a, _⟩ | ⟨o, a, h1, h2, h3, h4⟩
  · rw [hc] at a; cases a
  · rw [hc] at a
    injection a with a
    subst a
    exact ⟨h1.symm, h2.symm, h3.symm, h4⟩
set_option maxRecDepth 100000 in
set_option maxHeartbeats 16000000 in
theorem rall_c (W : World) (tick nx rad sho : Int) (vc vs : Value) (LC C : List Cr) (LS : List Sh) (hS : StO W vc vs LC LS) (hn : LC.length + LS.length ≤ 1048576) (hF : Fst1 (fun c : Cr => c.pl) LC C) :
    Calls Tryz.prog 25 #[.agg #[.int .u64 tick, vc, vs, iv nx], iv rad, iv sho] W fun e W' => ∃ v, e = .returned v ∧ AlW W W' tick LC C LS rad sho v := by
  obtain ⟨ac, cc, rfl, hcr⟩ := hS.c
  obtain ⟨nc, hnc⟩ : ∃ n, LC.length = n := ⟨_, rfl⟩
  rw [hnc] at hS ⊢
  have HST := Keep.mk hS
  have HNN := Keep.mk hn
  have HNC : Keep (LC.length = nc ∧ nc ≤ 1048576) := ⟨⟨hnc, by omega⟩⟩
  have HVC := Keep.mk hcr
  have HF := Keep.mk hF
  have HJC : Keep (C.length ≤ nc) := ⟨by rw [← hnc]; exact fst_len hF⟩
  have S1 := (Sep.nil W).newBox #[.int .u64 tick, .slice ac nc cc, vs, iv nx] 37
  obtain ⟨b3, hb3⟩ : ∃ b, W.heap.size = b := ⟨_, rfl⟩
  obtain ⟨W1, hW1⟩ : ∃ w, W.alloc (.cells #[.int .u64 tick, .slice ac nc cc, vs, iv nx] 37) = w := ⟨_, rfl⟩
  rw [hW1, hb3] at S1
  have HB : Keep (Sep W W1 (rowV 29 16 (.slice none 0 0) 0 (fl (vwE tick) []) :: boxA b3 [.int .u64 tick, .slice ac nc cc, vs, iv nx] 37 :: ([] : List Vt).map rwE)) := ⟨S1.nilV 29 16⟩
  obtain ⟨dv, hdv⟩ := under29
  obtain ⟨ds, hds⟩ := under37
  clear S1 hS hn hnc hcr hF
  go_enter Tryz.func25, Tryz.ntmps25
  go_wp2_with fail
  clear hW1 hb3
  go_loopw [7, 8, 9, 10, 11, 12] (fun u7 u8 u9 u10 u11 u12 wr => ∃ (Vs : List Vt) (j : Nat) (aO : Option Addr) (cO : Nat), u7 = .slice aO j cO ∧ j ≤ C.length ∧ Keep (Vs.length = j ∧ Vs.map (fun q => q.1) = C.take j ∧ ∀ q ∈ Vs, (∃ a n c, q.2.1 = .slice a n c) ∧ Told (ents LC LS q.1.pl) q.1.pl q.1.x q.1.y (65536 * kpZ rad 1024) (kpZ sho 32).toNat q.2.2 ∧ q.2.2.length ≤ 32) ∧ Keep (Sep W wr (rowV 29 16 (.slice aO j cO) j (fl (vwE tick) Vs) :: boxA b3 [.int .u64 tick, .slice ac nc cc, vs, iv nx] 37 :: Vs.map rwE))) (fun u7 _ _ _ _ _ _ => C.length + 1 - lnOf u7)
  case atStart => exact ⟨[], 0, none, 0, rfl, Nat.zero_le _, ⟨⟨rfl, rfl, nofun⟩⟩, HB⟩
  case round =>
    clear HB
    obtain ⟨Vs, j, aO, cO, rfl, hj, HVs, HB⟩ := hrel
    have HJC2 : Keep (j ≤ C.length) := ⟨hj⟩
    replace HJC : Keep (j ≤ nc) := ⟨Nat.le_trans hj HJC.out⟩
    clear hj
    go_wp2_with fail
    as_aux_lemma =>
      go_loopw [8, 9, 10] (fun u8 u9 u10 wr => ∃ (i : Nat) (b : Int), i ≤ nc ∧ u9 = iv i ∧ u8 = iv b ∧ Keep (Ab LC C j i b) ∧ Keep (Sep W wr (rowV 29 16 (.slice aO j cO) j (fl (vwE tick) Vs) :: boxA b3 [.int .u64 tick, .slice ac nc cc, vs, iv nx] 37 :: Vs.map rwE))) (fun _ u9 _ _ => (nc - intOf u9).toNat)
      case atStart => exact ⟨0, -1, Nat.zero_le _, rfl, rfl, ⟨Ab.start _ _ _⟩, HB⟩
      case round =>
        clear HB
        obtain ⟨i, b, hi, rfl, rfl, HAb, HB⟩ := hrel
        have d1 := (HB.out.boxGet k1m).cellv 1 _ rfl
        by_cases hlt : i < nc
        · have hlt1 : (i : Int) < (nc : Int) := by omega
          have hi0 : (0 : Int) ≤ (i : Int) := by omega
          have hit : ((i : Nat) : Int).toNat = i := by omega
          have hiw : IntKind.i64.wrap ((i : Int) + 1) = ((i + 1 : Nat) : Int) := by rw [IntKind.wrap_i64]; have := HNC.out; omega
          obtain ⟨c, hc⟩ : ∃ y, LC[i]? = some y := ⟨_, List.getElem?_eq_getElem (by have := HNC.out; omega)⟩
          obtain ⟨g1, o1, e1, q1⟩ := HVC.out (by have := HNC.out; omega)
          subst e1
          have HV := Keep.mk q1
          have l0 : wr.cell? ⟨g1, o1 + i * 14, none⟩ = some (iv c.pl) := HB.out.g.cell (by have q := q1 i c hc 0 (iv c.pl) rfl; simpa using q) (by simp)
          have HCI := Keep.mk hc
          have HIN : Keep (i < nc) := ⟨hlt⟩
          clear q1 hc hlt hi
          by_cases hj : j = 0
          · subst hj
            have HG : Keep (Gt C 0 c.pl) := ⟨Gt.zero _ _⟩
            rcases HAb.out.cases with hbn | ⟨n, cb, hbn, hni, hcb⟩
            · subst hbn
              have HAN := Keep.mk (HAb.out.new HCI.out HG.out)
              go_wp2_with fail
              go_roundw
              case rel => exact ⟨i + 1, (i : Int), HIN.out, rfl, rfl, HAN, HB⟩
              case measure => simp [intOf]; have := HIN.out; omega
            · subst hbn
              have hn1 : ¬ (n : Int) < 0 := by omega
              have hn2 : (n : Int) < (nc : Int) := by have := HIN.out; omega
              have hn0 : (0 : Int) ≤ (n : Int) := by omega
              have hnt : ((n : Nat) : Int).toNat = n := by omega
              have p1 : wr.cell? ⟨g1, o1 + n * 14, none⟩ = some (iv cb.pl) := HB.out.g.cell (by have q := HV.out n cb hcb 0 (iv cb.pl) rfl; simpa using q) (by simp)
              have HCB := Keep.mk hcb
              clear hni hcb
              by_cases hcc : c.pl < cb.pl
              · have HAN := Keep.mk (HAb.out.less HCB.out HCI.out HG.out hcc)
                go_wp2_with fail
                go_roundw
                case rel => exact ⟨i + 1, (i : Int), HIN.out, rfl, rfl, HAN, HB⟩
                case measure => simp [intOf]; have := HIN.out; omega
              · have HAN := Keep.mk (HAb.out.keep HCB.out HCI.out hcc)
                go_wp2_with fail
                go_roundw
                case rel => exact ⟨i + 1, (n : Int), HIN.out, rfl, rfl, HAN, HB⟩
                case measure => simp [intOf]; have := HIN.out; omega
          · obtain ⟨j', rfl⟩ : ∃ j', j = j' + 1 := ⟨j - 1, by omega⟩
            obtain ⟨q, hq⟩ : ∃ q, Vs[j']? = some q := ⟨_, List.getElem?_eq_getElem (by have := HVs.out.1; omega)⟩
            obtain ⟨gO, hgO⟩ := row_blk HB.out k0m (by omega)
            subst hgO
            have w1 : wr.cell? ⟨gO, j' * 16 + 1, none⟩ = some (iv q.1.pl) := fl_range (vwE_len tick) (HB.out.rowGet k0m) (by omega) j' q hq 1 (iv q.1.pl) rfl
            have HGI : Keep (Gt C (j' + 1) c.pl ↔ q.1.pl < c.pl) := ⟨gt_last HF.out.1 (by
              have e : (Vs.map (fun q => q.1))[j']? = some q.1 := by rw [List.getElem?_map, hq]; rfl
              rw [HVs.out.2.1, List.getElem?_take_of_lt (by omega)] at e
              exact e) _⟩
            have j1 : (0 : Int) < ((j' + 1 : Nat) : Int) := by omega
            have j2 : IntKind.i64.wrap (((j' + 1 : Nat) : Int) - 1) = (j' : Int) := by rw [IntKind.wrap_i64]; have := HNC.out; have := HJC.out; omega
            have j5 : IntKind.i64.wrap ((j' : Int) + 1 - 1) = (j' : Int) := by rw [IntKind.wrap_i64]; have := HNC.out; have := HJC.out; omega
            have j3 : (0 : Int) ≤ (j' : Int) := by omega
            have j9 : IntKind.i64.wrap (j' : Int) = (j' : Int) := by rw [IntKind.wrap_i64]; have := HNC.out; have := HJC.out; omega
            have j4 : (j' : Int) < ((j' + 1 : Nat) : Int) := by omega
            have j6 : (j' : Int) < (j' : Int) + 1 := by omega
            have j7 : ((j' : Nat) : Int).toNat = j' := by omega
            have j8 : (0 : Int) < (j' : Int) + 1 := by omega
            clear hj hq
            by_cases hle : c.pl ≤ q.1.pl
            · have HAN := Keep.mk (HAb.out.skip HCI.out (fun h => by have := HGI.out.1 h; omega))
              go_wp2_with fail
              go_roundw
              case rel => exact ⟨i + 1, b, HIN.out, rfl, rfl, HAN, HB⟩
              case measure => simp [intOf]; have := HIN.out; omega
            · have HG : Keep (Gt C (j' + 1) c.pl) := ⟨HGI.out.2 (by omega)⟩
              rcases HAb.out.cases with hbn | ⟨n, cb, hbn, hni, hcb⟩
              · subst hbn
                have HAN := Keep.mk (HAb.out.new HCI.out HG.out)
                go_wp2_with fail
                go_roundw
                case rel => exact ⟨i + 1, (i : Int), HIN.out, rfl, rfl, HAN, HB⟩
                case measure => simp [intOf]; have := HIN.out; omega
              · subst hbn
                have hn1 : ¬ (n : Int) < 0 := by omega
                have hn2 : (n : Int) < (nc : Int) := by have := HIN.out; omega
                have hn0 : (0 : Int) ≤ (n : Int) := by omega
                have hnt : ((n : Nat) : Int).toNat = n := by omega
                have p1 : wr.cell? ⟨g1, o1 + n * 14, none⟩ = some (iv cb.pl) := HB.out.g.cell (by have q := HV.out n cb hcb 0 (iv cb.pl) rfl; simpa using q) (by simp)
                have HCB := Keep.mk hcb
                clear hni hcb
                by_cases hcc : c.pl < cb.pl
                · have HAN := Keep.mk (HAb.out.less HCB.out HCI.out HG.out hcc)
                  go_wp2_with fail
                  go_roundw
                  case rel => exact ⟨i + 1, (i : Int), HIN.out, rfl, rfl, HAN, HB⟩
                  case measure => simp [intOf]; have := HIN.out; omega
                · have HAN := Keep.mk (HAb.out.keep HCB.out HCI.out hcc)
                  go_wp2_with fail
                  go_roundw
                  case rel => exact ⟨i + 1, (n : Int), HIN.out, rfl, rfl, HAN, HB⟩
                  case measure => simp [intOf]; have := HIN.out; omega
        · have hlt1 : ¬ (i : Int) < (nc : Int) := by omega
          obtain rfl : i = nc := by omega
          clear hlt hi
          rcases HAb.out.cases with hbn | ⟨n, cb, hbn, hni, hcb⟩
          · subst hbn
            have HE : Keep (C.take j = C) := ⟨List.take_of_length_le ((HAb.out : Ab LC C j i (-1)).end0' HF.out HNC.out.1)⟩
            go_wp2_with fail
            go_ret
            exact ⟨_, rfl, ⟨Vs, by rw [HVs.out.2.1, HE.out], HVs.out.2.2, by rw [HVs.out.1]; exact Sep.dropM [_] [_] HB.out⟩⟩
          · subst hbn
            have hn1 : ¬ (n : Int) < 0 := by omega
            have hn2 : (n : Int) < (i : Int) := by omega
            have hn0 : (0 : Int) ≤ (n : Int) := by omega
            have hnt : ((n : Nat) : Int).toNat = n := by omega
            obtain ⟨g1, o1, e1, q1⟩ := HVC.out (by have := HNC.out; omega)
            subst e1
            have HBP : Keep (W.cell? ⟨g1, o1 + n * 14, none⟩ = some (iv cb.pl)) := ⟨by have q := q1 n cb hcb 0 (iv cb.pl) rfl; simpa using q⟩
            obtain ⟨c, hcj, hcp, hcf⟩ := Ab.end1' HF.out HNC.out.1 hcb HAb.out
            have HCJ := Keep.mk hcf
            have HCP := Keep.mk hcp
            have HCK := Keep.mk hcj
            clear q1 hcb hni hcj hcp hcf
            go_upto_region 12 with fail
            go_cut [11, 12] (fun u11 u12 wx => ∃ (vb : Nat) (a5 : Option Addr) (n5 c5 : Nat) (T5 : List Sn), u11 = pt vb ∧ Keep (T5.length = n5 ∧ n5 ≤ 32 ∧ Told (ents LC LS c.pl) c.pl c.x c.y (65536 * kpZ rad 1024) (kpZ sho 32).toNat T5) ∧ Keep (Sep W wx (boxA vb (vwv tick c (.slice a5 n5 c5)) 29 :: rowV 33 5 (.slice a5 n5 c5) n5 (fl snv T5) :: rowV 29 16 (.slice aO j cO) j (fl (vwE tick) Vs) :: boxA b3 [.int .u64 tick, .slice (some ⟨g1, o1, none⟩) i cc, vs, iv nx] 37 :: Vs.map rwE)))
            case first =>
              go_wp2_with fail
              refine region_Y (S := fun w' => Sep W w' (rowV 29 16 (.slice aO j cO) j (fl (vwE tick) Vs) :: boxA b3 [.int .u64 tick, .slice (some ⟨g1, o1, none⟩) i cc, vs, iv nx] 37 :: Vs.map rwE)) [14] (by kernel_rfl) ?_
              obtain ⟨W0, hW0⟩ : ∃ W_, wr.drew = W_ := ⟨_, rfl⟩
              replace HB := Keep.mk (HB.out.grown (gr_drew _ none))
              rw [hW0] at HB ⊢
              clear hW0
              have hHeld : (fun w' => Sep W w' (rowV 29 16 (.slice aO j cO) j (fl (vwE tick) Vs) :: boxA b3 [.int .u64 tick, .slice (some ⟨g1, o1, none⟩) i cc, vs, iv nx] 37 :: Vs.map rwE)) W0 := HB.out
              refine yt (i := 0) (v := .agg ([.int .u64 tick, .slice (some ⟨g1, o1, none⟩) i cc, vs, iv nx]).toArray) rfl (yieldsIf_load_mid (by rfl) 37 _ rfl _ _ rfl _ _ (fun w hSw => (hSw.boxGet k1m).range) hds.1 hds.2 info37) (by assumption) ?_
              simp only [Act.put, A1, A3, A4, A5, A6]
              refine yp (i := 1) (v := ?_) rfl (Or.inl ⟨by rfl, ?_⟩) ?_
              rotate_left
              · (intro w hSw; go_simp; first | done | (with_reducible rfl))
              simp only [Act.put, A1, A2, A3, A4, A5, A6]
              refine yt (i := 2) (v := ?_) rfl (Or.inl ⟨by rfl, ?_⟩) (by assumption) ?_
              rotate_left
              · (intro w hSw; have q := (hSw.boxGet k1m).cellv 1 _ rfl; go_simp; first | done | (with_reducible rfl))
              simp only [Act.put, A1, A2, A3, A4, A5, A6]
              refine yp (i := 3) (v := ?_) rfl (Or.inl ⟨by rfl, ?_⟩) ?_
              rotate_left
              · (intro w hSw; go_simp; first | done | (with_reducible rfl))
              simp only [Act.put, A1, A2, A3, A4, A5, A6]
              refine yp (i := 4) (v := ?_) rfl (Or.inl ⟨by rfl, ?_⟩) ?_
              rotate_left
              · (intro w hSw; go_simp; first | done | (with_reducible rfl))
              simp only [Act.put, A1, A2, A3, A4, A5, A6]
              refine yp (i := 5) (v := ?_) rfl (Or.inl ⟨by rfl, ?_⟩) ?_
              rotate_left
              · (intro w hSw; go_simp; first | done | (with_reducible rfl))
              simp only [Act.put, A1, A2, A3, A4, A5, A6]
              refine yt (i := 6) (v := ?_) rfl (Or.inl ⟨by rfl, ?_⟩) (by assumption) ?_
              rotate_left
              · (intro w hSw; have q := hSw.g.cell HBP.out (by simp); go_simp; first | done | (with_reducible rfl))
              simp only [Act.put, A1, A2, A3, A4, A5, A6]
              refine yp (i := 7) (v := ?_) rfl (Or.inl ⟨by rfl, ?_⟩) ?_
              rotate_left
              · (intro w hSw; go_simp; first | done | (with_reducible rfl))
              simp only [Act.put, A1, A2, A3, A4, A5, A6]
              refine yp (i := 8) (v := ?_) rfl (Or.inl ⟨by rfl, ?_⟩) ?_
              rotate_left
              · (intro w hSw; go_simp; first | done | (with_reducible rfl))
              simp only [Act.put, A1, A2, A3, A4, A5, A6]
              refine wpAnyY_two (i := 9) (j := 13) (by kernel_rfl) rfl rfl (fun K hK => ?_) (fun K hK => ?_)
              · go_simp
                refine (rof_c W0 tick nx cb.pl rad sho (.slice (some ⟨g1, o1, none⟩) i cc) vs LC LS (HST.out.kept HB.out.g) HNN.out).mono ?_
                rintro e wo1 hOf
                obtain ⟨tk5, ow5, a5, n5, c5, T5, cd5, rfl, h51, h52, S5, h53⟩ := hOf.o
                obtain ⟨rfl, rfl, rfl, h54⟩ := ofT_yes HCJ.out h53
                have HT5 : Keep (T5.length = n5 ∧ n5 ≤ 32 ∧ Told (ents LC LS c.pl) c.pl c.x c.y (65536 * kpZ rad 1024) (kpZ sho 32).toNat T5) := ⟨⟨h51, h52, by rw [HCP.out]; exact h54⟩⟩
                have HB6 := Keep.mk (HB.out.join S5)
                clear h51 h52 h53 h54 hOf S5 HB
                have HB := HB6
                clear HB6
                refine hK.out _ _ (fun _ => HB.out.tail) ?_
                clear hK K hHeld
                refine yp (i := 10) (v := ?_) rfl (Or.inl ⟨by rfl, ?_⟩) ?_
                rotate_left
                · (intro w hSw; go_simp; first | done | (with_reducible rfl))
                simp only [Act.put, A1, A2, A3, A4, A5, A6]
                refine yp (i := 11) (v := ?_) rfl (Or.inl ⟨by rfl, ?_⟩) ?_
                rotate_left
                · (intro w hSw; go_simp; first | done | (with_reducible rfl))
                simp only [Act.put, A1, A2, A3, A4, A5, A6]
                refine yp (i := 12) (v := ?_) rfl (Or.inl ⟨by rfl, ?_⟩) ?_
                rotate_left
                · (intro w hSw; go_simp; first | done | (with_reducible rfl))
                simp only [Act.put, A1, A2, A3, A4, A5, A6]
                refine wpAnyY_one (i := 13) (by kernel_rfl) rfl (fun K hK => ?_)
                have S_ := HB.out.newBox #[.int .u64 0, iv 0, .string { data := #[] }, iv 0, iv 0, iv 0, iv 0, iv 0, iv 0, iv 0, iv 0, iv 0, iv 0, iv 0, iv 0, .slice none 0 0] 29
                have ga := World.grownBy_alloc wo1 (.cells #[.int .u64 0, iv 0, .string { data := #[] }, iv 0, iv 0, iv 0, iv 0, iv 0, iv 0, iv 0, iv 0, iv 0, iv 0, iv 0, iv 0, .slice none 0 0] 29) none
                obtain ⟨wa2, hwa⟩ : ∃ W_, wo1.alloc (.cells #[.int .u64 0, iv 0, .string { data := #[] }, iv 0, iv 0, iv 0, iv 0, iv 0, iv 0, iv 0, iv 0, iv 0, iv 0, iv 0, iv 0, .slice none 0 0] 29) = W_ := ⟨_, rfl⟩
                obtain ⟨vb, hvb⟩ : ∃ b_, wo1.heap.size = b_ := ⟨_, rfl⟩
                rw [hwa, hvb] at S_
                rw [hwa] at ga
                replace HB := Keep.mk S_
                clear S_
                go_simp
                clear hwa hvb
                refine hK.out _ _ (fun h => h.grown ga) ?_
                clear hK K ga
                refine wpAnyY_late (i := 14) (by kernel_rfl) rfl (by kernel_rfl) (fun K hK => ?_)
                rw [if_pos (show Region.wanted _ _ = true from rfl)]
                refine wp_store_mid 29 _ _ rfl vb 0 (vwv tick c (.slice a5 n5 c5)).toArray rfl rfl ((HB.out.boxGet k0m).there 0 16 (Nat.le_refl _)) info29 (all_oneCell_toArray (vwv_one tick c (.slice a5 n5 c5) ⟨_, _, _, rfl⟩)) ?_
                have S_ := HB.out.boxTurn ((HB.out.boxGet k0m).setCells (vwv tick c (.slice a5 n5 c5)) 0) (gr_sets _ _ _ _)
                replace HB := Keep.mk S_
                clear S_
                refine hK.out _ _ ?_
                clear hK K
                change Keep (Sep W (World.setCells wa2 vb 0 (vwv tick c (.slice a5 n5 c5))) _) at HB
                show wpAnyY _ _ _ _ _ _ _ _ _ (World.setCells wa2 vb 0 (vwv tick c (.slice a5 n5 c5)))
                generalize World.setCells wa2 vb 0 (vwv tick c (.slice a5 n5 c5)) = ws3 at HB ⊢
                simp only [Act.put, A1, A2, A3]
                refine wpAnyY_one (i := 15) (by kernel_rfl) rfl (fun K hK => ?_)
                go_simp
                refine hK.out _ _ (fun h => h) ?_
                clear hK K
                refine wpAnyY_done (by kernel_rfl) ?_ _
                go_wp2_with fail
                go_meet
                exact ⟨vb, a5, n5, c5, T5, rfl, HT5, HB⟩
              · have S_ := HB.out.newBox #[.int .u64 0, iv 0, .string { data := #[] }, iv 0, iv 0, iv 0, iv 0, iv 0, iv 0, iv 0, iv 0, iv 0, iv 0, iv 0, iv 0, .slice none 0 0] 29
                have ga := World.grownBy_alloc W0 (.cells #[.int .u64 0, iv 0, .string { data := #[] }, iv 0, iv 0, iv 0, iv 0, iv 0, iv 0, iv 0, iv 0, iv 0, iv 0, iv 0, iv 0, .slice none 0 0] 29) none
                obtain ⟨wa5, hwa⟩ : ∃ W_, W0.alloc (.cells #[.int .u64 0, iv 0, .string { data := #[] }, iv 0, iv 0, iv 0, iv 0, iv 0, iv 0, iv 0, iv 0, iv 0, iv 0, iv 0, iv 0, .slice none 0 0] 29) = W_ := ⟨_, rfl⟩
                obtain ⟨vb, hvb⟩ : ∃ b_, W0.heap.size = b_ := ⟨_, rfl⟩
                rw [hwa, hvb] at S_
                rw [hwa] at ga
                replace HB := Keep.mk S_
                clear S_
                go_simp
                clear hwa hvb
                refine hK.out _ _ (fun h => h.grown ga) ?_
                clear hK K ga
                refine wpAnyY_one (i := 9) (by kernel_rfl) rfl (fun K hK => ?_)
                go_simp
                refine (rof_c wa5 tick nx cb.pl rad sho (.slice (some ⟨g1, o1, none⟩) i cc) vs LC LS (HST.out.kept HB.out.g) HNN.out).mono ?_
                rintro e wo6 hOf
                obtain ⟨tk5, ow5, a5, n5, c5, T5, cd5, rfl, h51, h52, S5, h53⟩ := hOf.o
                obtain ⟨rfl, rfl, rfl, h54⟩ := ofT_yes HCJ.out h53
                have HT5 : Keep (T5.length = n5 ∧ n5 ≤ 32 ∧ Told (ents LC LS c.pl) c.pl c.x c.y (65536 * kpZ rad 1024) (kpZ sho 32).toNat T5) := ⟨⟨h51, h52, by rw [HCP.out]; exact h54⟩⟩
                have HB6 := Keep.mk (HB.out.join S5)
                clear h51 h52 h53 h54 hOf S5 HB
                have HB := Keep.mk HB6.out.swap
                clear HB6
                refine hK.out _ _ (fun _ => HB.out.tail.tail) ?_
                clear hK K hHeld
                refine yp (i := 10) (v := ?_) rfl (Or.inl ⟨by rfl, ?_⟩) ?_
                rotate_left
                · (intro w hSw; go_simp; first | done | (with_reducible rfl))
                simp only [Act.put, A1, A2, A3, A4, A5, A6]
                refine yp (i := 11) (v := ?_) rfl (Or.inl ⟨by rfl, ?_⟩) ?_
                rotate_left
                · (intro w hSw; go_simp; first | done | (with_reducible rfl))
                simp only [Act.put, A1, A2, A3, A4, A5, A6]
                refine yp (i := 12) (v := ?_) rfl (Or.inl ⟨by rfl, ?_⟩) ?_
                rotate_left
                · (intro w hSw; go_simp; first | done | (with_reducible rfl))
                simp only [Act.put, A1, A2, A3, A4, A5, A6]
                refine wpAnyY_late (i := 14) (by kernel_rfl) rfl (by kernel_rfl) (fun K hK => ?_)
                rw [if_pos (show Region.wanted _ _ = true from rfl)]
                refine wp_store_mid 29 _ _ rfl vb 0 (vwv tick c (.slice a5 n5 c5)).toArray rfl rfl ((HB.out.boxGet k0m).there 0 16 (Nat.le_refl _)) info29 (all_oneCell_toArray (vwv_one tick c (.slice a5 n5 c5) ⟨_, _, _, rfl⟩)) ?_
                have S_ := HB.out.boxTurn ((HB.out.boxGet k0m).setCells (vwv tick c (.slice a5 n5 c5)) 0) (gr_sets _ _ _ _)
                replace HB := Keep.mk S_
                clear S_
                refine hK.out _ _ ?_
                clear hK K
                change Keep (Sep W (World.setCells wo6 vb 0 (vwv tick c (.slice a5 n5 c5))) _) at HB
                show wpAnyY _ _ _ _ _ _ _ _ _ (World.setCells wo6 vb 0 (vwv tick c (.slice a5 n5 c5)))
                generalize World.setCells wo6 vb 0 (vwv tick c (.slice a5 n5 c5)) = ws7 at HB ⊢
                simp only [Act.put, A1, A2, A3]
                refine wpAnyY_one (i := 15) (by kernel_rfl) rfl (fun K hK => ?_)
                go_simp
                refine hK.out _ _ (fun h => h) ?_
                clear hK K
                refine wpAnyY_done (by kernel_rfl) ?_ _
                go_wp2_with fail
                go_meet
                exact ⟨vb, a5, n5, c5, T5, rfl, HT5, HB⟩

            case rest =>
            rename World => wc
            obtain ⟨vb, a5, n5, c5, T5, rfl, HT5, HB2⟩ := hcut
            clear HB d1
            have HRV := Keep.mk ((HB2.out.boxGet k0m).range)
            obtain ⟨g9, c9, w9, ap, S9⟩ := Sep.appV (tick := tick) (c, Value.slice a5 n5 c5, T5) ⟨_, _, _, rfl⟩ (Vs := Vs) (v := .slice aO j cO) (by rw [HVs.out.1]; exact fr1 [_, _] HB2.out) (by rw [HVs.out.1]; have := HNC.out; have := HJC.out; omega)
            have AP : Keep ((Builtin.append_ #[52, 52] 52 #[.slice aO j cO, sl wc.heap.size 1 1]).run Tryz.prog (wc.alloc (.cells (vwv tick c (.slice a5 n5 c5)).toArray 29)) = .ok (sl g9 (j + 1) c9) w9) := ⟨by rw [HVs.out.1] at ap; exact ap⟩
            have HBS := Keep.mk (bsV tick c (.slice a5 n5 c5) ⟨_, _, _, rfl⟩)
            have HV9 : Keep ((Vs ++ [(c, Value.slice a5 n5 c5, T5)]).length = j + 1 ∧ (Vs ++ [(c, Value.slice a5 n5 c5, T5)]).map (fun q => q.1) = C.take (j + 1) ∧ ∀ q ∈ (Vs ++ [(c, Value.slice a5 n5 c5, T5)]), (∃ a n c, q.2.1 = .slice a n c) ∧ Told (ents LC LS q.1.pl) q.1.pl q.1.x q.1.y (65536 * kpZ rad 1024) (kpZ sho 32).toNat q.2.2 ∧ q.2.2.length ≤ 32) := ⟨by
              obtain ⟨r1, r2, r3⟩ := HVs.out
              refine ⟨by rw [List.length_append, r1]; rfl, by rw [List.map_append, r2, List.take_add_one, HCK.out]; rfl, fun q hq => ?_⟩
              rcases List.mem_append.1 hq with hq | hq
              · exact r3 q hq
              · rw [List.mem_singleton.1 hq]
                exact ⟨⟨_, _, _, rfl⟩, HT5.out.2.2, by show T5.length ≤ 32; rw [HT5.out.1]; exact HT5.out.2.1⟩⟩
            have HS9 : Keep (Sep W w9 (rowV 29 16 (sl g9 (j + 1) c9) (j + 1) (fl (vwE tick) (Vs ++ [(c, Value.slice a5 n5 c5, T5)])) :: boxA b3 [.int .u64 tick, .slice (some ⟨g1, o1, none⟩) i cc, vs, iv nx] 37 :: (Vs ++ [(c, Value.slice a5 n5 c5, T5)]).map rwE)) := ⟨by
              rw [List.length_append, HVs.out.1] at S9
              rw [List.map_append]
              have q : Sep W w9 (rowV 29 16 (sl g9 (j + 1) c9) (j + 1) (fl (vwE tick) (Vs ++ [(c, Value.slice a5 n5 c5, T5)])) :: boxA vb (vwv tick c (.slice a5 n5 c5)) 29 :: rowV 33 5 (.slice a5 n5 c5) n5 (fl snv T5) :: boxA b3 [.int .u64 tick, .slice (some ⟨g1, o1, none⟩) i cc, vs, iv nx] 37 :: Vs.map rwE) := S9
              have q2 := (Sep.dropM [_] [_] q).swap
              have q3 : Sep W w9 (rwE (c, Value.slice a5 n5 c5, T5) :: rowV 29 16 (sl g9 (j + 1) c9) (j + 1) (fl (vwE tick) (Vs ++ [(c, Value.slice a5 n5 c5, T5)])) :: boxA b3 [.int .u64 tick, .slice (some ⟨g1, o1, none⟩) i cc, vs, iv nx] 37 :: Vs.map rwE) := by
                show Sep W w9 (rowV 33 5 (.slice a5 n5 c5) T5.length (fl snv T5) :: _)
                rw [HT5.out.1]
                exact q2
              exact q3.perm (List.perm_append_singleton _ _).symm⟩
            have HJ9 : Keep (j + 1 ≤ C.length) := ⟨(List.getElem?_eq_some_iff.1 HCK.out).1⟩
            clear ap S9 HB2
            go_wp2_with (first
              | (with_reducible show wpList _ _ _ ({ dst := some 71, op := Op.load 29 _, type := _, pos := _, after := _, guard := _ } :: _) _ _
                 refine wpList_load_mid rfl 29 _ rfl _ _ rfl (vwv tick c (.slice a5 n5 c5)) _ HRV.out hdv.1 hdv.2 info29 ?_)
              | (with_reducible show wpList _ _ _ ({ dst := some 72, op := Op.buildSlice 52 _ _, type := _, pos := _, after := _, guard := _ } :: _) _ _
                 refine wpList_bs_run rfl (.tmp 71) 52 rfl _ rfl (HBS.out _) ?_)
              | (with_reducible show wpList _ _ _ ({ dst := some 73, op := Op.call { callee := Callee.builtin Builtin.append, args := _, argTypes := _ }, type := _, pos := _, after := _, guard := _ } :: _) _ _
                 refine wpList_append_run _ rfl (.tmp 70) (.tmp 72) 52 rfl _ _ rfl rfl AP.out ?_))
            go_roundw
            case rel => exact ⟨Vs ++ [(c, Value.slice a5 n5 c5, T5)], j + 1, some ⟨g9, 0, none⟩, c9, rfl, HJ9.out, HV9, HS9⟩
            case measure => simp [lnOf]; have := HJ9.out; omega

end Go.Proofs.YtgedlabmndlooaaGreat
