/- board: read. -/
import Derived.Test.YtmacmoikjgmaoaaDoorBA5
import Derived.Lib.OthersKept
import Derived.WalkMore
namespace Go.Proofs.YtmacmoikjgmaoaaDoor.Bo
open Go Go.RowKit

/-- a string's iterator -/
def iterS (k : Nat) (s : ByteArray) (pos : Nat) : As :=
  ⟨fun W F => W.heap[k]? = some (.stringIter s pos) ∧ F = fun i => i = k,
   fun S W W' F h f hs => ⟨by rw [f.block k (Array.getElem?_eq_some_iff.1 h.1).1 (hs k (by rw [h.2]))]; exact h.1, h.2⟩,
   fun W F h i hi => by rw [h.2] at hi; have hi : i = k := hi; rw [hi]; exact (Array.getElem?_eq_some_iff.1 h.1).1⟩
set_option maxRecDepth 100000 in
theorem Sep.iterNew {w0 W : World} {l : List As} (h : Sep w0 W l) (s : ByteArray) : Sep w0 (W.iter s 0) (iterS W.heap.size s 0 :: l) :=
  h.new (World.grownBy_alloc _ _ _) (Loc.one (a := iterS _ _ _) _ ⟨World.iter_heap W s 0, rfl⟩ (fun i hi => .inr (by rw [hi]; exact Nat.le_refl _)))
set_option maxRecDepth 100000 in
theorem Sep.iterGet {w0 W : World} {l : List As} {k : Nat} {s : ByteArray} {pos : Nat} (h : Sep w0 W (iterS k s pos :: l)) : W.heap[k]? = some (.stringIter s pos) := by
  obtain ⟨F, q, _⟩ := h.get k0m
  exact q
set_option maxRecDepth 100000 in
theorem gr_iter (W : World) (k : Nat) (s : ByteArray) (p : Nat) : W.grownBy (W.iterAt k s p) (some k) :=
  ⟨rfl, rfl, rfl, by rw [Lib.iterAt_size]; exact Nat.le_refl _, fun i _ hne => Lib.iterAt_other W k i s p (fun e => hne (by rw [e]))⟩
set_option maxRecDepth 100000 in
theorem Sep.iterGo {w0 W : World} {l : List As} {k : Nat} {s : ByteArray} {pos : Nat} (h : Sep w0 W (iterS k s pos :: l)) (p : Nat) : Sep w0 (W.iterAt k s p) (iterS k s p :: l) := by
  obtain ⟨F, ⟨h1, rfl⟩, _, hu⟩ := h.use
  exact hu _ [_] (Fr.ofSome (gr_iter _ _ _ _) rfl) (Loc.one (a := iterS _ _ _) _ ⟨Lib.iterAt_heap W k s pos p h1, rfl⟩ (fun i hi => .inl hi))
set_option maxRecDepth 100000 in
theorem infoT54 : ∃ i, Tryd.prog.info? 61 = some i ∧ i.size = 1 ∧ i.bytes = 24 ∧ i.zero = some (.slice none 0 0) := by
  have h : (Tryd.prog.info? 61).map (fun i => (i.size, i.bytes, i.zero)) = some (1, 24, some (.slice none 0 0)) := by kernel_rfl
  cases hq : Tryd.prog.info? 61 with
  | none => simp [hq] at h
  | some i =>
    simp only [hq, Option.map_some, Option.some.injEq, Prod.mk.injEq] at h
    exact ⟨i, rfl, h.1, h.2.1, h.2.2⟩
set_option maxRecDepth 100000 in
theorem underT51 : Tryd.prog.underlying 58 = some (.slice 61) := by kernel_rfl
set_option maxRecDepth 100000 in
theorem Sep.line {w0 W : World} {l : List As} {v : Value} {xs : List Value} (c : Value) (hc : c.oneCell' = true) (h : Sep w0 W (rowV 61 1 v xs.length xs :: l)) (hn : xs.length ≤ 1000000) :
    ∃ g k W', (Builtin.append_ #[58, 58] 58 #[v, .slice (some ⟨W.heap.size, 0, none⟩) 1 1]).run Tryd.prog (W.alloc (.cells #[c] 61)) = .ok (.slice (some ⟨g, 0, none⟩) (xs.length + 1) k) W' ∧ Sep w0 W' (rowV 61 1 (.slice (some ⟨g, 0, none⟩) (xs.length + 1) k) (xs ++ [c]).length (xs ++ [c]) :: l) := by
  obtain ⟨i, i1, i2, i3, i4⟩ := infoT54
  obtain ⟨g, k, W', r1, r2⟩ := Sep.app underT51 i1 i4 i2 i3 rfl (by decide) h [c] rfl (fun u hu => by rw [List.mem_singleton] at hu; subst hu; exact hc) (by omega) (by decide)
  refine ⟨g, k, W', r1, ?_⟩
  rw [List.length_append]
  exact r2
/-- a row of bytes; lines that are through -/
abbrev brow (v : Value) (l : List Int) : As := rowV 5 1 v l.length (l.map u8)
abbrev Dn := List (Value × List Int)
def dns (D : Dn) : List As := D.map fun p => brow p.1 p.2
abbrev lrow (v : Value) (D : Dn) : As := rowV 61 1 v D.length (D.map (·.1))
/-- lines as they lie in memory -/
def Ln (w : World) (v : Value) (L : Bo) : Prop := ∃ a c, v = .slice a L.length c ∧ ∀ (y : Nat) (l : List Int), L[y]? = some l → ∃ kr, a = some ⟨kr, 0, none⟩ ∧ ∃ b d, w.cell? ⟨kr, y, none⟩ = some (.slice b l.length d) ∧ ∀ (x : Nat) (u : Int), l[x]? = some u → ∃ k, b = some ⟨k, 0, none⟩ ∧ w.cell? ⟨k, x, none⟩ = some (.int .u8 u)
set_option maxRecDepth 100000 in
theorem Ln.kept {w w' : World} {v : Value} {L : Bo} (h : Ln w v L) (g : w.grownBy w' none) : Ln w' v L := by
  obtain ⟨a, c, rfl, hr⟩ := h
  refine ⟨a, c, rfl, fun y l hl => ?_⟩
  obtain ⟨kr, e1, b, d, q1, q2⟩ := hr y l hl
  refine ⟨kr, e1, b, d, g.cell q1 (by simp), fun x u hu => ?_⟩
  obtain ⟨k, e2, q3⟩ := q2 x u hu
  exact ⟨k, e2, g.cell q3 (by simp)⟩
set_option maxRecDepth 100000 in
theorem ln_of {w0 W : World} {v : Value} {D : Dn} (h : Sep w0 W (lrow v D :: dns D)) : Ln W v (D.map (·.2)) := by
  have h0 := h.rowGet k0m
  obtain ⟨a, c, rfl⟩ := own_slice h0
  refine ⟨a, c, by rw [List.length_map], fun y l hl => ?_⟩
  rw [List.getElem?_map, Option.map_eq_some_iff] at hl
  obtain ⟨p, hp, rfl⟩ := hl
  obtain ⟨g, c', e, hc⟩ := own_any h0 (by have := (List.getElem?_eq_some_iff.1 hp).1; omega)
  injection e with e1 e2 e3
  subst e1
  have h1 : W.ownsRow 0 5 1 p.1 p.2.length (p.2.map u8) := h.rowGet (List.mem_cons_of_mem _ (List.mem_map.2 ⟨p, List.mem_of_getElem? hp, rfl⟩))
  obtain ⟨b, d, e4⟩ := own_slice h1
  refine ⟨g, rfl, b, d, by rw [← e4]; exact (hc y _ (by rw [List.getElem?_map, hp]; rfl)).1, fun x u hu => ?_⟩
  obtain ⟨k, d', e5, hk⟩ := own_any h1 (by have := (List.getElem?_eq_some_iff.1 hu).1; omega)
  rw [e4] at e5
  injection e5 with e6
  exact ⟨k, e6, (hk x _ (by rw [List.getElem?_map, hu]; rfl)).1⟩
set_option maxRecDepth 100000 in
theorem ln_nil (w : World) : Ln w (.slice none 0 0) [] := ⟨none, 0, rfl, fun y l hl => by cases hl⟩
set_option maxRecDepth 100000 in
set_option maxHeartbeats 16000000 in
set_option maxRecDepth 100000 in
theorem read_c (w : World) (s : ByteArray) : Calls Tryd.prog 25 #[.string s] w fun e w' => ∃ v, e = .returned v ∧ w.grownBy w' none ∧ Ln w' v (rd (rn s) [] []) := by
  have S0 : Sep w (w.iter s 0) (iterS w.heap.size s 0 :: lrow (.slice none 0 0) [] :: brow (.slice none 0 0) [] :: dns []) := (((Sep.nil w).nilV 5 1).nilV 61 1).iterNew s
  obtain ⟨k, hk⟩ : ∃ k, w.heap.size = k := ⟨_, rfl⟩
  rw [hk] at S0
  have HS0 := Keep.mk S0
  clear S0
  go_enter Tryd.func25, Tryd.ntmps25
  go_wp2_with fail
  go_step3
  go_wp2_with fail
  go_step3
  go_wp2_with fail
  go_loopw [3, 4] (fun u3 u4 wr => ∃ (pos f : Nat) (D : Dn) (l : List Int), Keep (rd (rn s) [] [] = rd (rnF s f pos) (D.map (·.2)) l ∧ s.size ≤ pos + f ∧ D.length ≤ 64 ∧ l.length ≤ 64 ∧ Sep w wr (iterS k s pos :: lrow u3 D :: brow u4 l :: dns D))) (fun _ _ wr => s.size - wr.iterPos k)
  case atStart => exact ⟨0, s.size, [], [], ⟨rfl, by omega, by simp, by simp, HS0.out⟩⟩
  case round =>
    clear HS0
    obtain ⟨pos, f, D, l, hK⟩ := hrel
    obtain ⟨hrd, hfu, hD, hl, S⟩ := hK.out
    have hit := S.iterGet
    by_cases hp : pos < s.size
    · obtain ⟨f', rfl, hst, hfu'⟩ := rnF_step s f pos hp hfu
      have hw1 := width_pos s pos hp
      have hnx : ∀ ty, (Instr.next (.pointer (some ⟨k, 0, none⟩)) true ty).run Tryd.prog wr = _ := fun ty => Lib.run_next_any_at wr k s pos ty hit hp
      have S1 := S.iterGo (pos + (Utf8.decode s pos).2)
      rw [hst] at hrd
      generalize ((Utf8.decode s pos).1 : Int) = r at *
      generalize (Utf8.decode s pos).2 = wt at *
      obtain ⟨W1, hW1⟩ : ∃ W1, wr.iterAt k s (pos + wt) = W1 := ⟨_, rfl⟩
      rw [hW1] at S1
      have HM := meant_c W1 r
      have hmr : r = 10 → mn r = 0 := by rintro rfl; rfl
      have HME : Keep (wr.iterPos k = pos) := ⟨by simp [World.iterPos, hit]⟩
      obtain ⟨a4, c4, e4⟩ := own_slice (S1.rowGet k2m)
      obtain ⟨a3, c3, e3⟩ := own_slice (S1.rowGet k1m)
      subst e3
      subst e4
      by_cases hA : r = 10 ∧ D.length < 64
      · obtain ⟨rfl, hD2⟩ := hA
        rw [show mn 10 = 0 from rfl] at HM
        obtain ⟨g, q, W', r1, r2⟩ := Sep.line (.slice a4 l.length c4) rfl (show Sep w W1 (rowV 61 1 _ (D.map (·.1)).length (D.map (·.1)) :: iterS k s (pos + wt) :: brow (.slice a4 l.length c4) l :: dns D) by rw [List.length_map]; exact S1.swap) (by rw [List.length_map]; omega)
        have HA := Keep.mk r1
        have HK2 : Keep (rd (rn s) [] [] = rd (rnF s f' (pos + wt)) ((D ++ [((.slice a4 l.length c4 : Value), l)]).map (·.2)) [] ∧ s.size ≤ pos + wt + f' ∧ (D ++ [((.slice a4 l.length c4 : Value), l)]).length ≤ 64 ∧ ([] : List Int).length ≤ 64 ∧ Sep w W' (iterS k s (pos + wt) :: lrow (.slice (some ⟨g, 0, none⟩) (D.length + 1) q) (D ++ [((.slice a4 l.length c4 : Value), l)]) :: brow (.slice none 0 0) [] :: dns (D ++ [((.slice a4 l.length c4 : Value), l)]))) := ⟨by
          refine ⟨?_, hfu', by simp; omega, by simp, ?_⟩
          · rw [hrd, rd, if_pos ⟨rfl, by rw [List.length_map]; exact hD2⟩, List.map_append]; rfl
          · have e1 : dns (D ++ [((.slice a4 l.length c4 : Value), l)]) = dns D ++ [brow (.slice a4 l.length c4) l] := by simp [dns]
            rw [e1]
            have S2 : Sep w W' (brow (.slice none 0 0) [] :: lrow (.slice (some ⟨g, 0, none⟩) (D.length + 1) q) (D ++ [((.slice a4 l.length c4 : Value), l)]) :: iterS k s (pos + wt) :: brow (.slice a4 l.length c4) l :: dns D) := by
              refine Sep.nilV ?_ 5 1
              rw [lrow, List.map_append, List.length_append]
              rw [List.length_append, List.length_map] at r2
              exact r2
            refine S2.perm ?_
            refine List.Perm.trans (List.Perm.swap _ _ _) ?_
            refine List.Perm.trans (List.Perm.cons _ (List.Perm.swap _ _ _)) ?_
            refine List.Perm.trans (List.Perm.swap _ _ _) ?_
            refine List.Perm.cons _ (List.Perm.cons _ (List.Perm.cons _ ?_))
            exact (List.perm_append_singleton _ _).symm⟩
        have HI : Keep (W'.iterPos k = pos + wt) := ⟨by simp [World.iterPos, (HK2.out.2.2.2.2).iterGet]⟩
        rw [List.length_map] at HA
        clear hK hrd hfu hfu' hD hl S S1 r1 r2 hst hmr hit
        go_wp2_with fail
        refine HM.mono ?_
        rintro e w1 ⟨rfl, rfl⟩
        clear HM
        go_wp2_with (at_builtin; refine wpList_append_run _ rfl (.tmp 23) (.tmp 25) 58 rfl _ _ rfl rfl HA.out ?_)
        go_roundw
        case rel => exact ⟨_, _, _, _, HK2⟩
        case measure => rw [HI.out, HME.out]; omega
      by_cases hB : mn r ≠ 0 ∧ l.length < 64
      · obtain ⟨hm0, hl2⟩ := hB
        have hr10 : r ≠ 10 := fun e => hm0 (hmr e)
        obtain ⟨m, hm⟩ : ∃ m, mn r = m := ⟨_, rfl⟩
        rw [hm] at HM hm0
        obtain ⟨g, q, W', r1, r2⟩ := Sep.byte (u8 m) rfl (show Sep w W1 (rowV 5 1 _ (l.map u8).length (l.map u8) :: iterS k s (pos + wt) :: lrow (.slice a3 D.length c3) D :: dns D) by rw [List.length_map]; exact S1.third) (by rw [List.length_map]; omega)
        have HA := Keep.mk r1
        have HK2 : Keep (rd (rn s) [] [] = rd (rnF s f' (pos + wt)) (D.map (·.2)) (l ++ [m]) ∧ s.size ≤ pos + wt + f' ∧ D.length ≤ 64 ∧ (l ++ [m]).length ≤ 64 ∧ Sep w W' (iterS k s (pos + wt) :: lrow (.slice a3 D.length c3) D :: brow (.slice (some ⟨g, 0, none⟩) (l.length + 1) q) (l ++ [m]) :: dns D)) := ⟨by
          refine ⟨?_, hfu', hD, by simp; omega, ?_⟩
          · rw [hrd, rd, if_neg (fun e => hr10 e.1), if_pos ⟨by rw [hm]; exact hm0, hl2⟩, hm]
          · rw [brow, List.map_append, List.length_append]
            rw [List.length_append, List.length_map] at r2
            exact r2.perm ((List.Perm.swap _ _ _).trans (List.Perm.cons _ (List.Perm.swap _ _ _)))⟩
        have HI : Keep (W'.iterPos k = pos + wt) := ⟨by simp [World.iterPos, (HK2.out.2.2.2.2).iterGet]⟩
        rw [List.length_map] at HA
        have hm1 : (m != 0) = true := by simpa using hm0
        have hl4 : (l.length : Int) < 64 := by omega
        clear hK hrd hfu hfu' hD S S1 r1 r2 hst hmr hit hA hm
        go_wp2_with fail
        refine HM.mono ?_
        rintro e w1 ⟨rfl, rfl⟩
        clear HM
        go_wp2_with (at_builtin; refine wpList_append_run _ rfl (.tmp 35) (.tmp 37) 61 rfl _ _ rfl rfl HA.out ?_)
        go_roundw
        case rel => exact ⟨_, _, _, _, HK2⟩
        case measure => rw [HI.out, HME.out]; omega
      have HF : Keep (rd (rn s) [] [] = []) := ⟨by rw [hrd, rd, if_neg (by rw [List.length_map]; exact hA), if_neg hB]⟩
      have HG := Keep.mk S1.g
      by_cases hr10 : r = 10
      · have hD3 : ¬ ((D.length : Int) < 64) := fun e => hA ⟨hr10, by omega⟩
        rw [hmr hr10] at HM
        subst hr10
        clear hK hrd hfu hfu' hD hl S S1 hst hmr hit hA hB
        go_wp2_with fail
        refine HM.mono ?_
        rintro e w1 ⟨rfl, rfl⟩
        clear HM
        go_wp2_with fail
        rw [Exit.noGoto_ret]
        go_ret
        exact ⟨_, rfl, HG.out, by rw [HF.out]; exact ln_nil _⟩
      by_cases hm0 : mn r = 0
      · rw [hm0] at HM
        clear hK hrd hfu hfu' hD hl S S1 hst hmr hit hA hB hm0
        go_wp2_with fail
        refine HM.mono ?_
        rintro e w1 ⟨rfl, rfl⟩
        clear HM
        go_wp2_with fail
        rw [Exit.noGoto_ret]
        go_ret
        exact ⟨_, rfl, HG.out, by rw [HF.out]; exact ln_nil _⟩
      · have hl3 : ¬ ((l.length : Int) < 64) := fun e => hB ⟨hm0, by omega⟩
        obtain ⟨m, hm⟩ : ∃ m, mn r = m := ⟨_, rfl⟩
        rw [hm] at HM hm0
        clear hK hrd hfu hfu' hD hl S S1 hst hmr hit hA hB hm
        go_wp2_with fail
        refine HM.mono ?_
        rintro e w1 ⟨rfl, rfl⟩
        clear HM
        go_wp2_with fail
        rw [Exit.noGoto_ret]
        go_ret
        exact ⟨_, rfl, HG.out, by rw [HF.out]; exact ln_nil _⟩
    · have hnx : ∀ ty, (Instr.next (.pointer (some ⟨k, 0, none⟩)) true ty).run Tryd.prog wr = _ := fun ty => Lib.run_next_end_at wr k s pos ty hit hp
      rw [rnF_end s f pos hp] at hrd
      obtain ⟨a4, c4, e4⟩ := own_slice (S.rowGet k2m)
      obtain ⟨a3, c3, e3⟩ := own_slice (S.rowGet k1m)
      subst e3
      subst e4
      by_cases hl0 : l = []
      · have HF : Keep (rd (rn s) [] [] = D.map (·.2)) := ⟨by rw [hrd, rd, if_pos hl0]⟩
        have HG := Keep.mk S.g
        have HL := Keep.mk (ln_of S.tail.swap.tail)
        subst hl0
        clear hK hrd hfu hD hl S hit
        go_wp2_with fail
        rw [Exit.noGoto_ret]
        go_ret
        exact ⟨_, rfl, HG.out, by rw [HF.out]; exact HL.out⟩
      · obtain ⟨g, q, W', r1, r2⟩ := Sep.line (.slice a4 l.length c4) rfl (show Sep w wr (rowV 61 1 _ (D.map (·.1)).length (D.map (·.1)) :: iterS k s pos :: brow (.slice a4 l.length c4) l :: dns D) by rw [List.length_map]; exact S.swap) (by rw [List.length_map]; omega)
        have HA := Keep.mk r1
        have HF : Keep (rd (rn s) [] [] = (D ++ [((.slice a4 l.length c4 : Value), l)]).map (·.2)) := ⟨by rw [hrd, rd, if_neg hl0, List.map_append]; rfl⟩
        have HG := Keep.mk r2.g
        have HL : Keep (Ln W' (.slice (some ⟨g, 0, none⟩) (D.length + 1) q) ((D ++ [((.slice a4 l.length c4 : Value), l)]).map (·.2))) := ⟨by
          refine ln_of (w0 := w) ?_
          have e1 : dns (D ++ [((.slice a4 l.length c4 : Value), l)]) = dns D ++ [brow (.slice a4 l.length c4) l] := by simp [dns]
          rw [e1, lrow, List.map_append, List.length_append]
          rw [List.length_append, List.length_map] at r2
          exact (r2.swap.tail).perm (List.Perm.cons _ (List.perm_append_singleton _ _).symm)⟩
        rw [List.length_map] at HA
        have hl1 : 0 < (l.length : Int) := by have := List.length_pos_iff.2 hl0; omega
        clear hK hrd hfu hD hl S hit r1 r2 hl0
        go_wp2_with (at_builtin; refine wpList_append_run _ rfl (.tmp 42) (.tmp 44) 58 rfl _ _ rfl rfl HA.out ?_)
        rw [Exit.noGoto_ret]
        go_ret
        exact ⟨_, rfl, HG.out, by rw [HF.out]; exact HL.out⟩
end Go.Proofs.YtmacmoikjgmaoaaDoor.Bo
