/- the reference: Parse, the walk. -/
import Derived.Test.YtmacmoikjgmaoaaDoorBRP1
import Derived.WalkMore
import Derived.Deep.DeepCutAuto
namespace Go.Proofs.YtmacmoikjgmaoaaDoor.Bo
open Go Go.RowKit

set_option maxRecDepth 100000 in
theorem set_self {α : Type} {l : List α} {i : Nat} {a : α} (h : l[i]? = some a) : l.set i a = l := by
  obtain ⟨h1, rfl⟩ := List.getElem?_eq_some_iff.1 h
  exact List.set_getElem_self h1
set_option maxRecDepth 100000 in
theorem dnr_app (D : Dn) (v : Value) (l : List Int) : dnr (D ++ [(v, l)]) = dnr D ++ [irow v l] := by simp [dnr]
set_option maxRecDepth 100000 in
theorem lns_none {s : ByteArray} (h : rr (rn s) [] [] = none) : ¬ ev (lns s) := (rr_rd _ _ _).1 h
set_option maxRecDepth 100000 in
theorem lns_some {s : ByteArray} {M : Bo} (h : rr (rn s) [] [] = some M) : (ev M → lns s = M) ∧ (¬ ev M → ¬ ev (lns s)) := by
  obtain ⟨h1, h2⟩ := (rr_rd (rn s) [] []).2 M h
  refine ⟨h1, fun h3 h4 => h3 ?_⟩
  have := h2 h4
  rw [show lns s = rd (rn s) [] [] from rfl] at h4
  rwa [this] at h4
/-- the iterator behind three things -/
theorem Sep.back3 {w0 W : World} {a b c d : As} {l : List As} (h : Sep w0 W (a :: b :: c :: d :: l)) : Sep w0 W (b :: c :: d :: a :: l) :=
  h.perm ((List.Perm.swap _ _ _).trans (List.Perm.cons _ ((List.Perm.swap _ _ _).trans (List.Perm.cons _ (List.Perm.swap _ _ _)))))
set_option maxRecDepth 100000 in
theorem Sep.front4 {w0 W : World} {a b c d : As} {l : List As} (h : Sep w0 W (b :: c :: d :: a :: l)) : Sep w0 W (a :: b :: c :: d :: l) :=
  h.perm ((List.Perm.swap _ _ _).trans (List.Perm.cons _ ((List.Perm.swap _ _ _).trans (List.Perm.cons _ (List.Perm.swap _ _ _))))).symm
set_option maxRecDepth 100000 in
set_option maxHeartbeats 32000000 in
set_option maxRecDepth 100000 in
theorem rparse_c (w : World) (s : ByteArray) (hs : s.size ≤ 1048576) : Calls Tryd.prog 20 #[.string s] w fun e w' => w.grownBy w' none ∧ ((¬ ev (lns s) ∧ e = .returned (.tuple #[.pointer none, iv 140])) ∨ (ev (lns s) ∧ spn (lns s) = [] ∧ e = .returned (.tuple #[.pointer none, iv 141])) ∨ (ev (lns s) ∧ spn (lns s) ≠ [] ∧ ∃ v, e = .returned (.tuple #[v, iv 0]) ∧ RB w' v (lns s))) := by
  have S0 := (((Sep.nil w).nilV 21 1).nilV 78 1).newBox #[.slice none 0 0] 77
  obtain ⟨kb, hkb⟩ : ∃ k, w.heap.size = k := ⟨_, rfl⟩
  obtain ⟨W0, hW0⟩ : ∃ W, w.alloc (.cells #[.slice none 0 0] 77) = W := ⟨_, rfl⟩
  rw [hW0, hkb] at S0
  have S1 : Sep w (W0.iter s 0) (iterS W0.heap.size s 0 :: boxA kb [.slice none 0 0] 77 :: mrow (.slice none 0 0) [] :: irow (.slice none 0 0) [] :: dnr []) := S0.iterNew s
  obtain ⟨k, hk⟩ : ∃ k, W0.heap.size = k := ⟨_, rfl⟩
  rw [hk] at S1
  have HS0 := Keep.mk S1
  clear S0 S1
  go_enter Tryd.func20, Tryd.ntmps20
  go_wp2_with fail
  go_loopw [5, 6] (fun u5 u6 wr => ∃ (pos f : Nat) (D : Dn) (l : List Int) (vl : Value) (la : Int), u6 = .int .i32 la ∧ Keep ((la = 10 ↔ l = []) ∧ rr (rn s) [] [] = rr (rnF s f pos) (D.map (·.2)) l ∧ s.size ≤ pos + f ∧ (D.length + f ≤ s.size ∧ l.length + f ≤ s.size) ∧ Sep w wr (iterS k s pos :: boxA kb [vl] 77 :: mrow vl D :: irow u5 l :: dnr D))) (fun _ _ wr => s.size - wr.iterPos k)
  case atStart => exact ⟨0, s.size, [], [], _, 10, rfl, ⟨by simp, rfl, by omega, by simp, HS0.out⟩⟩
  case round =>
    clear HS0
    obtain ⟨pos, f, D, l, vl, la, rfl, hK⟩ := hrel
    obtain ⟨hla, hrd, hfu, hD, S⟩ := hK.out
    have hit := S.iterGet
    by_cases hp : pos < s.size
    · obtain ⟨f', rfl, hst, hfu'⟩ := rnF_step s f pos hp hfu
      have hw1 := width_pos s pos hp
      have hnx : ∀ ty, (Instr.next (.pointer (some ⟨k, 0, none⟩)) true ty).run Tryd.prog wr = _ := fun ty => Lib.run_next_any_at wr k s pos ty hit hp
      have S1 := S.iterGo (pos + (Utf8.decode s pos).2)
      rw [hst] at hrd
      generalize ((Utf8.decode s pos).1 : Int) = r at *
      generalize (Utf8.decode s pos).2 = wt at *
      obtain ⟨W1, hW1⟩ : ∃ W1, wr.iterAt k s (pos + wt) = W1 := ⟨_, rfl⟩
      rw [hW1] at S1
      have HME : Keep (wr.iterPos k = pos) := ⟨by simp [World.iterPos, hit]⟩
      obtain ⟨a5, c5, e5⟩ := own_slice (S1.rowGet k3m)
      obtain ⟨al, cl, el⟩ := own_slice (S1.rowGet k2m)
      subst e5
      subst el
      by_cases hA : r = 10
      · subst hA
        have b0 : W1.cell? ⟨kb, 0, none⟩ = some (.slice al D.length cl) := (S1.boxGet k1m).cellv 0 _ rfl
        obtain ⟨g, q, W', r1, r2, r3, r4⟩ := S1.back3.rpush rfl (by omega)
        have HA := Keep.mk r1
        have HK2 : Keep (((10 : Int) = 10 ↔ ([] : List Int) = []) ∧ rr (rn s) [] [] = rr (rnF s f' (pos + wt)) ((D ++ [((.slice a5 l.length c5 : Value), l)]).map (·.2)) [] ∧ s.size ≤ pos + wt + f' ∧ ((D ++ [((.slice a5 l.length c5 : Value), l)]).length + f' ≤ s.size ∧ ([] : List Int).length + f' ≤ s.size) ∧ Sep w (W'.setCell ⟨kb, 0, none⟩ (.slice (some ⟨g, 0, none⟩) (D.length + 1) q)) (iterS k s (pos + wt) :: boxA kb [.slice (some ⟨g, 0, none⟩) (D.length + 1) q] 77 :: mrow (.slice (some ⟨g, 0, none⟩) (D.length + 1) q) (D ++ [((.slice a5 l.length c5 : Value), l)]) :: irow (.slice none 0 0) [] :: dnr (D ++ [((.slice a5 l.length c5 : Value), l)]))) := ⟨by
          refine ⟨by simp, ?_, hfu', ⟨by simp; omega, by simp; omega⟩, ?_⟩
          · rw [hrd, rr, if_pos rfl, List.map_append]; rfl
          · rw [dnr_app]
            have S2 := r4.front4
            have S3 : Sep w _ (irow (.slice none 0 0) [] :: _) := S2.nilV 21 1
            refine S3.perm ?_
            refine List.Perm.trans (List.Perm.swap _ _ _) (List.Perm.cons _ ?_)
            refine List.Perm.trans (List.Perm.swap _ _ _) (List.Perm.cons _ ?_)
            refine List.Perm.trans (List.Perm.swap _ _ _) (List.Perm.cons _ (List.Perm.cons _ ?_))
            exact (List.perm_append_singleton _ _).symm⟩
        have HI : Keep ((W'.setCell ⟨kb, 0, none⟩ (.slice (some ⟨g, 0, none⟩) (D.length + 1) q)).iterPos k = pos + wt) := ⟨by simp [World.iterPos, (HK2.out.2.2.2.2).iterGet]⟩
        clear hK hrd hfu hfu' hD S S1 r1 r4 hst hit hla
        go_wp2_with (at_builtin; refine wpList_append_run _ rfl (.tmp 30) (.tmp 32) 75 rfl _ _ rfl rfl HA.out ?_)
        go_roundw
        case rel => exact ⟨_, _, _, _, _, _, rfl, HK2⟩
        case measure => rw [HI.out, HME.out]; omega
      · have HM := rone_c W1 r
        by_cases hm : mn r = 0
        · have HF : Keep (¬ ev (lns s)) := ⟨lns_none (by rw [hrd, rr, if_neg hA, if_pos hm])⟩
          have HG := Keep.mk S1.g
          rw [hm] at HM
          rw [decide_eq_false (by simp)] at HM
          clear hK hrd hfu hfu' hD S S1 hst hit hla hm
          go_wp2_with fail
          refine HM.mono ?_
          rintro e w1 ⟨rfl, rfl⟩
          clear HM
          go_wp2_with fail
          go_ret2
          exact ⟨HG.out, .inl ⟨HF.out, rfl⟩⟩
        · obtain ⟨m, hmm⟩ : ∃ m, mn r = m := ⟨_, rfl⟩
          rw [decide_eq_true hm, hmm] at HM
          obtain ⟨g, q, W', r1, r2⟩ := Sep.rune (i32 m) rfl (show Sep w W1 (rowV 21 1 _ (l.map i32).length (l.map i32) :: iterS k s (pos + wt) :: boxA kb [.slice al D.length cl] 77 :: mrow (.slice al D.length cl) D :: dnr D) by rw [List.length_map]; exact S1.front4) (by rw [List.length_map]; omega)
          have HA := Keep.mk r1
          have HK2 : Keep ((r = 10 ↔ l ++ [m] = []) ∧ rr (rn s) [] [] = rr (rnF s f' (pos + wt)) (D.map (·.2)) (l ++ [m]) ∧ s.size ≤ pos + wt + f' ∧ (D.length + f' ≤ s.size ∧ (l ++ [m]).length + f' ≤ s.size) ∧ Sep w W' (iterS k s (pos + wt) :: boxA kb [.slice al D.length cl] 77 :: mrow (.slice al D.length cl) D :: irow (.slice (some ⟨g, 0, none⟩) (l.length + 1) q) (l ++ [m]) :: dnr D)) := ⟨by
            refine ⟨⟨fun e => absurd e hA, fun e => by simp at e⟩, ?_, hfu', ⟨by omega, by simp; omega⟩, ?_⟩
            · rw [hrd, rr, if_neg hA, if_neg hm, hmm]
            · rw [irow, List.map_append, List.length_append]
              rw [List.length_append, List.length_map] at r2
              exact r2.back3⟩
          have HI : Keep (W'.iterPos k = pos + wt) := ⟨by simp [World.iterPos, (HK2.out.2.2.2.2).iterGet]⟩
          rw [List.length_map] at HA
          clear hK hrd hfu hfu' hD S S1 r1 r2 hst hit hla hm hmm
          go_wp2_with fail
          refine HM.mono ?_
          rintro e w1 ⟨rfl, rfl⟩
          clear HM
          go_wp2_with (at_builtin; refine wpList_append_run _ rfl (.tmp 43) (.tmp 45) 78 rfl _ _ rfl rfl HA.out ?_)
          go_roundw
          case rel => exact ⟨_, _, _, _, _, _, rfl, HK2⟩
          case measure => rw [HI.out, HME.out]; omega
    · have hnx : ∀ ty, (Instr.next (.pointer (some ⟨k, 0, none⟩)) true ty).run Tryd.prog wr = _ := fun ty => Lib.run_next_end_at wr k s pos ty hit hp
      rw [rnF_end s f pos hp] at hrd
      obtain ⟨a5, c5, e5⟩ := own_slice (S.rowGet k3m)
      obtain ⟨al, cl, el⟩ := own_slice (S.rowGet k2m)
      subst e5
      subst el
      go_upto_if 48 with fail
      go_cut [] (fun wx => Keep (∃ (D : Dn) (vl : Value), rr (rn s) [] [] = some (D.map (·.2)) ∧ D.length ≤ 1048577 ∧ Sep w wx (boxA kb [vl] 77 :: mrow vl D :: dnr D)))
      case first =>
        by_cases h10 : la = 10
        · have hl0 := hla.1 h10
          have HF : Keep (∃ (D : Dn) (vl : Value), rr (rn s) [] [] = some (D.map (·.2)) ∧ D.length ≤ 1048577 ∧ Sep w wr (boxA kb [vl] 77 :: mrow vl D :: dnr D)) := ⟨D, _, by rw [hrd, rr, if_pos hl0], by omega, S.tail.third.tail⟩
          subst h10
          clear hK hrd hfu hD S hit hla hl0
          go_wp2_with fail
          go_meet
          exact HF
        · have hl0 : l ≠ [] := fun e => h10 (hla.2 e)
          have b0 : wr.cell? ⟨kb, 0, none⟩ = some (.slice al D.length cl) := (S.boxGet k1m).cellv 0 _ rfl
          obtain ⟨g, q, W', r1, r2, r3, r4⟩ := S.back3.rpush rfl (by omega)
          have HA := Keep.mk r1
          have HF : Keep (∃ (D2 : Dn) (vl : Value), rr (rn s) [] [] = some (D2.map (·.2)) ∧ D2.length ≤ 1048577 ∧ Sep w (W'.setCell ⟨kb, 0, none⟩ (.slice (some ⟨g, 0, none⟩) (D.length + 1) q)) (boxA kb [vl] 77 :: mrow vl D2 :: dnr D2)) := ⟨D ++ [((.slice a5 l.length c5 : Value), l)], _, by rw [hrd, rr, if_neg hl0, List.map_append]; rfl, by simp; omega, by
            rw [dnr_app]
            have S2 := r4.front4.tail
            exact S2.perm (List.Perm.cons _ (List.Perm.cons _ (List.perm_append_singleton _ _).symm))⟩
          clear hK hrd hfu hD S hit hla hl0 r1 r4
          go_wp2_with (at_builtin; refine wpList_append_run _ rfl (.tmp 53) (.tmp 55) 75 rfl _ _ rfl rfl HA.out ?_)
          go_meet
          exact HF
      case rest =>
      clear hnx hp hit hfu hD S hK hrd hla
      obtain ⟨D, vl, hrr, hDl, S⟩ := hcut.out
      obtain ⟨al, cl, el⟩ := own_slice (S.rowGet k1m)
      subst el
      obtain ⟨hL1, hL2⟩ := lns_some hrr
      have b0 : wc.cell? ⟨kb, 0, none⟩ = some (.slice al D.length cl) := (S.boxGet k0m).cellv 0 _ rfl
      have HG := Keep.mk S.g
      by_cases hn3 : D.length < 3
      · have HE : Keep (¬ ev (lns s)) := ⟨hL2 fun q => by have := q.1.1; rw [List.length_map] at this; omega⟩
        have hn4 : (D.length : Int) < 3 := by omega
        clear hcut hrr hDl S hL1 hL2
        go_wp2_with fail
        go_ret2
        exact ⟨HG.out, .inl ⟨HE.out, rfl⟩⟩
      by_cases hn64 : D.length > 64
      · have HE : Keep (¬ ev (lns s)) := ⟨hL2 fun q => by have := q.1.2; rw [List.length_map] at this; omega⟩
        have hn4 : ¬ (D.length : Int) < 3 := by omega
        have hn5 : (D.length : Int) > 64 := by omega
        clear hcut hrr hDl S hL1 hL2
        go_wp2_with fail
        go_ret2
        exact ⟨HG.out, .inl ⟨HE.out, rfl⟩⟩
      obtain ⟨kr, cl', e, hcells⟩ := own_any (S.rowGet k1m) (by omega)
      injection e with e1 e2 e3
      subst e1
      subst e3
      obtain ⟨n, hn⟩ : ∃ n, D.length = n := ⟨_, rfl⟩
      have HNL := Keep.mk hn
      obtain ⟨p0, hp0⟩ : ∃ p, D[0]? = some p := ⟨_, List.getElem?_eq_getElem (by omega)⟩
      have hrow : ∀ (i : Nat) (p : Value × List Int), D[i]? = some p → wc.cell? ⟨kr, i, none⟩ = some p.1 ∧ ∃ a c, p.1 = .slice a p.2.length c := fun i p hp => by
        refine ⟨(hcells i p.1 (by rw [List.getElem?_map, hp]; rfl)).1, ?_⟩
        exact own_slice (S.rowGet (l := _) (List.mem_cons_of_mem _ (List.mem_cons_of_mem _ (List.mem_map.2 ⟨p, List.mem_of_getElem? hp, rfl⟩))))
      obtain ⟨r0, a0, c0, e0⟩ := hrow 0 p0 hp0
      rw [e0] at r0
      have HROW := Keep.mk hrow
      obtain ⟨m, hm⟩ : ∃ m, p0.2.length = m := ⟨_, rfl⟩
      rw [hm] at r0
      have HW0 : Keep (wd (D.map (·.2)) = m) := ⟨by rw [wd_get (l := p0.2) (by rw [List.getElem?_map, hp0]; rfl)]; exact hm⟩
      have HS := Keep.mk S
      have HL1 := Keep.mk hL1
      have HL2 := Keep.mk hL2
      rw [hn] at b0 hn3 hn64 HS
      have q3 : ¬ (n : Int) < 3 := by omega
      have q64 : ¬ (n : Int) > 64 := by omega
      have q0 : (0 : Int) < (n : Nat) := by omega
      clear hcut hrr hDl S hL1 hL2 hcells hrow hn e0 hm e2
      go_wp2_with fail
      go_loopw [13] (fun u ws => ∃ i : Nat, i ≤ n ∧ u = iv i ∧ ws = wc ∧ Keep ((∀ j p, j < i → D[j]? = some p → p.2.length = m) ∧ (0 < i → 3 ≤ m ∧ m ≤ 64))) (fun u _ => (n - intOf u).toNat)
      case atStart => exact ⟨0, by omega, rfl, rfl, ⟨fun j p hj => by omega, fun h => by omega⟩⟩
      case round =>
        obtain ⟨i, hi, rfl, rfl, hR⟩ := hrel
        by_cases hlt : i < n
        · obtain ⟨p, hp⟩ : ∃ p, D[i]? = some p := ⟨_, List.getElem?_eq_getElem (by rw [HNL.out]; exact hlt)⟩
          obtain ⟨ri, ai, ci, ei⟩ := HROW.out i p hp
          rw [ei] at ri
          have HP := Keep.mk hp
          have hi1 : (i : Int) < (n : Nat) := by omega
          have hti : ((i : Nat) : Int).toNat = i := by omega
          have hwi : IntKind.i64.wrap ((i : Int) + 1) = ((i + 1 : Nat) : Int) := by rw [wi _ (by omega) (by omega)]; omega
          obtain ⟨q, hq⟩ : ∃ q, p.2.length = q := ⟨_, rfl⟩
          rw [hq] at ri
          have HQ := Keep.mk hq
          clear hp ei hq
          by_cases hqm : q = m
          · subst hqm
            by_cases m3 : q < 3
            · have HE : Keep (¬ ev (lns s)) := ⟨HL2.out fun z => by have := z.2.1.1; rw [HW0.out] at this; omega⟩
              have m4 : (q : Int) < 3 := by omega
              go_wp2_with fail
              go_ret2
              exact ⟨HG.out, .inl ⟨HE.out, rfl⟩⟩
            by_cases m64 : q > 64
            · have HE : Keep (¬ ev (lns s)) := ⟨HL2.out fun z => by have := z.2.1.2; rw [HW0.out] at this; omega⟩
              have m4 : ¬ (q : Int) < 3 := by omega
              have m5 : (q : Int) > 64 := by omega
              go_wp2_with fail
              go_ret2
              exact ⟨HG.out, .inl ⟨HE.out, rfl⟩⟩
            have m4 : ¬ (q : Int) < 3 := by omega
            have m5 : ¬ (q : Int) > 64 := by omega
            go_wp2_with fail
            go_roundw
            case rel =>
              refine ⟨i + 1, by omega, rfl, trivial, ⟨fun j p' hj hp' => ?_, fun _ => by omega⟩⟩
              by_cases hji : j = i
              · subst hji; rw [HP.out] at hp'; cases hp'; exact HQ.out
              · exact hR.out.1 j p' (by omega) hp'
            case measure => simp [intOf]; omega
          · have HE : Keep (¬ ev (lns s)) := ⟨HL2.out fun z => by
              have := z.2.2 p.2 (List.mem_map.2 ⟨p, List.mem_of_getElem? HP.out, rfl⟩)
              rw [HW0.out, HQ.out] at this
              exact hqm this⟩
            have hqm2 : (q : Int) ≠ (m : Int) := by omega
            clear hqm
            go_wp2_with fail
            go_ret2
            exact ⟨HG.out, .inl ⟨HE.out, rfl⟩⟩
        · have hall : ∀ p ∈ D, p.2.length = m := fun p hp => by
            obtain ⟨j, hj, e⟩ := List.mem_iff_getElem.1 hp
            exact hR.out.1 j p (by rw [HNL.out] at hj; omega) (List.getElem?_eq_some_iff.2 ⟨hj, e⟩)
          have hm3 := hR.out.2 (by omega)
          have hevL : ev (D.map (·.2)) := by
            refine ⟨by rw [List.length_map, HNL.out]; omega, by rw [HW0.out]; exact hm3, fun l hl => ?_⟩
            obtain ⟨p, hp, rfl⟩ := List.mem_map.1 hl
            rw [HW0.out]; exact hall p hp
          have hLL := HL1.out hevL
          have hok : oks (D.map (·.2)) := by rw [← hLL]; exact rd_oks0 _
          obtain ⟨V, hV⟩ : ∃ V, D.map (·.1) = V := ⟨_, rfl⟩
          obtain ⟨L, hL⟩ : ∃ L, D.map (·.2) = L := ⟨_, rfl⟩
          have HW : Keep (wd L = m) := ⟨by rw [← hL]; exact HW0.out⟩
          have HN : Keep (L.length = n) := ⟨by rw [← hL, List.length_map]; exact HNL.out⟩
          rw [hL] at hevL hok hLL
          have HLL := Keep.mk hLL
          have HEV := Keep.mk hevL
          have HOK := Keep.mk hok
          have HX : Keep (∃ D2 : Dn, D2.map (·.1) = V ∧ D2.map (·.2) = mix L 0 0 ∧ Sep w wr (boxA kb [.slice (some ⟨kr, 0, none⟩) n cl] 77 :: mrow (.slice (some ⟨kr, 0, none⟩) n cl) D2 :: dnr D2)) := ⟨D, hV, by rw [mix_zero hevL]; exact hL, HS.out⟩
          have hin : (n : Int) ≤ (i : Int) := by omega
          clear hR hall hLL hV hL hevL hok HL1 HL2 HS HROW HW0 r0
          go_wp2_with fail
          go_loopw [14] (fun u ws => ∃ y : Nat, y ≤ n ∧ u = iv y ∧ Keep (∃ D2 : Dn, D2.map (·.1) = V ∧ D2.map (·.2) = mix L y 0 ∧ Sep w ws (boxA kb [.slice (some ⟨kr, 0, none⟩) n cl] 77 :: mrow (.slice (some ⟨kr, 0, none⟩) n cl) D2 :: dnr D2))) (fun u _ => (n - intOf u).toNat)
          case atStart => exact ⟨0, by omega, rfl, HX⟩
          case round =>
            clear HX hin b0 HG
            obtain ⟨y, hy, rfl, HX⟩ := hrel
            by_cases hyn : y < n
            · have hyn2 : (y : Int) < (n : Int) := by omega
              go_wp2_with fail
              go_loopw [15] (fun u ws => ∃ x : Nat, x ≤ m ∧ u = iv x ∧ Keep (∃ D2 : Dn, D2.map (·.1) = V ∧ D2.map (·.2) = mix L y x ∧ Sep w ws (boxA kb [.slice (some ⟨kr, 0, none⟩) n cl] 77 :: mrow (.slice (some ⟨kr, 0, none⟩) n cl) D2 :: dnr D2))) (fun u _ => (m - intOf u).toNat)
              case atStart => exact ⟨0, by omega, rfl, HX⟩
              case round =>
                clear HX
                obtain ⟨x, hx, rfl, HX⟩ := hrel
                by_cases hxm : x < m
                · have hxm2 : (x : Int) < (m : Int) := by omega
                  obtain ⟨D2, hV2, hM2, S2⟩ := HX.out
                  have hD2l : D2.length = n := by rw [← List.length_map (f := fun p : Value × List Int => p.2), hM2, mix_len]; exact HN.out
                  obtain ⟨vy, hvy0⟩ : ∃ p, D2[y]? = some p := ⟨_, List.getElem?_eq_getElem (by omega)⟩
                  have hvy2 : vy.2 = mixR L y x y := by
                    have := congrArg (fun l => l[y]?) hM2
                    simp only [List.getElem?_map, hvy0, mix_get (show y < L.length by rw [HN.out]; exact hyn)] at this
                    injection this
                  obtain ⟨vy1, vyl⟩ := vy
                  simp only at hvy2
                  subst hvy2
                  obtain ⟨k2, c2, e2, _, hc2⟩ := S2.rcellD (A := [boxA kb [.slice (some ⟨kr, 0, none⟩) n cl] 77, mrow (.slice (some ⟨kr, 0, none⟩) n cl) D2]) hvy0 (by rw [mixR_len, HW.out]; omega)
                  rw [mixR_len, HW.out] at e2
                  subst e2
                  have hD2y := hvy0
                  have hvy : V[y]? = some (.slice (some ⟨k2, 0, none⟩) m c2) := by rw [← hV2, List.getElem?_map, hvy0]; rfl
                  have b0 : wr.cell? ⟨kb, 0, none⟩ = some (.slice (some ⟨kr, 0, none⟩) n cl) := (S2.boxGet k0m).cellv 0 _ rfl
                  have b1 : wr.cell? ⟨kr, y, none⟩ = some (.slice (some ⟨k2, 0, none⟩) m c2) := by
                    obtain ⟨g', c', e, hc⟩ := own_any (S2.rowGet k1m) (by rw [hD2l]; omega)
                    injection e with e1
                    injection e1 with e1
                    injection e1 with e1
                    subst e1
                    exact (hc y _ (by rw [hV2]; exact hvy)).1
                  obtain ⟨b2, b3⟩ := hc2 x _ (mixR_get (by rw [HW.out]; exact hxm))
                  have tX : (x : Int).toNat = x := by omega
                  have tY : (y : Int).toNat = y := by omega
                  have hyi : (y : Int) < (n : Nat) := by omega
                  have hxi : (x : Int) < (m : Nat) := by omega
                  have hwx : IntKind.i64.wrap ((x : Int) + 1) = ((x + 1 : Nat) : Int) := by rw [wi _ (by omega) (by omega)]; omega
                  have hwm : IntKind.i64.wrap ((m : Int) - 1) = (m : Int) - 1 := wi _ (by omega) (by omega)
                  have hwn : IntKind.i64.wrap ((n : Int) - 1) = (n : Int) - 1 := wi _ (by omega) (by omega)
                  clear HX hc2 hvy0
                  by_cases r1 : (x : Int) = 0
                  · have hrim : x = 0 ∨ y = 0 ∨ (x : Int) = (wd L : Int) - 1 ∨ (y : Int) = (L.length : Int) - 1 := .inl (by omega)
                    have t0 : ((x : Int) == 0) = true := by simp only [beq_iff_eq]; exact r1
                    clear r1
                    have HV : Keep (∃ D3 : Dn, D3.map (·.1) = V ∧ D3.map (·.2) = mix L y (x + 1) ∧ Sep w (wr.setCell ⟨k2, x, none⟩ (i32 35)) (boxA kb [.slice (some ⟨kr, 0, none⟩) n cl] 77 :: mrow (.slice (some ⟨kr, 0, none⟩) n cl) D3 :: dnr D3)) := ⟨D2.set y (.slice (some ⟨k2, 0, none⟩) m c2, (mixR L y x y).set x 35), by rw [List.map_set, hV2]; exact set_self hvy, by
                      rw [List.map_set, hM2, ← mix_step, rim_cel hrim], by
                      have := S2.rset (A := [boxA kb [.slice (some ⟨kr, 0, none⟩) n cl] 77, mrow (.slice (some ⟨kr, 0, none⟩) n cl) D2]) (x := x) hD2y (by rw [mixR_len]; exact HW.out) 35
                      rw [mrow, List.length_set, List.map_set, hV2, set_self hvy]
                      rw [mrow, hV2] at this
                      exact this⟩
                    clear hrim hM2 hV2 S2 hD2y hvy hD2l
                    go_wp2_with fail
                    go_roundw
                    case rel => exact ⟨x + 1, by omega, rfl, HV⟩
                    case measure => simp [intOf]; omega
                  have t0 : ((x : Int) == 0) = false := by simp only [beq_eq_false_iff_ne]; exact r1
                  have K0 := Keep.mk r1
                  clear r1
                  by_cases r2 : (y : Int) = 0
                  · have hrim : x = 0 ∨ y = 0 ∨ (x : Int) = (wd L : Int) - 1 ∨ (y : Int) = (L.length : Int) - 1 := .inr (.inl (by omega))
                    have t1 : ((y : Int) == 0) = true := by simp only [beq_iff_eq]; exact r2
                    clear r2
                    have HV : Keep (∃ D3 : Dn, D3.map (·.1) = V ∧ D3.map (·.2) = mix L y (x + 1) ∧ Sep w (wr.setCell ⟨k2, x, none⟩ (i32 35)) (boxA kb [.slice (some ⟨kr, 0, none⟩) n cl] 77 :: mrow (.slice (some ⟨kr, 0, none⟩) n cl) D3 :: dnr D3)) := ⟨D2.set y (.slice (some ⟨k2, 0, none⟩) m c2, (mixR L y x y).set x 35), by rw [List.map_set, hV2]; exact set_self hvy, by
                      rw [List.map_set, hM2, ← mix_step, rim_cel hrim], by
                      have := S2.rset (A := [boxA kb [.slice (some ⟨kr, 0, none⟩) n cl] 77, mrow (.slice (some ⟨kr, 0, none⟩) n cl) D2]) (x := x) hD2y (by rw [mixR_len]; exact HW.out) 35
                      rw [mrow, List.length_set, List.map_set, hV2, set_self hvy]
                      rw [mrow, hV2] at this
                      exact this⟩
                    clear hrim hM2 hV2 S2 hD2y hvy hD2l
                    go_wp2_with fail
                    go_roundw
                    case rel => exact ⟨x + 1, by omega, rfl, HV⟩
                    case measure => simp [intOf]; omega
                  have t1 : ((y : Int) == 0) = false := by simp only [beq_eq_false_iff_ne]; exact r2
                  have K1 := Keep.mk r2
                  clear r2
                  by_cases r3 : (x : Int) = (m : Int) - 1
                  · have hrim : x = 0 ∨ y = 0 ∨ (x : Int) = (wd L : Int) - 1 ∨ (y : Int) = (L.length : Int) - 1 := .inr (.inr (.inl (by rw [HW.out]; exact r3)))
                    have t2 : ((x : Int) == (m : Int) - 1) = true := by simp only [beq_iff_eq]; exact r3
                    clear r3
                    have HV : Keep (∃ D3 : Dn, D3.map (·.1) = V ∧ D3.map (·.2) = mix L y (x + 1) ∧ Sep w (wr.setCell ⟨k2, x, none⟩ (i32 35)) (boxA kb [.slice (some ⟨kr, 0, none⟩) n cl] 77 :: mrow (.slice (some ⟨kr, 0, none⟩) n cl) D3 :: dnr D3)) := ⟨D2.set y (.slice (some ⟨k2, 0, none⟩) m c2, (mixR L y x y).set x 35), by rw [List.map_set, hV2]; exact set_self hvy, by
                      rw [List.map_set, hM2, ← mix_step, rim_cel hrim], by
                      have := S2.rset (A := [boxA kb [.slice (some ⟨kr, 0, none⟩) n cl] 77, mrow (.slice (some ⟨kr, 0, none⟩) n cl) D2]) (x := x) hD2y (by rw [mixR_len]; exact HW.out) 35
                      rw [mrow, List.length_set, List.map_set, hV2, set_self hvy]
                      rw [mrow, hV2] at this
                      exact this⟩
                    clear hrim hM2 hV2 S2 hD2y hvy hD2l
                    go_wp2_with fail
                    go_roundw
                    case rel => exact ⟨x + 1, by omega, rfl, HV⟩
                    case measure => simp [intOf]; omega
                  have t2 : ((x : Int) == (m : Int) - 1) = false := by simp only [beq_eq_false_iff_ne]; exact r3
                  have K2 := Keep.mk r3
                  clear r3
                  by_cases r4 : (y : Int) = (n : Int) - 1
                  · have hrim : x = 0 ∨ y = 0 ∨ (x : Int) = (wd L : Int) - 1 ∨ (y : Int) = (L.length : Int) - 1 := .inr (.inr (.inr (by rw [HN.out]; exact r4)))
                    have t3 : ((y : Int) == (n : Int) - 1) = true := by simp only [beq_iff_eq]; exact r4
                    clear r4
                    have HV : Keep (∃ D3 : Dn, D3.map (·.1) = V ∧ D3.map (·.2) = mix L y (x + 1) ∧ Sep w (wr.setCell ⟨k2, x, none⟩ (i32 35)) (boxA kb [.slice (some ⟨kr, 0, none⟩) n cl] 77 :: mrow (.slice (some ⟨kr, 0, none⟩) n cl) D3 :: dnr D3)) := ⟨D2.set y (.slice (some ⟨k2, 0, none⟩) m c2, (mixR L y x y).set x 35), by rw [List.map_set, hV2]; exact set_self hvy, by
                      rw [List.map_set, hM2, ← mix_step, rim_cel hrim], by
                      have := S2.rset (A := [boxA kb [.slice (some ⟨kr, 0, none⟩) n cl] 77, mrow (.slice (some ⟨kr, 0, none⟩) n cl) D2]) (x := x) hD2y (by rw [mixR_len]; exact HW.out) 35
                      rw [mrow, List.length_set, List.map_set, hV2, set_self hvy]
                      rw [mrow, hV2] at this
                      exact this⟩
                    clear hrim hM2 hV2 S2 hD2y hvy hD2l
                    go_wp2_with fail
                    go_roundw
                    case rel => exact ⟨x + 1, by omega, rfl, HV⟩
                    case measure => simp [intOf]; omega
                  have t3 : ((y : Int) == (n : Int) - 1) = false := by simp only [beq_eq_false_iff_ne]; exact r4
                  have K3 := Keep.mk r4
                  clear r4
                  have HV : Keep (∃ D3 : Dn, D3.map (·.1) = V ∧ D3.map (·.2) = mix L y (x + 1) ∧ Sep w wr (boxA kb [.slice (some ⟨kr, 0, none⟩) n cl] 77 :: mrow (.slice (some ⟨kr, 0, none⟩) n cl) D3 :: dnr D3)) := ⟨D2, hV2, by
                    rw [mix_same (raw_in (by have h0 := K0.out; have h1 := K1.out; have h2 := K2.out; have h3 := K3.out; rw [HW.out, HN.out]; omega) (by rw [HW.out]; exact hxm) (by rw [HN.out]; exact hyn))]; exact hM2, S2⟩
                  clear hM2 hV2 S2 hD2y hvy hD2l
                  go_wp2_with fail
                  go_roundw
                  case rel => exact ⟨x + 1, by omega, rfl, HV⟩
                  case measure => simp [intOf]; omega
                · have hxm2 : (m : Int) ≤ (x : Int) := by omega
                  have hwy : IntKind.i64.wrap ((y : Int) + 1) = ((y + 1 : Nat) : Int) := by rw [wi _ (by omega) (by omega)]; omega
                  have HX2 : Keep (∃ D2 : Dn, D2.map (·.1) = V ∧ D2.map (·.2) = mix L (y + 1) 0 ∧ Sep w wr (boxA kb [.slice (some ⟨kr, 0, none⟩) n cl] 77 :: mrow (.slice (some ⟨kr, 0, none⟩) n cl) D2 :: dnr D2)) := ⟨by
                    obtain ⟨D2, h1, h2, h3⟩ := HX.out
                    have : x = wd L := by rw [HW.out]; omega
                    exact ⟨D2, h1, by rw [h2, this, mix_row], h3⟩⟩
                  clear HX
                  go_wp2_with fail
                  go_roundw
                  case rel => exact ⟨y + 1, by omega, rfl, HX2⟩
                  case measure => simp [intOf]; omega
            · have hyn2 : (n : Int) ≤ (y : Int) := by omega
              obtain ⟨D2, hV2, hM2, S2⟩ := HX.out
              have hD2l : D2.length = n := by rw [← List.length_map (f := fun p : Value × List Int => p.2), hM2, mix_len]; exact HN.out
              have hRB : RB wr (pt kb) L := by
                refine ⟨HEV.out, HOK.out, kb, kr, cl, rfl, by rw [HN.out]; exact (S2.boxGet k0m).cellv 0 _ rfl, fun b hb => ?_⟩
                rw [HN.out] at hb
                obtain ⟨vb, hvb⟩ : ∃ p, D2[b]? = some p := ⟨_, List.getElem?_eq_getElem (by omega)⟩
                have hvb2 : vb.2 = mixR L y 0 b := by
                  have := congrArg (fun l => l[b]?) hM2
                  simp only [List.getElem?_map, hvb, mix_get (show b < L.length by rw [HN.out]; exact hb)] at this
                  injection this
                obtain ⟨vb1, vbl⟩ := vb
                simp only at hvb2
                subst hvb2
                obtain ⟨k2, c2, e2, hcap, hc2⟩ := S2.rcellD (A := [boxA kb [.slice (some ⟨kr, 0, none⟩) n cl] 77, mrow (.slice (some ⟨kr, 0, none⟩) n cl) D2]) hvb (by rw [mixR_len, HW.out]; omega)
                rw [mixR_len] at e2 hcap
                refine ⟨k2, c2, hcap, ?_, fun a ha => ?_⟩
                · obtain ⟨g', c', e, hc⟩ := own_any (S2.rowGet k1m) (by rw [hD2l]; omega)
                  injection e with e1
                  injection e1 with e1
                  injection e1 with e1
                  subst e1
                  rw [← e2]
                  exact (hc b _ (by rw [List.getElem?_map, hvb]; rfl)).1
                · have := (hc2 a _ (mixR_get ha)).1
                  rw [show y = L.length by rw [HN.out]; omega, mix_full L a b (by rw [HN.out]; exact hb)] at this
                  exact this
              have hSp := rspawns_c wr _ L hRB
              have HRB := Keep.mk hRB
              have HG := Keep.mk S2.g
              clear hRB S2 hM2 hV2 HX hD2l
              go_wp2_with fail
              refine hSp.mono ?_
              rintro e w5 ⟨u, rfl, S5⟩
              obtain ⟨a', c', rfl⟩ := own_slice (S5.rowGet k0m)
              have HG3 := Keep.mk (HG.out.trans S5.g)
              have HB3 := Keep.mk (HRB.out.kept S5.g)
              clear hSp S5 HRB HG
              by_cases h0 : spn L = []
              · have HSP := Keep.mk h0
                rw [h0]
                clear h0
                go_wp2_with fail
                go_ret2
                exact ⟨HG3.out, by rw [HLL.out]; exact .inr (.inl ⟨HEV.out, HSP.out, rfl⟩)⟩
              · have HSP := Keep.mk h0
                have h1 : ((spn L).length : Int) ≠ 0 := by have := List.length_pos_iff.2 h0; omega
                clear h0
                go_wp2_with fail
                go_ret2
                exact ⟨HG3.out, by rw [HLL.out]; exact .inr (.inr ⟨HEV.out, HSP.out, _, rfl, HB3.out⟩)⟩
end Go.Proofs.YtmacmoikjgmaoaaDoor.Bo
