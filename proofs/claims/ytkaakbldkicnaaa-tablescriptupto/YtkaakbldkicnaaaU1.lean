/- TableScript: the walk. -/
import Derived.Test.YtkaakbldkicnaaaT9
import Derived.Test.YtkaakbldkicnaaaB2
namespace Go.Proofs.Ytkaakbldkicnaaa
open Go Go.RowKit Go.Maps

theorem start_st {w0 W : World} {pb t t' d d' : Nat} {n : Nat} {tv wv : Value} (h : Sep w0 W (boxA pb ((((([np, np, np, np, tv, wv, .bool false] : List Value).set 0 (pt t)).set (2 + 0) (pt d)).set 1 (pt t')).set (2 + 1) (pt d')) 58 :: tabA t' 3 [] :: refA d' 3 [] :: tabA t 2 [] :: refA d 2 [] :: [bookA tv wv n])) : Sep w0 W (stB false pb t t' d d' 2 3 [] [] tv wv n []) := by
  exact h.perm (List.Perm.cons _ ((List.perm_append_comm (l₁ := [tabA t' 3 [], refA d' 3 []]) (l₂ := [tabA t 2 [], refA d 2 []])).append_right [bookA tv wv n]))
theorem sum_take_le (cs : List Nat) (i : Nat) : (cs.take i).sum ≤ cs.sum := by
  have e2 : cs.sum = (cs.take i).sum + (cs.drop i).sum := by rw [← List.sum_append, List.take_append_drop]
  omega
set_option maxRecDepth 100000 in
set_option maxHeartbeats 16000000 in
theorem script_c (size : Int) (w : World) (a0 : Option Addr) (n ci : Nat) (cs : List Nat) (hcl : cs.length = n) (hn : n ≤ 1048576) (hsum : cs.sum ≤ 1048576)
    (hop : 0 < n → ∃ B o, a0 = some ⟨B, o, none⟩ ∧ ∀ j cj, cs[j]? = some cj → ∃ vj, w.rangeAt B (o + j * 5) vj ∧ OpV w 4 vj cj) :
    Calls Try.prog 7 #[iv size, .slice a0 n ci] w fun r W' => r = .returned (.bool true) ∧ w.grownBy W' none := by
  have HO := Keep.mk hop
  have HN : Keep (cs.length = n ∧ n ≤ 1048576 ∧ cs.sum ≤ 1048576) := ⟨hcl, hn, hsum⟩
  have hn4 : (n : Int) ≤ 1048576 := by omega
  clear hop hcl hsum hn
  go_enter Try.func7, Try.ntmps7
  go_wp2_with fail
  refine (alive_c w).mono ?_
  rintro r w1 ⟨rfl, g1⟩
  have S1 := (Sep.start g1).noBook.newBox #[np, np, np, np, .slice none 0 0, .slice none 0 0, .bool false] 58
  obtain ⟨pb, hpb⟩ : ∃ pb, w1.heap.size = pb := ⟨_, rfl⟩
  obtain ⟨W2, hW2⟩ : ∃ W2, w1.alloc (.cells #[np, np, np, np, .slice none 0 0, .slice none 0 0, .bool false] 58) = W2 := ⟨_, rfl⟩
  rw [hpb, hW2] at S1
  have hB := begin_yes pb 0 2 _ S1 (by rfl) (by omega) (by omega) (by omega)
  change Calls Try.prog 30 #[pt pb, iv 0, iv 2] W2 _ at hB
  clear g1 S1
  go_wp2_with fail
  refine hB.mono ?_
  rintro r w3 ⟨rfl, t, d, S3⟩
  have hB2 := begin_yes pb 1 3 _ S3 (by rfl) (by omega) (by omega) (by omega)
  change Calls Try.prog 30 #[pt pb, iv 1, iv 3] w3 _ at hB2
  clear hB S3 hW2 hpb
  go_wp2_with fail
  refine hB2.mono ?_
  rintro r w4 ⟨rfl, t', d', S4⟩
  have hB3 := begin_top pb t t' d d' 2 3 [] [] _ _ 0 size (start_st S4)
  clear hB2 S4
  go_wp2_with fail
  refine hB3.mono ?_
  rintro r w5 ⟨rfl, h5⟩
  have H5 : Keep (TopP w pb 0 ((cs.take 0).sum) w5) := ⟨h5⟩
  clear hB3 h5
  go_wp2_with fail
  go_loopw [6] (fun v wr => ∃ i : Nat, i ≤ n ∧ v = .int .i64 i ∧ Keep (TopP w pb 0 ((cs.take i).sum) wr)) (fun v _ => (n - intOf v).toNat)
  case atStart => exact ⟨0, by omega, rfl, H5⟩
  case round =>
    clear H5
    obtain ⟨i, hi, rfl, hR⟩ := hrel
    obtain ⟨t, t', d, d', s, s', M, M', tv, wv, n', hn', S⟩ := hR.out
    by_cases hlt : i < n
    · obtain ⟨BB, bo, ha0, hops⟩ := HO.out (by omega)
      obtain ⟨cj, hcj⟩ : ∃ cj, cs[i]? = some cj := ⟨_, List.getElem?_eq_getElem (by rw [HN.out.1]; exact hlt)⟩
      obtain ⟨vj, hrj, hvj⟩ := hops i cj hcj
      obtain ⟨pk, pa, pkey, px', pinn, rfl⟩ := hvj.form
      have hst := sum_take cs i cj hcj
      have hS := step_top w wr pb t t' d d' s s' M M' tv wv n' cj _ hvj (by have := HN.out; omega) S
      have z0 : wr.cell? ⟨BB, bo + i * 5, none⟩ = some (iv pk) := S.g.cell (hrj 0 _ rfl) (by simp)
      have z1 : wr.cell? ⟨BB, bo + i * 5 + 1, none⟩ = some (iv pa) := S.g.cell (hrj 1 _ rfl) (by simp)
      have z2 : wr.cell? ⟨BB, bo + i * 5 + 2, none⟩ = some (.string pkey) := S.g.cell (hrj 2 _ rfl) (by simp)
      have z3 : wr.cell? ⟨BB, bo + i * 5 + 3, none⟩ = some (iv px') := S.g.cell (hrj 3 _ rfl) (by simp)
      have z4 : wr.cell? ⟨BB, bo + i * 5 + 4, none⟩ = some pinn := S.g.cell (hrj 4 _ rfl) (by simp)
      have hi0 : (0 : Int) ≤ (i : Int) := by omega
      have hi1 : (i : Int) < (n : Nat) := by omega
      have hti : ((i : Nat) : Int).toNat = i := by omega
      have hwi : IntKind.i64.wrap ((i : Int) + 1) = ((i + 1 : Nat) : Int) := by rw [wi _ (by omega) (by omega)]; omega
      have HI : Keep (i < n ∧ n' + cj ≤ (cs.take (i + 1)).sum) := ⟨hlt, by omega⟩
      clear hops hrj hvj hcj S hR hn' hst hi hlt
      rw [ha0]
      go_wp2_with fail
      refine hS.mono ?_
      rintro r w6 ⟨rfl, t1, t1', d1, d1', s1, s1', M1, M1', tv1, wv1, n1, hn1, S6⟩
      have hW := whole_c w w6 pb t1 t1' d1 d1' s1 s1' M1 M1' tv1 wv1 n1 [] S6
      have HN1 : Keep (n1 ≤ (cs.take (i + 1)).sum) := ⟨by have := HI.out; omega⟩
      clear hS S6 z0 z1 z2 z3 z4 hn1
      go_wp2_with fail
      refine hW.mono ?_
      rintro r w7 ⟨rfl, S7⟩
      have HF : Keep (TopP w pb 0 ((cs.take (i + 1)).sum) w7) := ⟨t1, t1', d1, d1', s1, s1', M1, M1', tv1, wv1, n1, by have := HN1.out; omega, S7⟩
      clear hW S7
      rw [← ha0]
      go_wp2_with fail
      exact ⟨⟨i + 1, by have := HI.out; omega, by simp, HF⟩, by simp only [intOf]; have := HI.out; omega⟩
    · obtain rfl : i = n := by omega
      have hn2 : n' ≤ 1048576 := by have := sum_take_le cs i; have := HN.out; omega
      obtain ⟨B, hB, SB⟩ := (S.know trivial).openBook
      clear hR S hlt hi hn' HO
      by_cases hz : n' = 0
      · subst hz
        obtain ⟨ta, tc, htv⟩ := own_slice (SB.rowGet k0m)
        subst htv
        have HSB := Keep.mk SB
        have c4 := (SB.plc k3m).tv
        clear SB
        go_wp2_with fail
        clear c4
        go_loopw [7] (fun v wq => v = .int .i64 0 ∧ Keep (w.grownBy wq none ∧ wq.cell? ⟨pb, 4, none⟩ = some (.slice ta 0 tc))) (fun _ _ => 0)
        case atStart => exact ⟨rfl, ⟨HSB.out.g, (HSB.out.plc k3m).tv⟩⟩
        case round =>
          obtain ⟨rfl, hQ⟩ := hrel
          have c4 := hQ.out.2
          have HF := Keep.mk hQ.out.1
          clear hQ
          go_wp2_with fail
          go_ret
          exact ⟨rfl, HF.out⟩
      · obtain ⟨g, gc, htv, htc⟩ := own_any (SB.rowGet k0m) (by omega)
        obtain ⟨u, uc, hwv, huc⟩ := own_any (SB.rowGet k1m) (by omega)
        subst htv
        subst hwv
        have HSB := Keep.mk SB
        have c4 := (SB.plc k3m).tv
        have hn3 : (n' : Int) ≤ 1048576 := by omega
        have HB : Keep ((B.length = n' ∧ ∀ q ∈ B, q.2.2.length ≤ 4096) ∧ 0 < n') := ⟨hB, by omega⟩
        clear SB htc huc hB hz
        go_wp2_with fail
        clear c4
        go_loopw [7] (fun v wq => ∃ j : Nat, j ≤ n' ∧ v = .int .i64 j ∧ Keep (Sep w wq (rowV 22 1 (.slice (some ⟨g, 0, none⟩) n' gc) n' (B.map fun q => q.1) :: rowV 22 1 (.slice (some ⟨u, 0, none⟩) n' uc) n' (B.map fun q => q.2.1) :: pureA True :: boxA pb (pcb false t t' d d' (.slice (some ⟨g, 0, none⟩) n' gc) (.slice (some ⟨u, 0, none⟩) n' uc)) 58 :: tabA t s M :: refA d s M :: tabA t' s' M' :: refA d' s' M' :: (bks B ++ [])))) (fun v _ => (n' - intOf v).toNat)
        case atStart => exact ⟨0, by omega, rfl, HSB⟩
        case round =>
          clear HSB
          obtain ⟨j, hj, rfl, hQ⟩ := hrel
          have SQ := hQ.out
          have c4 := (SQ.plc k3m).tv
          by_cases hjl : j < n'
          · obtain ⟨q, hq⟩ : ∃ q, B[j]? = some q := ⟨_, List.getElem?_eq_getElem (by rw [HB.out.1.1]; exact hjl)⟩
            obtain ⟨v1, v2, xs⟩ := q
            have hm := mem_bks (List.mem_of_getElem? hq)
            have hmm : ∀ a ∈ bks B, a ∈ (rowV 22 1 (.slice (some ⟨g, 0, none⟩) n' gc) n' (B.map fun q => q.1) :: rowV 22 1 (.slice (some ⟨u, 0, none⟩) n' uc) n' (B.map fun q => q.2.1) :: pureA True :: boxA pb (pcb false t t' d d' (.slice (some ⟨g, 0, none⟩) n' gc) (.slice (some ⟨u, 0, none⟩) n' uc)) 58 :: tabA t s M :: refA d s M :: tabA t' s' M' :: refA d' s' M' :: (bks B ++ [])) := fun a ha => by
              simp only [List.mem_cons, List.mem_append]
              simp [ha]
            have st1 := SQ.row (hmm _ hm.1)
            have st2 := SQ.row (hmm _ hm.2)
            obtain ⟨g', gc', e, htc⟩ := own_any (SQ.rowGet k0m) HB.out.2
            injection e with e1 e2 e3
            injection e1 with e1
            injection e1 with e1
            subst e1
            obtain ⟨u', uc', e, huc⟩ := own_any (SQ.rowGet k1m) HB.out.2
            injection e with e1 e4 e5
            injection e1 with e1
            injection e1 with e1
            subst e1
            have d1 : wr.cell? ⟨g, j, none⟩ = some v1 := (htc j v1 (by rw [List.getElem?_map, hq]; rfl)).1
            have d2 : wr.cell? ⟨u, j, none⟩ = some v2 := (huc j v2 (by rw [List.getElem?_map, hq]; rfl)).1
            have hxs : xs.length ≤ 4611686018427387904 := by have := HB.out.1.2 _ (List.mem_of_getElem? hq); simp only at this; omega
            have hT : ∀ ww, wr.grownBy ww none → Calls Try.prog 17 #[v1, v2] ww fun r W' => r = .returned (.bool true) ∧ ww.grownBy W' none := fun ww g => by
              have := texts_c ww v1 v2 xs xs (st1.kept g) (st2.kept g) hxs
              rw [decide_eq_true rfl] at this
              exact this
            obtain ⟨va, vl, vc, hv1⟩ : ∃ a l c, v1 = .slice a l c := by obtain ⟨a, c, e⟩ := st1.slice; exact ⟨a, _, c, e⟩
            obtain ⟨ua, ul, uc2, hv2⟩ : ∃ a l c, v2 = .slice a l c := by obtain ⟨a, c, e⟩ := st2.slice; exact ⟨a, _, c, e⟩
            subst hv1
            subst hv2
            have HC : Keep (wr.cell? ⟨pb, 4, none⟩ = some (.slice (some ⟨g, 0, none⟩) n' gc) ∧ wr.cell? ⟨pb, 5, none⟩ = some (.slice (some ⟨u, 0, none⟩) n' uc) ∧ wr.cell? ⟨g, j, none⟩ = some (.slice va vl vc) ∧ wr.cell? ⟨u, j, none⟩ = some (.slice ua ul uc2)) := ⟨c4, (SQ.plc k3m).wv, d1, d2⟩
            have HT := Keep.mk hT
            have hj0 : (0 : Int) ≤ (j : Int) := by omega
            have hj1 : (j : Int) < (n' : Nat) := by omega
            have htj : ((j : Nat) : Int).toNat = j := by omega
            have hwj : IntKind.i64.wrap ((j : Int) + 1) = ((j + 1 : Nat) : Int) := by rw [wi _ (by omega) (by omega)]; omega
            have HJ : Keep (j < n') := ⟨hjl⟩
            clear SQ hq hm hmm st1 st2 htc huc e2 e3 e4 e5 d1 d2 hT hxs hj hjl
            go_wp2_with fail
            refine wp_region_held_drew (S := fun w' => wr.grownBy w' none) (by kernel_rfl) (gr_drew wr none) (fun hHeld => ?_)
            generalize wr.drew = w2 at hHeld ⊢
            clear c4
            refine wpAnyH_take (i := 0) (oi := _) (v := ?_) rfl (by kernel_rfl) (by kernel_rfl) (by kernel_rfl) (fun _ _ _ h => h) (Or.inl ⟨by rfl, ?_⟩) (by assumption) ?_
            rotate_left
            · (intro w hSw; go_simp; first | done | (with_reducible rfl))
            simp only [Act.put, List.getElem_toArray, List.getElem_cons_zero, List.setIfInBounds_toArray, List.set_cons_zero, List.set_cons_succ]
            refine wpAnyH_take (i := 1) (oi := _) (v := ?_) rfl (by kernel_rfl) (by kernel_rfl) (by kernel_rfl) (fun _ _ _ h => h) (Or.inl ⟨by rfl, ?_⟩) (by assumption) ?_
            rotate_left
            · (intro w hSw; go_simp; first | done | (with_reducible rfl))
            simp only [Act.put, List.getElem_toArray, List.getElem_cons_succ, List.getElem_cons_zero, List.setIfInBounds_toArray, List.set_cons_zero, List.set_cons_succ]
            refine wpAnyH_take (i := 2) (oi := _) (v := ?_) rfl (by kernel_rfl) (by kernel_rfl) (by kernel_rfl) (fun _ _ _ h => h) (Or.inl ⟨by rfl, ?_⟩) (by assumption) ?_
            rotate_left
            · (intro w hSw; go_simp; first | done | (with_reducible rfl))
            simp only [Act.put, List.getElem_toArray, List.getElem_cons_succ, List.getElem_cons_zero, List.setIfInBounds_toArray, List.set_cons_zero, List.set_cons_succ]
            refine wpAnyH_take (i := 3) (oi := _) (v := ?_) rfl (by kernel_rfl) (by kernel_rfl) (by kernel_rfl) (fun _ _ _ h => h) (Or.inl ⟨by rfl, ?_⟩) (by assumption) ?_
            rotate_left
            · (intro w hSw; have y1 := (hSw.cell HC.out.1 (by simp)); have y2 := (hSw.cell HC.out.2.1 (by simp)); have y3 := (hSw.cell HC.out.2.2.1 (by simp)); have y4 := (hSw.cell HC.out.2.2.2 (by simp)); clear hSw; go_simp; first | done | (with_reducible rfl))
            simp only [Act.put, List.getElem_toArray, List.getElem_cons_succ, List.getElem_cons_zero, List.setIfInBounds_toArray, List.set_cons_zero, List.set_cons_succ]
            refine wpAnyH_take (i := 4) (oi := _) (v := ?_) rfl (by kernel_rfl) (by kernel_rfl) (by kernel_rfl) (fun _ _ _ h => h) (Or.inl ⟨by rfl, ?_⟩) (by assumption) ?_
            rotate_left
            · (intro w hSw; go_simp; first | done | (with_reducible rfl))
            simp only [Act.put, List.getElem_toArray, List.getElem_cons_succ, List.getElem_cons_zero, List.setIfInBounds_toArray, List.set_cons_zero, List.set_cons_succ]
            refine wpAnyH_take (i := 5) (oi := _) (v := ?_) rfl (by kernel_rfl) (by kernel_rfl) (by kernel_rfl) (fun _ _ _ h => h) (Or.inl ⟨by rfl, ?_⟩) (by assumption) ?_
            rotate_left
            · (intro w hSw; go_simp; first | done | (with_reducible rfl))
            simp only [Act.put, List.getElem_toArray, List.getElem_cons_succ, List.getElem_cons_zero, List.setIfInBounds_toArray, List.set_cons_zero, List.set_cons_succ]
            refine wpAnyH_take (i := 6) (oi := _) (v := ?_) rfl (by kernel_rfl) (by kernel_rfl) (by kernel_rfl) (fun _ _ _ h => h) (Or.inl ⟨by rfl, ?_⟩) (by assumption) ?_
            rotate_left
            · (intro w hSw; have y1 := (hSw.cell HC.out.1 (by simp)); have y2 := (hSw.cell HC.out.2.1 (by simp)); have y3 := (hSw.cell HC.out.2.2.1 (by simp)); have y4 := (hSw.cell HC.out.2.2.2 (by simp)); clear hSw; go_simp; first | done | (with_reducible rfl))
            simp only [Act.put, List.getElem_toArray, List.getElem_cons_succ, List.getElem_cons_zero, List.setIfInBounds_toArray, List.set_cons_zero, List.set_cons_succ]
            refine wpAnyH_take (i := 7) (oi := _) (v := ?_) rfl (by kernel_rfl) (by kernel_rfl) (by kernel_rfl) (fun _ _ _ h => h) (Or.inl ⟨by rfl, ?_⟩) (by assumption) ?_
            rotate_left
            · (intro w hSw; go_simp; first | done | (with_reducible rfl))
            simp only [Act.put, List.getElem_toArray, List.getElem_cons_succ, List.getElem_cons_zero, List.setIfInBounds_toArray, List.set_cons_zero, List.set_cons_succ]
            refine wpAnyH_take (i := 8) (oi := _) (v := ?_) rfl (by kernel_rfl) (by kernel_rfl) (by kernel_rfl) (fun _ _ _ h => h) (Or.inl ⟨by rfl, ?_⟩) (by assumption) ?_
            rotate_left
            · (intro w hSw; go_simp; first | done | (with_reducible rfl))
            simp only [Act.put, List.getElem_toArray, List.getElem_cons_succ, List.getElem_cons_zero, List.setIfInBounds_toArray, List.set_cons_zero, List.set_cons_succ]
            refine wpAnyH_take (i := 9) (oi := _) (v := ?_) rfl (by kernel_rfl) (by kernel_rfl) (by kernel_rfl) (fun _ _ _ h => h) (Or.inl ⟨by rfl, ?_⟩) (by assumption) ?_
            rotate_left
            · (intro w hSw; go_simp; first | done | (with_reducible rfl))
            simp only [Act.put, List.getElem_toArray, List.getElem_cons_succ, List.getElem_cons_zero, List.setIfInBounds_toArray, List.set_cons_zero, List.set_cons_succ]
            refine wpAnyH_take (i := 10) (oi := _) (v := ?_) rfl (by kernel_rfl) (by kernel_rfl) (by kernel_rfl) (fun _ _ _ h => h) (Or.inl ⟨by rfl, ?_⟩) (by assumption) ?_
            rotate_left
            · (intro w hSw; have y1 := (hSw.cell HC.out.1 (by simp)); have y2 := (hSw.cell HC.out.2.1 (by simp)); have y3 := (hSw.cell HC.out.2.2.1 (by simp)); have y4 := (hSw.cell HC.out.2.2.2 (by simp)); clear hSw; go_simp; first | done | (with_reducible rfl))
            simp only [Act.put, List.getElem_toArray, List.getElem_cons_succ, List.getElem_cons_zero, List.setIfInBounds_toArray, List.set_cons_zero, List.set_cons_succ]
            refine wpAnyH_take (i := 11) (oi := _) (v := ?_) rfl (by kernel_rfl) (by kernel_rfl) (by kernel_rfl) (fun _ _ _ h => h) (Or.inl ⟨by rfl, ?_⟩) (by assumption) ?_
            rotate_left
            · (intro w hSw; go_simp; first | done | (with_reducible rfl))
            simp only [Act.put, List.getElem_toArray, List.getElem_cons_succ, List.getElem_cons_zero, List.setIfInBounds_toArray, List.set_cons_zero, List.set_cons_succ]
            refine wpAnyH_take (i := 12) (oi := _) (v := ?_) rfl (by kernel_rfl) (by kernel_rfl) (by kernel_rfl) (fun _ _ _ h => h) (Or.inl ⟨by rfl, ?_⟩) (by assumption) ?_
            rotate_left
            · (intro w hSw; go_simp; first | done | (with_reducible rfl))
            simp only [Act.put, List.getElem_toArray, List.getElem_cons_succ, List.getElem_cons_zero, List.setIfInBounds_toArray, List.set_cons_zero, List.set_cons_succ]
            refine wpAnyH_take (i := 13) (oi := _) (v := ?_) rfl (by kernel_rfl) (by kernel_rfl) (by kernel_rfl) (fun _ _ _ h => h) (Or.inl ⟨by rfl, ?_⟩) (by assumption) ?_
            rotate_left
            · (intro w hSw; have y1 := (hSw.cell HC.out.1 (by simp)); have y2 := (hSw.cell HC.out.2.1 (by simp)); have y3 := (hSw.cell HC.out.2.2.1 (by simp)); have y4 := (hSw.cell HC.out.2.2.2 (by simp)); clear hSw; go_simp; first | done | (with_reducible rfl))
            simp only [Act.put, List.getElem_toArray, List.getElem_cons_succ, List.getElem_cons_zero, List.setIfInBounds_toArray, List.set_cons_zero, List.set_cons_succ]
            refine wpAnyH_ready (rs := [14]) (by kernel_rfl) (by simp) ?_
            refine AllReadyH.cons rfl (fun K' hK => ?_) AllReadyH.nil
            have hT := HT.out w2 hHeld
            have HG := Keep.mk hHeld
            clear hHeld
            go_simp
            go_wp2_with fail
            refine hT.mono ?_
            rintro r w3 ⟨rfl, g3⟩
            have HG3 := Keep.mk (HG.out.trans g3)
            clear g3 hT
            refine hK.out _ _ HG3.out (fun hHeld => ?_)
            clear hK K'
            refine wpAnyH_take (i := 15) (oi := _) (v := ?_) rfl (by kernel_rfl) (by kernel_rfl) (by kernel_rfl) (fun _ _ _ h => h) (Or.inl ⟨by rfl, ?_⟩) (by assumption) ?_
            rotate_left
            · (intro w hSw; go_simp; first | done | (with_reducible rfl))
            simp only [Act.put, List.getElem_toArray, List.getElem_cons_succ, List.getElem_cons_zero, List.setIfInBounds_toArray, List.set_cons_zero, List.set_cons_succ]
            refine wpAnyH_done (by kernel_rfl) ?_ _
            have HF := Keep.mk (hQ.out.grown HG3.out)
            clear hHeld HG HG3 hQ HC HT
            go_wp2_with fail
            exact ⟨⟨j + 1, by have := HJ.out; omega, by simp, HF⟩, by simp only [intOf]; have := HJ.out; omega⟩
          · obtain rfl : j = n' := by omega
            have HF := Keep.mk SQ.g
            clear SQ hQ hjl hj
            go_wp2_with fail
            go_ret
            exact ⟨rfl, HF.out⟩
end Go.Proofs.Ytkaakbldkicnaaa
