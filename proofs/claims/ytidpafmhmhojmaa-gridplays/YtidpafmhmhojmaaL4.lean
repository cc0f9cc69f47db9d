/- GridPlays. -/
import Derived.Test.YtidpafmhmhojmaaJ4
namespace Go.Proofs.Ytidpafmhmhojmaa
open Go Go.RowKit

theorem grid_facts {w0 W : World} {l : List As} {gb : Nat} {sd : Int} {M : List Pl} (h : Sep w0 W (gridA gb sd M :: l)) : Srt M ∧ PlR M := by
  obtain ⟨va, mi, mc, A, C, g, _⟩ := grid_open h
  refine ⟨g.srt, fun p hp => ?_⟩
  obtain ⟨t, ht, rfl⟩ := List.mem_map.1 (g.con.mem_iff.2 hp)
  exact g.rg t ht
theorem nrL_len (M : List Pl) (x y r : Int) : (nrL M x y r).length ≤ M.length := by unfold nrL; rw [List.length_map]; exact nr_len M x y r
theorem nstL_len (M : List Pl) (x y r n : Int) : (nstL M x y r n).length ≤ M.length := by unfold nstL nst; rw [List.length_map, List.length_take, (srtD_perm x y _).length_eq]; have := nr_len M x y r; omega
set_option maxRecDepth 100000 in
set_option maxHeartbeats 32000000 in
theorem plays_c (W : World) (sd : Int) (_ : I64 sd) (v : Value) (L : List Stp) (h : SrO W v L) : Calls Try.prog 6 #[iv sd, v] W fun e W' => e = .returned (.bool true) ∧ W.grownBy W' none := by
  have HH := Keep.mk h
  obtain ⟨a, cap, rfl, _⟩ := h.o
  obtain ⟨n, hn⟩ : ∃ n, L.length = n := ⟨_, rfl⟩
  rw [hn] at HH ⊢
  have hnb : n < 1000000000000000000 := by have := h.len; omega
  have HLN := Keep.mk hn
  clear h hn
  obtain ⟨du, hdu, hdr⟩ := under34
  by_cases hs : 1 ≤ sd ∧ sd ≤ 1099511627776
  case neg =>
    have HSD : Keep (sd < 1 ∨ 1099511627776 < sd) := ⟨by omega⟩
    clear hs
    go_enter Try.func6, Try.ntmps6
    go_wp2_with fail
    refine (fixed_c W).mono ?_
    rintro e W1 ⟨rfl, g1⟩
    have HG := Keep.mk g1
    clear g1
    go_wp2_with fail
    refine (new_no W1 sd HSD.out).mono ?_
    rintro e w1 ⟨rfl, hw⟩
    rw [hw]
    clear hw w1
    go_wp2_with fail
    refine (rnew_no W1 sd HSD.out).mono ?_
    rintro e w1 ⟨rfl, hw⟩
    rw [hw]
    clear hw w1
    go_wp2_with fail
    go_ret
    exact ⟨rfl, HG.out⟩
  case pos =>
  have HSD := Keep.mk hs
  clear hs
  go_enter Try.func6, Try.ntmps6
  go_wp2_with fail
  refine (fixed_c W).mono ?_
  rintro e W1 ⟨rfl, g1⟩
  have HS := Keep.mk (Sep.start g1)
  clear g1
  go_wp2_with fail
  refine (new_c W W1 _ sd HSD.out HS.out).mono ?_
  rintro e W2 ⟨gb, rfl, S2⟩
  replace HS := Keep.mk S2
  clear S2
  go_wp2_with fail
  refine (rnew_c W W2 _ sd HSD.out HS.out).mono ?_
  rintro e W3 ⟨rb, rfl, S2⟩
  replace HS : Keep (Sep W W3 [gridA gb sd [], rgA rb []]) := ⟨S2.swap⟩
  clear S2
  go_wp2_with fail
  go_loopw [9] (fun u wr => ∃ (i : Nat) (M : List Pl), i ≤ n ∧ i ≤ 300 ∧ u = iv i ∧ Keep (Sep W wr [gridA gb sd M, rgA rb M]) ∧ Keep (M.length ≤ i)) (fun u _ => (n - intOf u).toNat)
  case atStart => exact ⟨0, [], by omega, by omega, rfl, HS, ⟨by simp⟩⟩
  case round =>
    clear HS
    obtain ⟨i, M, hi, hi3, rfl, HB, hM⟩ := hrel
    by_cases hlt : i < n
    · have hi0 : (i : Int) < (n : Int) := by omega
      by_cases h300 : i < 300
      · have hi4 : (i : Int) < 300 := by omega
        obtain ⟨b0, o0, s, rfl, hs, hok, hrg⟩ := HH.out.at HLN.out hlt
        have HO := Keep.mk hok
        have HRG := Keep.mk hrg
        have HM := Keep.mk hM.out
        have HML : Keep (M.length ≤ 300) := ⟨by have := hM.out; omega⟩
        have hii : IntKind.i64.wrap ((i : Int) + 1) = ((i + 1 : Nat) : Int) := by rw [IntKind.wrap_i64]; omega
        have hti : ((i : Nat) : Int).toNat = i := by omega
        clear hs hok hrg
        have S1 := HB.out.newBox #[iv s.op, iv s.id, iv s.x, iv s.y, iv s.r, iv s.n] 34
        obtain ⟨W1, hW1⟩ : ∃ W1, wr.alloc (.cells #[iv s.op, iv s.id, iv s.x, iv s.y, iv s.r, iv s.n] 34) = W1 := ⟨_, rfl⟩
        obtain ⟨ob, hob⟩ : ∃ b, wr.heap.size = b := ⟨_, rfl⟩
        rw [hW1, hob] at S1
        have RN := Keep.mk (HRG.out wr HB.out.g)
        have HSR := Keep.mk (grid_facts HB.out)
        have HS : Keep (Sep W W1 (boxA ob [iv s.op, iv s.id, iv s.x, iv s.y, iv s.r, iv s.n] 34 :: gridA gb sd M :: [rgA rb M])) := ⟨S1⟩
        have o0 := (S1.boxGet k0m).cellv 0 _ rfl
        have o1 := (S1.boxGet k0m).cellv 1 _ rfl
        have o2 := (S1.boxGet k0m).cellv 2 _ rfl
        have o3 := (S1.boxGet k0m).cellv 3 _ rfl
        have o4 := (S1.boxGet k0m).cellv 4 _ rfl
        have o5 := (S1.boxGet k0m).cellv 5 _ rfl
        clear S1 HB hM
        by_cases hop : s.op = 1
        · have d1 : (s.op == 1) = true := by simpa using hop
          clear hop
          have HLE : Keep ((putM M ⟨s.id, s.x, s.y⟩).length ≤ M.length + 1) := ⟨len_put _ _⟩
          go_wp2_with (first
            | (show wpList _ _ _ ({ dst := some 53, op := Op.load 34 _, type := _, pos := _, after := _, guard := _ } :: _) _ _
               refine wpList_load_mid rfl 34 _ rfl _ _ rfl _ _ RN.out hdu hdr info34 ?_)
            | fail)
          refine (put_c W W1 _ gb sd M s.id s.x s.y HO.out.2.1 HO.out.2.2.1 HO.out.2.2.2.1 (by have := HML.out; omega) HS.out.swap).mono ?_
          rintro e W2 ⟨rfl, S2⟩
          have o1 := (S2.boxGet k1m).cellv 1 _ rfl
          have o2 := (S2.boxGet k1m).cellv 2 _ rfl
          have o3 := (S2.boxGet k1m).cellv 3 _ rfl
          have HS2 := Keep.mk S2
          clear S2 HS
          go_wp2_with fail
          refine (rput_c W W2 _ rb M s.id s.x s.y HSR.out.1 (by have := HML.out; omega) (fr1 [_, _] HS2.out)).mono ?_
          rintro e W3 ⟨rfl, S3⟩
          have HS : Keep (Sep W W3 (boxA ob [iv s.op, iv s.id, iv s.x, iv s.y, iv s.r, iv s.n] 34 :: gridA gb sd (putM M ⟨s.id, s.x, s.y⟩) :: [rgA rb (putM M ⟨s.id, s.x, s.y⟩)])) := ⟨(bk1 [_, _] S3).swap⟩
          clear S3 HS2
          have HL1 := Keep.mk (len_c W W3 _ gb sd (putM M ⟨s.id, s.x, s.y⟩) HS.out.tail)
          have HL2 := Keep.mk (rlen_c W W3 _ rb (putM M ⟨s.id, s.x, s.y⟩) HS.out.tail.tail)
          go_wp2_with fail
          refine HL1.out.mono ?_
          rintro e w1 ⟨rfl, hw⟩
          rw [hw]
          clear hw w1 HL1
          go_wp2_with fail
          refine HL2.out.mono ?_
          rintro e w1 ⟨rfl, hw⟩
          rw [hw]
          clear hw w1 HL2
          go_wp2_with fail
          go_roundw
          case rel => exact ⟨i + 1, putM M ⟨s.id, s.x, s.y⟩, by omega, by omega, rfl, ⟨HS.out.tail⟩, ⟨by have q1 := HM.out; have q2 := HLE.out; omega⟩⟩
          case measure => simp [intOf]; omega
        · by_cases hop2 : s.op = 2
          · replace hop := hop2
            clear hop2
            have d1 : (s.op == 1) = false := by simp; omega
            have d2 : (s.op == 2) = true := by simpa using hop
            clear hop
            have HLE : Keep ((rmk M s.id).length ≤ M.length + 1) := ⟨by have : (rmk M s.id).length ≤ M.length := List.length_filter_le _ _; omega⟩
            obtain ⟨b0, hb0⟩ : ∃ b, atB M s.id = b := ⟨_, rfl⟩
            have HBB := Keep.mk hb0
            clear hb0
            go_wp2_with (first
              | (show wpList _ _ _ ({ dst := some 53, op := Op.load 34 _, type := _, pos := _, after := _, guard := _ } :: _) _ _
                 refine wpList_load_mid rfl 34 _ rfl _ _ rfl _ _ RN.out hdu hdr info34 ?_)
              | fail)
            refine (rdelete_c W W1 _ rb M s.id HSR.out.1 (by have := HML.out; omega) (fr1 [_, _] HS.out)).mono ?_
            rintro e W2 ⟨rfl, S2⟩
            rw [HBB.out]
            have o1 := (S2.boxGet k1m).cellv 1 _ rfl
            have HS2 := Keep.mk S2
            clear S2 HS
            go_wp2_with fail
            refine (delete_c W W2 _ gb sd M s.id HO.out.2.1 (by have := HML.out; omega) (fr1 [_, _] HS2.out)).mono ?_
            rintro e W3 ⟨rfl, S3⟩
            rw [HBB.out]
            have HS : Keep (Sep W W3 (boxA ob [iv s.op, iv s.id, iv s.x, iv s.y, iv s.r, iv s.n] 34 :: gridA gb sd (rmk M s.id) :: [rgA rb (rmk M s.id)])) := ⟨S3.third⟩
            clear S3 HS2 HBB
            cases b0
            · have HL1 := Keep.mk (len_c W W3 _ gb sd (rmk M s.id) HS.out.tail)
              have HL2 := Keep.mk (rlen_c W W3 _ rb (rmk M s.id) HS.out.tail.tail)
              go_wp2_with fail
              refine HL1.out.mono ?_
              rintro e w1 ⟨rfl, hw⟩
              rw [hw]
              clear hw w1 HL1
              go_wp2_with fail
              refine HL2.out.mono ?_
              rintro e w1 ⟨rfl, hw⟩
              rw [hw]
              clear hw w1 HL2
              go_wp2_with fail
              go_roundw
              case rel => exact ⟨i + 1, rmk M s.id, by omega, by omega, rfl, ⟨HS.out.tail⟩, ⟨by have q1 := HM.out; have q2 := HLE.out; omega⟩⟩
              case measure => simp [intOf]; omega
            · have HL1 := Keep.mk (len_c W W3 _ gb sd (rmk M s.id) HS.out.tail)
              have HL2 := Keep.mk (rlen_c W W3 _ rb (rmk M s.id) HS.out.tail.tail)
              go_wp2_with fail
              refine HL1.out.mono ?_
              rintro e w1 ⟨rfl, hw⟩
              rw [hw]
              clear hw w1 HL1
              go_wp2_with fail
              refine HL2.out.mono ?_
              rintro e w1 ⟨rfl, hw⟩
              rw [hw]
              clear hw w1 HL2
              go_wp2_with fail
              go_roundw
              case rel => exact ⟨i + 1, rmk M s.id, by omega, by omega, rfl, ⟨HS.out.tail⟩, ⟨by have q1 := HM.out; have q2 := HLE.out; omega⟩⟩
              case measure => simp [intOf]; omega
          · by_cases hop3 : s.op = 3
            · replace hop := hop3
              clear hop2 hop3
              have d1 : (s.op == 1) = false := by simp; omega
              have d2 : (s.op == 2) = false := by simp; omega
              have d3 : (s.op == 3) = true := by simpa using hop
              clear hop
              have HLE : Keep ((M).length ≤ M.length + 1) := ⟨by omega⟩
              obtain ⟨b0, hb0⟩ : ∃ b, atB M s.id = b := ⟨_, rfl⟩
              obtain ⟨px, hpx⟩ : ∃ b, atX M s.id = b := ⟨_, rfl⟩
              obtain ⟨py, hpy⟩ : ∃ b, atY M s.id = b := ⟨_, rfl⟩
              have HBB := Keep.mk hb0
              have HPX := Keep.mk hpx
              have HPY := Keep.mk hpy
              clear hb0 hpx hpy
              go_wp2_with (first
                | (show wpList _ _ _ ({ dst := some 53, op := Op.load 34 _, type := _, pos := _, after := _, guard := _ } :: _) _ _
                   refine wpList_load_mid rfl 34 _ rfl _ _ rfl _ _ RN.out hdu hdr info34 ?_)
                | fail)
              refine (at_c W W1 _ gb sd M s.id HO.out.2.1 HS.out.swap).mono ?_
              rintro e W2 ⟨rfl, g2⟩
              rw [HBB.out, HPX.out, HPY.out]
              have S2 := (HS.out.grown g2).newBox #[iv px, iv py] 32
              obtain ⟨W3, hW3⟩ : ∃ W3, W2.alloc (.cells #[iv px, iv py] 32) = W3 := ⟨_, rfl⟩
              obtain ⟨ab, hab⟩ : ∃ b, W2.heap.size = b := ⟨_, rfl⟩
              rw [hW3, hab] at S2
              have o1 := (S2.boxGet k1m).cellv 1 _ rfl
              have HS2 := Keep.mk S2
              clear S2 HS g2
              go_wp2_with fail
              refine (rat_c W W3 _ rb M s.id (by have := HML.out; omega) (fr1 [_, _, _] HS2.out)).mono ?_
              rintro e W4 ⟨rfl, g2⟩
              rw [HBB.out, HPX.out, HPY.out]
              have S2 := (HS2.out.grown g2).newBox #[iv px, iv py] 32
              obtain ⟨W5, hW5⟩ : ∃ W3, W4.alloc (.cells #[iv px, iv py] 32) = W3 := ⟨_, rfl⟩
              obtain ⟨ac, hac⟩ : ∃ b, W4.heap.size = b := ⟨_, rfl⟩
              rw [hW5, hac] at S2
              have x0 := (S2.boxGet k0m).cellv 0 _ rfl
              have x1 := (S2.boxGet k0m).cellv 1 _ rfl
              have y0 := (S2.boxGet k1m).cellv 0 _ rfl
              have y1 := (S2.boxGet k1m).cellv 1 _ rfl
              have HS : Keep (Sep W W5 (boxA ob [iv s.op, iv s.id, iv s.x, iv s.y, iv s.r, iv s.n] 34 :: gridA gb sd M :: [rgA rb M])) := ⟨S2.tail.tail⟩
              clear S2 HS2 HBB HPX HPY g2
              cases b0
              · have HL1 := Keep.mk (len_c W W5 _ gb sd (M) HS.out.tail)
                have HL2 := Keep.mk (rlen_c W W5 _ rb (M) HS.out.tail.tail)
                go_wp2_with fail
                refine HL1.out.mono ?_
                rintro e w1 ⟨rfl, hw⟩
                rw [hw]
                clear hw w1 HL1
                go_wp2_with fail
                refine HL2.out.mono ?_
                rintro e w1 ⟨rfl, hw⟩
                rw [hw]
                clear hw w1 HL2
                go_wp2_with fail
                go_roundw
                case rel => exact ⟨i + 1, M, by omega, by omega, rfl, ⟨HS.out.tail⟩, ⟨by have q1 := HM.out; have q2 := HLE.out; omega⟩⟩
                case measure => simp [intOf]; omega
              · have HL1 := Keep.mk (len_c W W5 _ gb sd (M) HS.out.tail)
                have HL2 := Keep.mk (rlen_c W W5 _ rb (M) HS.out.tail.tail)
                go_wp2_with fail
                refine HL1.out.mono ?_
                rintro e w1 ⟨rfl, hw⟩
                rw [hw]
                clear hw w1 HL1
                go_wp2_with fail
                refine HL2.out.mono ?_
                rintro e w1 ⟨rfl, hw⟩
                rw [hw]
                clear hw w1 HL2
                go_wp2_with fail
                go_roundw
                case rel => exact ⟨i + 1, M, by omega, by omega, rfl, ⟨HS.out.tail⟩, ⟨by have q1 := HM.out; have q2 := HLE.out; omega⟩⟩
                case measure => simp [intOf]; omega
            · by_cases hop4 : s.op = 4
              · replace hop := hop4
                clear hop2 hop3 hop4
                have d1 : (s.op == 1) = false := by simp; omega
                have d2 : (s.op == 2) = false := by simp; omega
                have d3 : (s.op == 3) = false := by simp; omega
                have d4 : (s.op == 4) = true := by simpa using hop
                clear hop
                have HLE : Keep ((M).length ≤ M.length + 1) := ⟨by omega⟩
                go_wp2_with (first
                  | (show wpList _ _ _ ({ dst := some 53, op := Op.load 34 _, type := _, pos := _, after := _, guard := _ } :: _) _ _
                     refine wpList_load_mid rfl 34 _ rfl _ _ rfl _ _ RN.out hdu hdr info34 ?_)
                  | fail)
                have HB := HS
                clear HS
                replace HB := Keep.mk (HB.out.grown (gr_drew _ none))
                refine region_X (S := fun w' => Has w' ob [iv s.op, iv s.id, iv s.x, iv s.y, iv s.r, iv s.n] 34) [] (by kernel_rfl) (HB.out.boxGet k0m) (fun hHeld => ?_)
                obtain ⟨W0, hW0⟩ : ∃ W_, W1.drew = W_ := ⟨_, rfl⟩
                rw [hW0] at HB hHeld ⊢
                clear hW0
                refine wpAnyX_take (i := 0) (oi := _) (v := ?_) rfl (by kernel_rfl) (by kernel_rfl) (by kernel_rfl) (by kernel_rfl) (by kernel_rfl) (fun _ _ _ h => h) (Or.inl ⟨by rfl, ?_⟩) (by assumption) ?_
                rotate_left
                · (intro w hSw; go_simp; first | done | (with_reducible rfl))
                simp only [Act.put, List.getElem_toArray, List.getElem_cons_zero, List.setIfInBounds_toArray, List.set_cons_zero, List.set_cons_succ]
                refine wpAnyX_take (i := 1) (oi := _) (v := ?_) rfl (by kernel_rfl) (by kernel_rfl) (by kernel_rfl) (by kernel_rfl) (by kernel_rfl) (fun _ _ _ h => h) (Or.inl ⟨by rfl, ?_⟩) (by assumption) ?_
                rotate_left
                · (intro w hSw; go_simp; first | done | (with_reducible rfl))
                simp only [Act.put, List.getElem_toArray, List.getElem_cons_succ, List.getElem_cons_zero, List.setIfInBounds_toArray, List.set_cons_zero, List.set_cons_succ]
                refine wpAnyX_take (i := 2) (oi := _) (v := .agg #[iv s.x, iv s.y]) rfl (by kernel_rfl) (by kernel_rfl) (by kernel_rfl) (by kernel_rfl) (by kernel_rfl) (fun _ _ _ h => h) (Or.inl ⟨by rfl, ?_⟩) (by assumption) ?_
                · (intro w hSw; have q0 := hSw.cellv 2 _ rfl; have q1 := hSw.cellv 3 _ rfl; go_simp; first | done | rfl | (simp; done) | trace_state)
                simp only [Act.put, List.getElem_toArray, List.getElem_cons_succ, List.getElem_cons_zero, List.setIfInBounds_toArray, List.set_cons_zero, List.set_cons_succ]
                refine wpAnyX_take (i := 3) (oi := _) (v := ?_) rfl (by kernel_rfl) (by kernel_rfl) (by kernel_rfl) (by kernel_rfl) (by kernel_rfl) (fun _ _ _ h => h) (Or.inl ⟨by rfl, ?_⟩) (by assumption) ?_
                rotate_left
                · (intro w hSw; go_simp; first | done | (with_reducible rfl))
                simp only [Act.put, List.getElem_toArray, List.getElem_cons_succ, List.getElem_cons_zero, List.setIfInBounds_toArray, List.set_cons_zero, List.set_cons_succ]
                refine wpAnyX_take (i := 4) (oi := _) (v := iv s.r) rfl (by kernel_rfl) (by kernel_rfl) (by kernel_rfl) (by kernel_rfl) (by kernel_rfl) (fun _ _ _ h => h) (Or.inl ⟨by rfl, ?_⟩) (by assumption) ?_
                · (intro w hSw; have q0 := hSw.cellv 4 _ rfl; go_simp; first | done | rfl | (simp; done) | trace_state)
                simp only [Act.put, List.getElem_toArray, List.getElem_cons_succ, List.getElem_cons_zero, List.setIfInBounds_toArray, List.set_cons_zero, List.set_cons_succ]
                refine wpAnyX_take (i := 6) (oi := _) (v := ?_) rfl (by kernel_rfl) (by kernel_rfl) (by kernel_rfl) (by kernel_rfl) (by kernel_rfl) (fun _ _ _ h => h) (Or.inl ⟨by rfl, ?_⟩) (by assumption) ?_
                rotate_left
                · (intro w hSw; go_simp; first | done | (with_reducible rfl))
                simp only [Act.put, List.getElem_toArray, List.getElem_cons_succ, List.getElem_cons_zero, List.setIfInBounds_toArray, List.set_cons_zero, List.set_cons_succ]
                refine wpAnyX_take (i := 7) (oi := _) (v := ?_) rfl (by kernel_rfl) (by kernel_rfl) (by kernel_rfl) (by kernel_rfl) (by kernel_rfl) (fun _ _ _ h => h) (Or.inl ⟨by rfl, ?_⟩) (by assumption) ?_
                rotate_left
                · (intro w hSw; go_simp; first | done | (with_reducible rfl))
                simp only [Act.put, List.getElem_toArray, List.getElem_cons_succ, List.getElem_cons_zero, List.setIfInBounds_toArray, List.set_cons_zero, List.set_cons_succ]
                refine wpAnyX_take (i := 8) (oi := _) (v := .agg #[iv s.x, iv s.y]) rfl (by kernel_rfl) (by kernel_rfl) (by kernel_rfl) (by kernel_rfl) (by kernel_rfl) (fun _ _ _ h => h) (Or.inl ⟨by rfl, ?_⟩) (by assumption) ?_
                · (intro w hSw; have q0 := hSw.cellv 2 _ rfl; have q1 := hSw.cellv 3 _ rfl; go_simp; first | done | rfl | (simp; done) | trace_state)
                simp only [Act.put, List.getElem_toArray, List.getElem_cons_succ, List.getElem_cons_zero, List.setIfInBounds_toArray, List.set_cons_zero, List.set_cons_succ]
                refine wpAnyX_take (i := 9) (oi := _) (v := ?_) rfl (by kernel_rfl) (by kernel_rfl) (by kernel_rfl) (by kernel_rfl) (by kernel_rfl) (fun _ _ _ h => h) (Or.inl ⟨by rfl, ?_⟩) (by assumption) ?_
                rotate_left
                · (intro w hSw; go_simp; first | done | (with_reducible rfl))
                simp only [Act.put, List.getElem_toArray, List.getElem_cons_succ, List.getElem_cons_zero, List.setIfInBounds_toArray, List.set_cons_zero, List.set_cons_succ]
                refine wpAnyX_take (i := 10) (oi := _) (v := iv s.r) rfl (by kernel_rfl) (by kernel_rfl) (by kernel_rfl) (by kernel_rfl) (by kernel_rfl) (fun _ _ _ h => h) (Or.inl ⟨by rfl, ?_⟩) (by assumption) ?_
                · (intro w hSw; have q0 := hSw.cellv 4 _ rfl; go_simp; first | done | rfl | (simp; done) | trace_state)
                simp only [Act.put, List.getElem_toArray, List.getElem_cons_succ, List.getElem_cons_zero, List.setIfInBounds_toArray, List.set_cons_zero, List.set_cons_succ]
                refine wpAnyX_one (i := 5) (by kernel_rfl) rfl (fun K hK => ?_)
                go_simp
                refine (near_c W _ _ gb sd M s.x s.y s.r HO.out.2.2.1 HO.out.2.2.2.1 (by have := HML.out; omega) HB.out.swap).mono ?_
                rintro e wg ⟨v1, rfl, S1⟩
                refine hK.out _ _ (S1.boxGet k2m) (fun hHeld => ?_)
                replace HB : Keep (Sep W wg (rgA rb M :: nums v1 (nrL M s.x s.y s.r) :: gridA gb sd M :: [boxA ob [iv s.op, iv s.id, iv s.x, iv s.y, iv s.r, iv s.n] 34])) := ⟨fr1 [_, _, _] S1⟩
                clear hK K S1
                refine wpAnyX_one (i := 11) (by kernel_rfl) rfl (fun K hK => ?_)
                go_simp
                refine (rnear_c W _ _ rb M s.x s.y s.r HO.out.2.2.1 HO.out.2.2.2.1 HSR.out.2 (by have := HML.out; omega) HB.out).mono ?_
                rintro e wh ⟨v2, rfl, S1⟩
                refine hK.out _ _ (S1.boxGet k4m) (fun hHeld => ?_)
                replace HB : Keep (Sep W wh (nums v2 (nrL M s.x s.y s.r) :: rgA rb M :: nums v1 (nrL M s.x s.y s.r) :: gridA gb sd M :: [boxA ob [iv s.op, iv s.id, iv s.x, iv s.y, iv s.r, iv s.n] 34])) := ⟨S1⟩
                clear hK K S1
                refine wpAnyX_one (i := 12) (by kernel_rfl) rfl (fun K hK => ?_)
                go_simp
                refine (ints_c W _ _ v1 v2 (nrL M s.x s.y s.r) (by have := nrL_len M s.x s.y s.r; have := HML.out; omega) HB.out k2m k0m).mono ?_
                rintro e wi ⟨rfl, g1⟩
                replace HB := Keep.mk (HB.out.grown g1)
                refine hK.out _ _ (HB.out.boxGet k4m) (fun hHeld => ?_)
                clear hK K g1
                refine wpAnyX_take (i := 13) (oi := _) (v := ?_) rfl (by kernel_rfl) (by kernel_rfl) (by kernel_rfl) (by kernel_rfl) (by kernel_rfl) (fun _ _ _ h => h) (Or.inl ⟨by rfl, ?_⟩) (by assumption) ?_
                rotate_left
                · (intro w hSw; go_simp; first | done | (with_reducible rfl))
                simp only [Act.put, List.getElem_toArray, List.getElem_cons_succ, List.getElem_cons_zero, List.setIfInBounds_toArray, List.set_cons_zero, List.set_cons_succ]
                refine wpAnyX_done (by kernel_rfl) ?_ _
                have HS : Keep (Sep W wi (boxA ob [iv s.op, iv s.id, iv s.x, iv s.y, iv s.r, iv s.n] 34 :: gridA gb sd M :: [rgA rb M])) := ⟨HB.out.tail.swap.tail.third.perm ((List.Perm.swap _ _ _).cons _)⟩
                clear HB hHeld
                have HL1 := Keep.mk (len_c W wi _ gb sd (M) HS.out.tail)
                have HL2 := Keep.mk (rlen_c W wi _ rb (M) HS.out.tail.tail)
                go_wp2_with fail
                refine HL1.out.mono ?_
                rintro e w1 ⟨rfl, hw⟩
                rw [hw]
                clear hw w1 HL1
                go_wp2_with fail
                refine HL2.out.mono ?_
                rintro e w1 ⟨rfl, hw⟩
                rw [hw]
                clear hw w1 HL2
                go_wp2_with fail
                go_roundw
                case rel => exact ⟨i + 1, M, by omega, by omega, rfl, ⟨HS.out.tail⟩, ⟨by have q1 := HM.out; have q2 := HLE.out; omega⟩⟩
                case measure => simp [intOf]; omega
              · by_cases hop5 : s.op = 5
                · replace hop := hop5
                  clear hop2 hop3 hop4 hop5
                  have d1 : (s.op == 1) = false := by simp; omega
                  have d2 : (s.op == 2) = false := by simp; omega
                  have d3 : (s.op == 3) = false := by simp; omega
                  have d4 : (s.op == 4) = false := by simp; omega
                  have d5 : (s.op == 5) = true := by simpa using hop
                  clear hop
                  have HLE : Keep ((M).length ≤ M.length + 1) := ⟨by omega⟩
                  go_wp2_with (first
                    | (show wpList _ _ _ ({ dst := some 53, op := Op.load 34 _, type := _, pos := _, after := _, guard := _ } :: _) _ _
                       refine wpList_load_mid rfl 34 _ rfl _ _ rfl _ _ RN.out hdu hdr info34 ?_)
                    | fail)
                  have HB := HS
                  clear HS
                  replace HB := Keep.mk (HB.out.grown (gr_drew _ none))
                  refine region_X (S := fun w' => Has w' ob [iv s.op, iv s.id, iv s.x, iv s.y, iv s.r, iv s.n] 34) [] (by kernel_rfl) (HB.out.boxGet k0m) (fun hHeld => ?_)
                  obtain ⟨W0, hW0⟩ : ∃ W_, W1.drew = W_ := ⟨_, rfl⟩
                  rw [hW0] at HB hHeld ⊢
                  clear hW0
                  refine wpAnyX_take (i := 0) (oi := _) (v := ?_) rfl (by kernel_rfl) (by kernel_rfl) (by kernel_rfl) (by kernel_rfl) (by kernel_rfl) (fun _ _ _ h => h) (Or.inl ⟨by rfl, ?_⟩) (by assumption) ?_
                  rotate_left
                  · (intro w hSw; go_simp; first | done | (with_reducible rfl))
                  simp only [Act.put, List.getElem_toArray, List.getElem_cons_zero, List.setIfInBounds_toArray, List.set_cons_zero, List.set_cons_succ]
                  refine wpAnyX_take (i := 1) (oi := _) (v := ?_) rfl (by kernel_rfl) (by kernel_rfl) (by kernel_rfl) (by kernel_rfl) (by kernel_rfl) (fun _ _ _ h => h) (Or.inl ⟨by rfl, ?_⟩) (by assumption) ?_
                  rotate_left
                  · (intro w hSw; go_simp; first | done | (with_reducible rfl))
                  simp only [Act.put, List.getElem_toArray, List.getElem_cons_succ, List.getElem_cons_zero, List.setIfInBounds_toArray, List.set_cons_zero, List.set_cons_succ]
                  refine wpAnyX_take (i := 2) (oi := _) (v := .agg #[iv s.x, iv s.y]) rfl (by kernel_rfl) (by kernel_rfl) (by kernel_rfl) (by kernel_rfl) (by kernel_rfl) (fun _ _ _ h => h) (Or.inl ⟨by rfl, ?_⟩) (by assumption) ?_
                  · (intro w hSw; have q0 := hSw.cellv 2 _ rfl; have q1 := hSw.cellv 3 _ rfl; go_simp; first | done | rfl | (simp; done) | trace_state)
                  simp only [Act.put, List.getElem_toArray, List.getElem_cons_succ, List.getElem_cons_zero, List.setIfInBounds_toArray, List.set_cons_zero, List.set_cons_succ]
                  refine wpAnyX_take (i := 3) (oi := _) (v := ?_) rfl (by kernel_rfl) (by kernel_rfl) (by kernel_rfl) (by kernel_rfl) (by kernel_rfl) (fun _ _ _ h => h) (Or.inl ⟨by rfl, ?_⟩) (by assumption) ?_
                  rotate_left
                  · (intro w hSw; go_simp; first | done | (with_reducible rfl))
                  simp only [Act.put, List.getElem_toArray, List.getElem_cons_succ, List.getElem_cons_zero, List.setIfInBounds_toArray, List.set_cons_zero, List.set_cons_succ]
                  refine wpAnyX_take (i := 4) (oi := _) (v := iv s.r) rfl (by kernel_rfl) (by kernel_rfl) (by kernel_rfl) (by kernel_rfl) (by kernel_rfl) (fun _ _ _ h => h) (Or.inl ⟨by rfl, ?_⟩) (by assumption) ?_
                  · (intro w hSw; have q0 := hSw.cellv 4 _ rfl; go_simp; first | done | rfl | (simp; done) | trace_state)
                  simp only [Act.put, List.getElem_toArray, List.getElem_cons_succ, List.getElem_cons_zero, List.setIfInBounds_toArray, List.set_cons_zero, List.set_cons_succ]
                  refine wpAnyX_take (i := 5) (oi := _) (v := ?_) rfl (by kernel_rfl) (by kernel_rfl) (by kernel_rfl) (by kernel_rfl) (by kernel_rfl) (fun _ _ _ h => h) (Or.inl ⟨by rfl, ?_⟩) (by assumption) ?_
                  rotate_left
                  · (intro w hSw; go_simp; first | done | (with_reducible rfl))
                  simp only [Act.put, List.getElem_toArray, List.getElem_cons_succ, List.getElem_cons_zero, List.setIfInBounds_toArray, List.set_cons_zero, List.set_cons_succ]
                  refine wpAnyX_take (i := 6) (oi := _) (v := iv s.n) rfl (by kernel_rfl) (by kernel_rfl) (by kernel_rfl) (by kernel_rfl) (by kernel_rfl) (fun _ _ _ h => h) (Or.inl ⟨by rfl, ?_⟩) (by assumption) ?_
                  · (intro w hSw; have q0 := hSw.cellv 5 _ rfl; go_simp; first | done | rfl | (simp; done) | trace_state)
                  simp only [Act.put, List.getElem_toArray, List.getElem_cons_succ, List.getElem_cons_zero, List.setIfInBounds_toArray, List.set_cons_zero, List.set_cons_succ]
                  refine wpAnyX_take (i := 8) (oi := _) (v := ?_) rfl (by kernel_rfl) (by kernel_rfl) (by kernel_rfl) (by kernel_rfl) (by kernel_rfl) (fun _ _ _ h => h) (Or.inl ⟨by rfl, ?_⟩) (by assumption) ?_
                  rotate_left
                  · (intro w hSw; go_simp; first | done | (with_reducible rfl))
                  simp only [Act.put, List.getElem_toArray, List.getElem_cons_succ, List.getElem_cons_zero, List.setIfInBounds_toArray, List.set_cons_zero, List.set_cons_succ]
                  refine wpAnyX_take (i := 9) (oi := _) (v := ?_) rfl (by kernel_rfl) (by kernel_rfl) (by kernel_rfl) (by kernel_rfl) (by kernel_rfl) (fun _ _ _ h => h) (Or.inl ⟨by rfl, ?_⟩) (by assumption) ?_
                  rotate_left
                  · (intro w hSw; go_simp; first | done | (with_reducible rfl))
                  simp only [Act.put, List.getElem_toArray, List.getElem_cons_succ, List.getElem_cons_zero, List.setIfInBounds_toArray, List.set_cons_zero, List.set_cons_succ]
                  refine wpAnyX_take (i := 10) (oi := _) (v := .agg #[iv s.x, iv s.y]) rfl (by kernel_rfl) (by kernel_rfl) (by kernel_rfl) (by kernel_rfl) (by kernel_rfl) (fun _ _ _ h => h) (Or.inl ⟨by rfl, ?_⟩) (by assumption) ?_
                  · (intro w hSw; have q0 := hSw.cellv 2 _ rfl; have q1 := hSw.cellv 3 _ rfl; go_simp; first | done | rfl | (simp; done) | trace_state)
                  simp only [Act.put, List.getElem_toArray, List.getElem_cons_succ, List.getElem_cons_zero, List.setIfInBounds_toArray, List.set_cons_zero, List.set_cons_succ]
                  refine wpAnyX_take (i := 11) (oi := _) (v := ?_) rfl (by kernel_rfl) (by kernel_rfl) (by kernel_rfl) (by kernel_rfl) (by kernel_rfl) (fun _ _ _ h => h) (Or.inl ⟨by rfl, ?_⟩) (by assumption) ?_
                  rotate_left
                  · (intro w hSw; go_simp; first | done | (with_reducible rfl))
                  simp only [Act.put, List.getElem_toArray, List.getElem_cons_succ, List.getElem_cons_zero, List.setIfInBounds_toArray, List.set_cons_zero, List.set_cons_succ]
                  refine wpAnyX_take (i := 12) (oi := _) (v := iv s.r) rfl (by kernel_rfl) (by kernel_rfl) (by kernel_rfl) (by kernel_rfl) (by kernel_rfl) (fun _ _ _ h => h) (Or.inl ⟨by rfl, ?_⟩) (by assumption) ?_
                  · (intro w hSw; have q0 := hSw.cellv 4 _ rfl; go_simp; first | done | rfl | (simp; done) | trace_state)
                  simp only [Act.put, List.getElem_toArray, List.getElem_cons_succ, List.getElem_cons_zero, List.setIfInBounds_toArray, List.set_cons_zero, List.set_cons_succ]
                  refine wpAnyX_take (i := 13) (oi := _) (v := ?_) rfl (by kernel_rfl) (by kernel_rfl) (by kernel_rfl) (by kernel_rfl) (by kernel_rfl) (fun _ _ _ h => h) (Or.inl ⟨by rfl, ?_⟩) (by assumption) ?_
                  rotate_left
                  · (intro w hSw; go_simp; first | done | (with_reducible rfl))
                  simp only [Act.put, List.getElem_toArray, List.getElem_cons_succ, List.getElem_cons_zero, List.setIfInBounds_toArray, List.set_cons_zero, List.set_cons_succ]
                  refine wpAnyX_take (i := 14) (oi := _) (v := iv s.n) rfl (by kernel_rfl) (by kernel_rfl) (by kernel_rfl) (by kernel_rfl) (by kernel_rfl) (fun _ _ _ h => h) (Or.inl ⟨by rfl, ?_⟩) (by assumption) ?_
                  · (intro w hSw; have q0 := hSw.cellv 5 _ rfl; go_simp; first | done | rfl | (simp; done) | trace_state)
                  simp only [Act.put, List.getElem_toArray, List.getElem_cons_succ, List.getElem_cons_zero, List.setIfInBounds_toArray, List.set_cons_zero, List.set_cons_succ]
                  refine wpAnyX_one (i := 7) (by kernel_rfl) rfl (fun K hK => ?_)
                  go_simp
                  refine (nearest_c W _ _ gb sd M s.x s.y s.r s.n HO.out.2.2.1 HO.out.2.2.2.1 (by have := HML.out; omega) HB.out.swap).mono ?_
                  rintro e wg ⟨v1, rfl, S1⟩
                  refine hK.out _ _ (S1.boxGet k2m) (fun hHeld => ?_)
                  replace HB : Keep (Sep W wg (rgA rb M :: nums v1 (nstL M s.x s.y s.r s.n) :: gridA gb sd M :: [boxA ob [iv s.op, iv s.id, iv s.x, iv s.y, iv s.r, iv s.n] 34])) := ⟨fr1 [_, _, _] S1⟩
                  clear hK K S1
                  refine wpAnyX_one (i := 15) (by kernel_rfl) rfl (fun K hK => ?_)
                  go_simp
                  refine (rnearest_c W _ _ rb M s.x s.y s.r s.n HO.out.2.2.1 HO.out.2.2.2.1 HSR.out.1 HSR.out.2 (by have := HML.out; omega) HB.out).mono ?_
                  rintro e wh ⟨v2, rfl, S1⟩
                  refine hK.out _ _ (S1.boxGet k4m) (fun hHeld => ?_)
                  replace HB : Keep (Sep W wh (nums v2 (nstL M s.x s.y s.r s.n) :: rgA rb M :: nums v1 (nstL M s.x s.y s.r s.n) :: gridA gb sd M :: [boxA ob [iv s.op, iv s.id, iv s.x, iv s.y, iv s.r, iv s.n] 34])) := ⟨S1⟩
                  clear hK K S1
                  refine wpAnyX_one (i := 16) (by kernel_rfl) rfl (fun K hK => ?_)
                  go_simp
                  refine (ints_c W _ _ v1 v2 (nstL M s.x s.y s.r s.n) (by have := nstL_len M s.x s.y s.r s.n; have := HML.out; omega) HB.out k2m k0m).mono ?_
                  rintro e wi ⟨rfl, g1⟩
                  replace HB := Keep.mk (HB.out.grown g1)
                  refine hK.out _ _ (HB.out.boxGet k4m) (fun hHeld => ?_)
                  clear hK K g1
                  refine wpAnyX_take (i := 17) (oi := _) (v := ?_) rfl (by kernel_rfl) (by kernel_rfl) (by kernel_rfl) (by kernel_rfl) (by kernel_rfl) (fun _ _ _ h => h) (Or.inl ⟨by rfl, ?_⟩) (by assumption) ?_
                  rotate_left
                  · (intro w hSw; go_simp; first | done | (with_reducible rfl))
                  simp only [Act.put, List.getElem_toArray, List.getElem_cons_succ, List.getElem_cons_zero, List.setIfInBounds_toArray, List.set_cons_zero, List.set_cons_succ]
                  refine wpAnyX_done (by kernel_rfl) ?_ _
                  have HS : Keep (Sep W wi (boxA ob [iv s.op, iv s.id, iv s.x, iv s.y, iv s.r, iv s.n] 34 :: gridA gb sd M :: [rgA rb M])) := ⟨HB.out.tail.swap.tail.third.perm ((List.Perm.swap _ _ _).cons _)⟩
                  clear HB hHeld
                  have HL1 := Keep.mk (len_c W wi _ gb sd (M) HS.out.tail)
                  have HL2 := Keep.mk (rlen_c W wi _ rb (M) HS.out.tail.tail)
                  go_wp2_with fail
                  refine HL1.out.mono ?_
                  rintro e w1 ⟨rfl, hw⟩
                  rw [hw]
                  clear hw w1 HL1
                  go_wp2_with fail
                  refine HL2.out.mono ?_
                  rintro e w1 ⟨rfl, hw⟩
                  rw [hw]
                  clear hw w1 HL2
                  go_wp2_with fail
                  go_roundw
                  case rel => exact ⟨i + 1, M, by omega, by omega, rfl, ⟨HS.out.tail⟩, ⟨by have q1 := HM.out; have q2 := HLE.out; omega⟩⟩
                  case measure => simp [intOf]; omega
                · have d1 : (s.op == 1) = false := by simp; omega
                  have d2' : (s.op == 2) = false := by simp; omega
                  have d3 : (s.op == 3) = false := by simp; omega
                  have d4 : (s.op == 4) = false := by simp; omega
                  have d5 : (s.op == 5) = false := by simp; omega
                  clear hop2 hop3 hop4 hop5
                  have HLE : Keep ((M).length ≤ M.length + 1) := ⟨by omega⟩
                  go_wp2_with (first
                    | (show wpList _ _ _ ({ dst := some 53, op := Op.load 34 _, type := _, pos := _, after := _, guard := _ } :: _) _ _
                       refine wpList_load_mid rfl 34 _ rfl _ _ rfl _ _ RN.out hdu hdr info34 ?_)
                    | fail)
                  have HL1 := Keep.mk (len_c W W1 _ gb sd (M) HS.out.tail)
                  have HL2 := Keep.mk (rlen_c W W1 _ rb (M) HS.out.tail.tail)
                  go_wp2_with fail
                  refine HL1.out.mono ?_
                  rintro e w1 ⟨rfl, hw⟩
                  rw [hw]
                  clear hw w1 HL1
                  go_wp2_with fail
                  refine HL2.out.mono ?_
                  rintro e w1 ⟨rfl, hw⟩
                  rw [hw]
                  clear hw w1 HL2
                  go_wp2_with fail
                  go_roundw
                  case rel => exact ⟨i + 1, M, by omega, by omega, rfl, ⟨HS.out.tail⟩, ⟨by have q1 := HM.out; have q2 := HLE.out; omega⟩⟩
                  case measure => simp [intOf]; omega
      · have hi4 : ¬ (i : Int) < 300 := by omega
        have HF := Keep.mk HB.out.g
        go_wp2_with fail
        go_ret
        exact ⟨rfl, HF.out⟩
    · have hi0 : ¬ (i : Int) < (n : Int) := by omega
      have HF := Keep.mk HB.out.g
      go_wp2_with fail
      go_ret
      exact ⟨rfl, HF.out⟩
end Go.Proofs.Ytidpafmhmhojmaa
