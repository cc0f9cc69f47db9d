/- GridKeeps. -/
import Derived.Test.YtidpafmhmhojmaaM3
import Derived.Deep.DeepCutAuto
namespace Go.Proofs.Ytidpafmhmhojmaa
open Go Go.RowKit Go.Maps

set_option maxRecDepth 100000 in
set_option maxHeartbeats 64000000 in
theorem keeps_c (W : World) (za : Int) (v : Value) (L : List Stp) (h : SrO W v L) : Calls Try.prog 5 #[iv za, v] W fun e W' => e = .returned (.bool true) ∧ W.grownBy W' none := by
  have HH := Keep.mk h
  obtain ⟨a, cap, rfl, _⟩ := h.o
  obtain ⟨n, hn⟩ : ∃ n, L.length = n := ⟨_, rfl⟩
  rw [hn] at HH ⊢
  have hnb : n < 1000000000000000000 := by have := h.len; omega
  have HLN := Keep.mk hn
  clear h hn
  have HSA := Keep.mk (sdZ_ok za)
  have HCA := Keep.mk (fun w => side_c za w)
  generalize sdZ za = sa at *
  obtain ⟨du, hdu, hdr⟩ := under34
  go_enter Try.func5, Try.ntmps5
  go_wp2_with fail
  refine (fixed_c W).mono ?_
  rintro e W1 ⟨rfl, g1⟩
  have HS := Keep.mk (Sep.start g1)
  clear g1
  go_wp2_with fail
  refine (HCA.out _).mono ?_
  rintro e w1 ⟨rfl, hw⟩
  rw [hw]
  clear hw w1 HCA
  go_wp2_with fail
  refine (new_c W W1 _ sa HSA.out HS.out).mono ?_
  rintro e W2 ⟨gb, rfl, S2⟩
  replace HS : Keep (Sep W W2 (rowV 29 1 (.slice none 0 0) 0 [] :: rowV 29 1 (.slice none 0 0) 0 [] :: gridA gb sa [] :: rdsV [] 0)) := ⟨(S2.nilV 29 1).nilV 29 1⟩
  clear S2
  go_wp2_with fail
  go_loopw [7, 8, 9] (fun u7 u8 u9 wr => ∃ (i : Nat) (P : List Pk) (M : List Pl) (a7 a8 : Option Addr) (c7 c8 t : Nat), i ≤ n ∧ i ≤ 60 ∧ u9 = iv i ∧ u7 = .slice a7 t c7 ∧ u8 = .slice a8 t c8 ∧ Keep (P.length = t ∧ t = 4 * i ∧ M.length ≤ i ∧ ∀ p ∈ P, p.n ≤ 60) ∧ Keep (Sep W wr (rowV 29 1 (.slice a7 t c7) t (P.map Pk.va) :: rowV 29 1 (.slice a8 t c8) t (P.map Pk.vo) :: gridA gb sa M :: rdsV P 0))) (fun _ _ u9 _ => (n - intOf u9).toNat)
  case atStart => exact ⟨0, [], [], none, none, 0, 0, 0, by omega, by omega, rfl, rfl, rfl, ⟨rfl, rfl, by simp, nofun⟩, HS⟩
  case round =>
    clear HS
    obtain ⟨i, P, M, a7, a8, c7, c8, t, hi, hi3, rfl, rfl, rfl, HP, HB⟩ := hrel
    obtain ⟨bc, hbc⟩ : ∃ bc : Bool, decide (i < n ∧ i < 60) = bc := ⟨_, rfl⟩
    have HBC := Keep.mk hbc
    clear hbc
    go_upto_region 8 with fail
    go_cut [41] (fun sv wx => sv = .bool bc ∧ wx = wr)
    case first =>
      by_cases hlt : i < n
      · have hi0 : (i : Int) < (n : Int) := by omega
        by_cases h40 : i < 60
        · have hi4 : (i : Int) < 60 := by omega
          have HE : Keep (bc = true) := ⟨by rw [← HBC.out]; exact decide_eq_true ⟨hlt, h40⟩⟩
          go_wp2_with fail
          go_meet
          exact ⟨by rw [HE.out], rfl⟩
        · have hi4 : ¬ (i : Int) < 60 := by omega
          have HE : Keep (bc = false) := ⟨by rw [← HBC.out]; exact decide_eq_false (fun q => h40 q.2)⟩
          go_wp2_with fail
          go_meet
          exact ⟨by rw [HE.out], rfl⟩
      · have hi0 : ¬ (i : Int) < (n : Int) := by omega
        have HE : Keep (bc = false) := ⟨by rw [← HBC.out]; exact decide_eq_false (fun q => hlt q.1)⟩
        go_wp2_with fail
        go_meet
        exact ⟨by rw [HE.out], rfl⟩
    case rest =>
    rename World => wc
    obtain ⟨rfl, rfl⟩ := hcut
    cases bc
    case false =>
      have HI6 : Keep (i ≤ 60) := ⟨hi3⟩
      clear HBC hi
      go_wp2_with fail
      as_aux_lemma =>
        go_loopw [18] (fun u18 wz => ∃ q : Nat, q ≤ t ∧ u18 = iv q ∧ Keep (Sep W wz (rowV 29 1 (.slice a7 t c7) t (P.map Pk.va) :: rowV 29 1 (.slice a8 t c8) t (P.map Pk.vo) :: gridA gb sa M :: rdsV P 0))) (fun u18 _ => (t - intOf u18).toNat)
        case atStart => exact ⟨0, by omega, rfl, HB⟩
        case round =>
          clear HB
          obtain ⟨q, hq, rfl, HB⟩ := hrel
          rename World => wz
          by_cases hlt : q < t
          · obtain ⟨p, hp⟩ : ∃ p, P[q]? = some p := ⟨_, List.getElem?_eq_getElem (by rw [HP.out.1]; exact hlt)⟩
            obtain ⟨g7, rfl⟩ := row_block HB.out k0m (by omega)
            obtain ⟨g8, rfl⟩ := row_block HB.out k1m (by omega)
            have ca := (row_cell (k := q) (HB.out.rowGet k0m) (by omega) (by rw [List.getElem?_map, hp]; rfl)).1
            have cm := (row_cell (k := q) (HB.out.rowGet k1m) (by omega) (by rw [List.getElem?_map, hp]; rfl)).1
            obtain ⟨rl, rm⟩ := HB.out.pvGet (List.mem_cons_of_mem _ (List.mem_cons_of_mem _ (List.mem_cons_of_mem _ (rdsV_mem P 0 q p hp))))
            rw [Nat.zero_add] at rl rm
            have HPN : Keep (p.n ≤ 60) := ⟨HP.out.2.2.2 p (List.mem_of_getElem? hp)⟩
            obtain ⟨va, vo, pn⟩ := p
            simp only at rl rm ca cm HPN
            obtain ⟨al, cl, rfl, rl⟩ := rl
            obtain ⟨am, cm', rfl, rm⟩ := rm
            obtain ⟨m40, hm40⟩ : ∃ m, pn + 40 = m := ⟨_, rfl⟩
            rw [hm40] at rm cm
            obtain ⟨gm, rfl, _, rm⟩ := rm (by omega)
            obtain ⟨z, hz⟩ : ∃ z, -5000 - (q : Int) = z := ⟨_, rfl⟩
            have HZ : Keep (mkZ q = z) := ⟨hz⟩
            have HRL := Keep.mk rl
            have HRM := Keep.mk rm
            have HTT : Keep (t ≤ 240) := ⟨by have := HP.out.2.1; omega⟩
            have hwz : IntKind.i64.wrap (-5000 - (q : Int)) = z := by have := HTT.out; rw [IntKind.wrap_i64]; omega
            have hq0 : (0 : Int) ≤ (q : Int) := by omega
            have hq1 : (q : Int) < (t : Int) := by omega
            have htq : ((q : Nat) : Int).toNat = q := by omega
            have hqq : IntKind.i64.wrap ((q : Int) + 1) = ((q + 1 : Nat) : Int) := by have := HTT.out; rw [IntKind.wrap_i64]; omega
            have HQ : Keep (q < t) := ⟨hlt⟩
            have HM40 : Keep (pn + 40 = m40) := ⟨hm40⟩
            clear hlt hq hp rl rm hz hm40
            go_wp2_with fail
            go_loopw [19] (fun u19 wy => ∃ k : Nat, k ≤ m40 ∧ u19 = iv k ∧ wy = wz) (fun u19 _ => (m40 - intOf u19).toNat)
            case atStart => exact ⟨0, by omega, rfl, rfl⟩
            case round =>
              obtain ⟨k, hk, rfl, rfl⟩ := hrel
              by_cases hlt : k < m40
              · have hk0 : (0 : Int) ≤ (k : Int) := by omega
                have hk1 : (k : Int) < (m40 : Int) := by omega
                have htk : ((k : Nat) : Int).toNat = k := by omega
                have hwk : IntKind.i64.wrap ((k : Int) + 1) = ((k + 1 : Nat) : Int) := by have := HPN.out; have := HM40.out; rw [IntKind.wrap_i64]; omega
                have cm2 := HRM.out k hlt
                rw [HZ.out] at cm2
                have HK : Keep (k < m40) := ⟨hlt⟩
                clear hlt hk
                by_cases hkn : k < pn
                · obtain ⟨gl, rfl, _, rl⟩ := HRL.out (by omega)
                  have cl2 := rl k hkn
                  rw [HZ.out] at cl2
                  have hkn0 : (k : Int) < (pn : Int) := by omega
                  have hkn1 : decide ((k : Int) < (pn : Int)) = true := decide_eq_true hkn0
                  have hkn2 : decide (k < pn) = true := decide_eq_true hkn
                  clear rl
                  go_wp2_with fail
                  go_roundw
                  case rel => exact ⟨k + 1, HK.out, rfl, by first | rfl | trivial⟩
                  case measure => simp [intOf]; have := HK.out; omega
                · have hkn1 : decide ((k : Int) < (pn : Int)) = false := decide_eq_false (by omega)
                  have hkn2 : decide (k < pn) = false := decide_eq_false hkn
                  clear hkn
                  go_wp2_with fail
                  go_roundw
                  case rel => exact ⟨k + 1, HK.out, rfl, by first | rfl | trivial⟩
                  case measure => simp [intOf]; have := HK.out; omega
              · have hk1 : ¬ (k : Int) < (m40 : Int) := by omega
                go_wp2_with fail
                go_roundw
                case rel => exact ⟨q + 1, HQ.out, rfl, HB⟩
                case measure => simp [intOf]; have := HQ.out; omega
          · have hq1 : ¬ (q : Int) < (t : Int) := by omega
            have HG := Keep.mk HB.out.g
            clear HB
            go_wp2_with fail
            go_ret
            exact ⟨rfl, HG.out⟩

    case true =>
      obtain ⟨hlt, h40⟩ : i < n ∧ i < 60 := of_decide_eq_true HBC.out
      have hi0 : (i : Int) < (n : Int) := by omega
      obtain ⟨b0, o0, s, hab, hs, hok, hrg⟩ := HH.out.at HLN.out hlt
      have HO := Keep.mk hok
      have HRN := Keep.mk (hrg wc HB.out.g)
      have hii : IntKind.i64.wrap ((i : Int) + 1) = ((i + 1 : Nat) : Int) := by rw [IntKind.wrap_i64]; omega
      have HIN : Keep (i + 1 ≤ n) := ⟨hlt⟩
      have HI6 : Keep (i + 1 ≤ 60) := ⟨h40⟩
      clear hs hok hrg hlt h40 hi hi3 HBC
      subst hab
      have hst1 : Keep (∀ u ∈ [iv s.op, iv s.id, iv s.x, iv s.y, iv s.r, iv s.n], u.oneCell' = true) := ⟨stv_one s⟩
      go_wp2_with (first
        | (show wpList _ _ _ ({ dst := _, op := Op.load 34 _, type := _, pos := _, after := _, guard := _ } :: _) _ _
           refine wpList_load_mid rfl 34 _ rfl _ _ rfl _ _ HRN.out hdu hdr info34 ?_)
        | (show wpList _ _ _ ({ dst := _, op := Op.store 34 _ _, type := _, pos := _, after := _, guard := _ } :: _) _ _
           refine store_new wc [iv s.op, iv s.id, iv s.x, iv s.y, iv s.r, iv s.n] 34 rfl rfl rfl rfl rfl info34 hst1.out ?_))
      intro w6 hS6 g6
      obtain ⟨ob, hob⟩ : ∃ b, wc.heap.size = b := ⟨_, rfl⟩
      have S6 := hS6 _ _ HB.out
      rw [hob] at S6 ⊢
      have HS := Keep.mk S6
      have o0 := (S6.boxGet k0m).cellv 0 _ rfl
      have o1 := (S6.boxGet k0m).cellv 1 _ rfl
      have o2 := (S6.boxGet k0m).cellv 2 _ rfl
      have o3 := (S6.boxGet k0m).cellv 3 _ rfl
      clear hS6 g6 S6 HB HRN hob
      have HS' := Keep.mk (sok_rem HO.out)
      go_wp2_with fail
      refine (answers_c W w6 _ gb sa M ⟨Int.tmod s.op 3, s.id, s.x, s.y, 0, 0⟩ HS'.out (by have := HP.out.2.2.1; have := HI6.out; omega) (fr1 [_, _, _] HS.out)).mono ?_
      rintro e w7 ⟨va, rfl, S7⟩
      have HM2 : Keep ((ansM M ⟨Int.tmod s.op 3, s.id, s.x, s.y, 0, 0⟩).length ≤ i + 1) := ⟨by have := ansM_len M ⟨Int.tmod s.op 3, s.id, s.x, s.y, 0, 0⟩; have := HP.out.2.2.1; omega⟩
      replace S7 := S7.tail
      generalize ansM M ⟨Int.tmod s.op 3, s.id, s.x, s.y, 0, 0⟩ = M2 at S7 HM2
      have HB : Keep (Sep W w7 (gridA gb sa M2 :: boxA ob [iv s.op, iv s.id, iv s.x, iv s.y, iv s.r, iv s.n] 34 :: rowV 29 1 (.slice a7 t c7) t (P.map Pk.va) :: rowV 29 1 (.slice a8 t c8) t (P.map Pk.vo) :: rdsV P 0)) := ⟨S7⟩
      clear S7 HS o0 o1 o2 o3 HS'
      obtain ⟨K0, hK0⟩ : ∃ K, nrL M2 s.x s.y s.r = K := ⟨_, rfl⟩
      obtain ⟨K1, hK1⟩ : ∃ K, nstL M2 s.x s.y s.r s.n = K := ⟨_, rfl⟩
      obtain ⟨n0, hn0⟩ : ∃ n, K0.length = n := ⟨_, rfl⟩
      obtain ⟨n1, hn1⟩ : ∃ n, K1.length = n := ⟨_, rfl⟩
      have HL0 : Keep (n0 ≤ 60) := ⟨by have := nrL_le M2 s.x s.y s.r; rw [hK0, hn0] at this; have := HM2.out; have := HI6.out; omega⟩
      have HL1 : Keep (n1 ≤ 60) := ⟨by have := nstL_le M2 s.x s.y s.r s.n; rw [hK1, hn1] at this; have := HM2.out; have := HI6.out; omega⟩
      have HN0 : Keep (∀ w l, Sep W w (gridA gb sa M2 :: l) → Calls Try.prog 11 #[pt gb, vv s.x s.y, iv s.r] w fun e W' => ∃ a c, e = .returned (.slice a n0 c) ∧ Sep W W' (rowV 3 1 (.slice a n0 c) n0 (K0.map iv) :: gridA gb sa M2 :: l)) := ⟨fun w l hS => by
        refine (near_c W w l gb sa M2 s.x s.y s.r HO.out.2.2.1 HO.out.2.2.2.1 (by have := HM2.out; have := HI6.out; omega) hS).mono ?_
        rintro e w' ⟨v, rfl, S⟩
        rw [hK0] at S
        obtain ⟨a, c, rfl⟩ := own_slice (S.rowGet k0m)
        change Sep W w' (rowV 3 1 (.slice a K0.length c) K0.length (K0.map iv) :: gridA gb sa M2 :: l) at S
        rw [hn0] at S
        rw [hn0]
        exact ⟨a, c, rfl, S⟩⟩
      have HN1 : Keep (∀ w l, Sep W w (gridA gb sa M2 :: l) → Calls Try.prog 14 #[pt gb, vv s.x s.y, iv s.r, iv s.n] w fun e W' => ∃ a c, e = .returned (.slice a n1 c) ∧ Sep W W' (rowV 3 1 (.slice a n1 c) n1 (K1.map iv) :: gridA gb sa M2 :: l)) := ⟨fun w l hS => by
        refine (nearest_c W w l gb sa M2 s.x s.y s.r s.n HO.out.2.2.1 HO.out.2.2.2.1 (by have := HM2.out; have := HI6.out; omega) hS).mono ?_
        rintro e w' ⟨v, rfl, S⟩
        rw [hK1] at S
        obtain ⟨a, c, rfl⟩ := own_slice (S.rowGet k0m)
        change Sep W w' (rowV 3 1 (.slice a K1.length c) K1.length (K1.map iv) :: gridA gb sa M2 :: l) at S
        rw [hn1] at S
        rw [hn1]
        exact ⟨a, c, rfl, S⟩⟩
      have HK0 := Keep.mk hn0
      have HK1 := Keep.mk hn1
      clear hK0 hK1 hn0 hn1
      go_upto_region 12 with fail
      go_cut [11] (fun u11 wx => ∃ lb b0 d0 b1 d1 b2 d2 b3 d3, u11 = pt lb ∧ Keep (Sep W wx (rowV 3 1 (.slice b0 n0 d0) n0 (K0.map iv) :: rowV 3 1 (.slice b1 n1 d1) n1 (K1.map iv) :: rowV 3 1 (.slice b2 n0 d2) n0 (K0.map iv) :: rowV 3 1 (.slice b3 n1 d3) n1 (K1.map iv) :: rowV 29 1 (.slice a7 t c7) t (P.map Pk.va) :: boxA lb [.slice b0 n0 d0, .slice b1 n1 d1, .slice b2 n0 d2, .slice b3 n1 d3] 46 :: rowV 29 1 (.slice a8 t c8) t (P.map Pk.vo) :: gridA gb sa M2 :: rdsV P 0)))
      case first =>
        go_wp2_with fail
        replace HB := Keep.mk (HB.out.grown (gr_drew _ none))
        refine wp_region_held_drew (S := fun w' => Sep W w' [boxA ob [iv s.op, iv s.id, iv s.x, iv s.y, iv s.r, iv s.n] 34]) (by kernel_rfl) (HB.out.tail.only) (fun hHeld => ?_)
        obtain ⟨W0, hW0⟩ : ∃ W_, w7.drew = W_ := ⟨_, rfl⟩
        rw [hW0] at HB hHeld ⊢
        clear hW0
        refine wpAnyH_take (i := 0) (oi := _) (v := ?_) rfl (by kernel_rfl) (by kernel_rfl) (by kernel_rfl) (fun _ _ _ h => h) (Or.inl ⟨by rfl, ?_⟩) (by assumption) ?_
        rotate_left
        · (intro w hSw; go_simp; first | done | (with_reducible rfl))
        simp only [Act.put, List.getElem_toArray, List.getElem_cons_zero, List.setIfInBounds_toArray, List.set_cons_zero, List.set_cons_succ]
        refine wpAnyH_take (i := 1) (oi := _) (v := ?_) rfl (by kernel_rfl) (by kernel_rfl) (by kernel_rfl) (fun _ _ _ h => h) (Or.inl ⟨by rfl, ?_⟩) (by assumption) ?_
        rotate_left
        · (intro w hSw; go_simp; first | done | (with_reducible rfl))
        simp only [Act.put, List.getElem_toArray, List.getElem_cons_succ, List.getElem_cons_zero, List.setIfInBounds_toArray, List.set_cons_zero, List.set_cons_succ]
        refine wpAnyH_take (i := 2) (oi := _) (v := .agg #[iv s.x, iv s.y]) rfl (by kernel_rfl) (by kernel_rfl) (by kernel_rfl) (fun _ _ _ h => h) (Or.inl ⟨by rfl, ?_⟩) (by assumption) ?_
        · (intro w hSw; have q2 := (hSw.boxGet k0m).cellv 2 _ rfl; have q3 := (hSw.boxGet k0m).cellv 3 _ rfl; go_simp; first | done | rfl | (simp; done) | trace_state)
        simp only [Act.put, List.getElem_toArray, List.getElem_cons_succ, List.getElem_cons_zero, List.setIfInBounds_toArray, List.set_cons_zero, List.set_cons_succ]
        refine wpAnyH_take (i := 3) (oi := _) (v := ?_) rfl (by kernel_rfl) (by kernel_rfl) (by kernel_rfl) (fun _ _ _ h => h) (Or.inl ⟨by rfl, ?_⟩) (by assumption) ?_
        rotate_left
        · (intro w hSw; go_simp; first | done | (with_reducible rfl))
        simp only [Act.put, List.getElem_toArray, List.getElem_cons_succ, List.getElem_cons_zero, List.setIfInBounds_toArray, List.set_cons_zero, List.set_cons_succ]
        refine wpAnyH_take (i := 4) (oi := _) (v := ?_) rfl (by kernel_rfl) (by kernel_rfl) (by kernel_rfl) (fun _ _ _ h => h) (Or.inl ⟨by rfl, ?_⟩) (by assumption) ?_
        rotate_left
        · (intro w hSw; have q4 := (hSw.boxGet k0m).cellv 4 _ rfl; go_simp; first | done | (with_reducible rfl))
        simp only [Act.put, List.getElem_toArray, List.getElem_cons_succ, List.getElem_cons_zero, List.setIfInBounds_toArray, List.set_cons_zero, List.set_cons_succ]
        refine wpAnyH_take (i := 6) (oi := _) (v := ?_) rfl (by kernel_rfl) (by kernel_rfl) (by kernel_rfl) (fun _ _ _ h => h) (Or.inl ⟨by rfl, ?_⟩) (by assumption) ?_
        rotate_left
        · (intro w hSw; go_simp; first | done | (with_reducible rfl))
        simp only [Act.put, List.getElem_toArray, List.getElem_cons_succ, List.getElem_cons_zero, List.setIfInBounds_toArray, List.set_cons_zero, List.set_cons_succ]
        refine wpAnyH_take (i := 7) (oi := _) (v := ?_) rfl (by kernel_rfl) (by kernel_rfl) (by kernel_rfl) (fun _ _ _ h => h) (Or.inl ⟨by rfl, ?_⟩) (by assumption) ?_
        rotate_left
        · (intro w hSw; go_simp; first | done | (with_reducible rfl))
        simp only [Act.put, List.getElem_toArray, List.getElem_cons_succ, List.getElem_cons_zero, List.setIfInBounds_toArray, List.set_cons_zero, List.set_cons_succ]
        refine wpAnyH_take (i := 8) (oi := _) (v := .agg #[iv s.x, iv s.y]) rfl (by kernel_rfl) (by kernel_rfl) (by kernel_rfl) (fun _ _ _ h => h) (Or.inl ⟨by rfl, ?_⟩) (by assumption) ?_
        · (intro w hSw; have q2 := (hSw.boxGet k0m).cellv 2 _ rfl; have q3 := (hSw.boxGet k0m).cellv 3 _ rfl; go_simp; first | done | rfl | (simp; done) | trace_state)
        simp only [Act.put, List.getElem_toArray, List.getElem_cons_succ, List.getElem_cons_zero, List.setIfInBounds_toArray, List.set_cons_zero, List.set_cons_succ]
        refine wpAnyH_take (i := 9) (oi := _) (v := ?_) rfl (by kernel_rfl) (by kernel_rfl) (by kernel_rfl) (fun _ _ _ h => h) (Or.inl ⟨by rfl, ?_⟩) (by assumption) ?_
        rotate_left
        · (intro w hSw; go_simp; first | done | (with_reducible rfl))
        simp only [Act.put, List.getElem_toArray, List.getElem_cons_succ, List.getElem_cons_zero, List.setIfInBounds_toArray, List.set_cons_zero, List.set_cons_succ]
        refine wpAnyH_take (i := 10) (oi := _) (v := ?_) rfl (by kernel_rfl) (by kernel_rfl) (by kernel_rfl) (fun _ _ _ h => h) (Or.inl ⟨by rfl, ?_⟩) (by assumption) ?_
        rotate_left
        · (intro w hSw; have q4 := (hSw.boxGet k0m).cellv 4 _ rfl; go_simp; first | done | (with_reducible rfl))
        simp only [Act.put, List.getElem_toArray, List.getElem_cons_succ, List.getElem_cons_zero, List.setIfInBounds_toArray, List.set_cons_zero, List.set_cons_succ]
        refine wpAnyH_take (i := 11) (oi := _) (v := ?_) rfl (by kernel_rfl) (by kernel_rfl) (by kernel_rfl) (fun _ _ _ h => h) (Or.inl ⟨by rfl, ?_⟩) (by assumption) ?_
        rotate_left
        · (intro w hSw; go_simp; first | done | (with_reducible rfl))
        simp only [Act.put, List.getElem_toArray, List.getElem_cons_succ, List.getElem_cons_zero, List.setIfInBounds_toArray, List.set_cons_zero, List.set_cons_succ]
        refine wpAnyH_take (i := 12) (oi := _) (v := ?_) rfl (by kernel_rfl) (by kernel_rfl) (by kernel_rfl) (fun _ _ _ h => h) (Or.inl ⟨by rfl, ?_⟩) (by assumption) ?_
        rotate_left
        · (intro w hSw; have q5 := (hSw.boxGet k0m).cellv 5 _ rfl; go_simp; first | done | (with_reducible rfl))
        simp only [Act.put, List.getElem_toArray, List.getElem_cons_succ, List.getElem_cons_zero, List.setIfInBounds_toArray, List.set_cons_zero, List.set_cons_succ]
        refine wpAnyH_take (i := 14) (oi := _) (v := ?_) rfl (by kernel_rfl) (by kernel_rfl) (by kernel_rfl) (fun _ _ _ h => h) (Or.inl ⟨by rfl, ?_⟩) (by assumption) ?_
        rotate_left
        · (intro w hSw; go_simp; first | done | (with_reducible rfl))
        simp only [Act.put, List.getElem_toArray, List.getElem_cons_succ, List.getElem_cons_zero, List.setIfInBounds_toArray, List.set_cons_zero, List.set_cons_succ]
        refine wpAnyH_take (i := 15) (oi := _) (v := ?_) rfl (by kernel_rfl) (by kernel_rfl) (by kernel_rfl) (fun _ _ _ h => h) (Or.inl ⟨by rfl, ?_⟩) (by assumption) ?_
        rotate_left
        · (intro w hSw; go_simp; first | done | (with_reducible rfl))
        simp only [Act.put, List.getElem_toArray, List.getElem_cons_succ, List.getElem_cons_zero, List.setIfInBounds_toArray, List.set_cons_zero, List.set_cons_succ]
        refine wpAnyH_take (i := 16) (oi := _) (v := .agg #[iv s.x, iv s.y]) rfl (by kernel_rfl) (by kernel_rfl) (by kernel_rfl) (fun _ _ _ h => h) (Or.inl ⟨by rfl, ?_⟩) (by assumption) ?_
        · (intro w hSw; have q2 := (hSw.boxGet k0m).cellv 2 _ rfl; have q3 := (hSw.boxGet k0m).cellv 3 _ rfl; go_simp; first | done | rfl | (simp; done) | trace_state)
        simp only [Act.put, List.getElem_toArray, List.getElem_cons_succ, List.getElem_cons_zero, List.setIfInBounds_toArray, List.set_cons_zero, List.set_cons_succ]
        refine wpAnyH_take (i := 17) (oi := _) (v := ?_) rfl (by kernel_rfl) (by kernel_rfl) (by kernel_rfl) (fun _ _ _ h => h) (Or.inl ⟨by rfl, ?_⟩) (by assumption) ?_
        rotate_left
        · (intro w hSw; go_simp; first | done | (with_reducible rfl))
        simp only [Act.put, List.getElem_toArray, List.getElem_cons_succ, List.getElem_cons_zero, List.setIfInBounds_toArray, List.set_cons_zero, List.set_cons_succ]
        refine wpAnyH_take (i := 18) (oi := _) (v := ?_) rfl (by kernel_rfl) (by kernel_rfl) (by kernel_rfl) (fun _ _ _ h => h) (Or.inl ⟨by rfl, ?_⟩) (by assumption) ?_
        rotate_left
        · (intro w hSw; have q4 := (hSw.boxGet k0m).cellv 4 _ rfl; go_simp; first | done | (with_reducible rfl))
        simp only [Act.put, List.getElem_toArray, List.getElem_cons_succ, List.getElem_cons_zero, List.setIfInBounds_toArray, List.set_cons_zero, List.set_cons_succ]
        refine wpAnyH_take (i := 20) (oi := _) (v := ?_) rfl (by kernel_rfl) (by kernel_rfl) (by kernel_rfl) (fun _ _ _ h => h) (Or.inl ⟨by rfl, ?_⟩) (by assumption) ?_
        rotate_left
        · (intro w hSw; go_simp; first | done | (with_reducible rfl))
        simp only [Act.put, List.getElem_toArray, List.getElem_cons_succ, List.getElem_cons_zero, List.setIfInBounds_toArray, List.set_cons_zero, List.set_cons_succ]
        refine wpAnyH_take (i := 21) (oi := _) (v := ?_) rfl (by kernel_rfl) (by kernel_rfl) (by kernel_rfl) (fun _ _ _ h => h) (Or.inl ⟨by rfl, ?_⟩) (by assumption) ?_
        rotate_left
        · (intro w hSw; go_simp; first | done | (with_reducible rfl))
        simp only [Act.put, List.getElem_toArray, List.getElem_cons_succ, List.getElem_cons_zero, List.setIfInBounds_toArray, List.set_cons_zero, List.set_cons_succ]
        refine wpAnyH_take (i := 22) (oi := _) (v := .agg #[iv s.x, iv s.y]) rfl (by kernel_rfl) (by kernel_rfl) (by kernel_rfl) (fun _ _ _ h => h) (Or.inl ⟨by rfl, ?_⟩) (by assumption) ?_
        · (intro w hSw; have q2 := (hSw.boxGet k0m).cellv 2 _ rfl; have q3 := (hSw.boxGet k0m).cellv 3 _ rfl; go_simp; first | done | rfl | (simp; done) | trace_state)
        simp only [Act.put, List.getElem_toArray, List.getElem_cons_succ, List.getElem_cons_zero, List.setIfInBounds_toArray, List.set_cons_zero, List.set_cons_succ]
        refine wpAnyH_take (i := 23) (oi := _) (v := ?_) rfl (by kernel_rfl) (by kernel_rfl) (by kernel_rfl) (fun _ _ _ h => h) (Or.inl ⟨by rfl, ?_⟩) (by assumption) ?_
        rotate_left
        · (intro w hSw; go_simp; first | done | (with_reducible rfl))
        simp only [Act.put, List.getElem_toArray, List.getElem_cons_succ, List.getElem_cons_zero, List.setIfInBounds_toArray, List.set_cons_zero, List.set_cons_succ]
        refine wpAnyH_take (i := 24) (oi := _) (v := ?_) rfl (by kernel_rfl) (by kernel_rfl) (by kernel_rfl) (fun _ _ _ h => h) (Or.inl ⟨by rfl, ?_⟩) (by assumption) ?_
        rotate_left
        · (intro w hSw; have q4 := (hSw.boxGet k0m).cellv 4 _ rfl; go_simp; first | done | (with_reducible rfl))
        simp only [Act.put, List.getElem_toArray, List.getElem_cons_succ, List.getElem_cons_zero, List.setIfInBounds_toArray, List.set_cons_zero, List.set_cons_succ]
        refine wpAnyH_take (i := 25) (oi := _) (v := ?_) rfl (by kernel_rfl) (by kernel_rfl) (by kernel_rfl) (fun _ _ _ h => h) (Or.inl ⟨by rfl, ?_⟩) (by assumption) ?_
        rotate_left
        · (intro w hSw; go_simp; first | done | (with_reducible rfl))
        simp only [Act.put, List.getElem_toArray, List.getElem_cons_succ, List.getElem_cons_zero, List.setIfInBounds_toArray, List.set_cons_zero, List.set_cons_succ]
        refine wpAnyH_take (i := 26) (oi := _) (v := ?_) rfl (by kernel_rfl) (by kernel_rfl) (by kernel_rfl) (fun _ _ _ h => h) (Or.inl ⟨by rfl, ?_⟩) (by assumption) ?_
        rotate_left
        · (intro w hSw; have q5 := (hSw.boxGet k0m).cellv 5 _ rfl; go_simp; first | done | (with_reducible rfl))
        simp only [Act.put, List.getElem_toArray, List.getElem_cons_succ, List.getElem_cons_zero, List.setIfInBounds_toArray, List.set_cons_zero, List.set_cons_succ]
        refine wpAnyH_ready (rs := [5, 29]) (by kernel_rfl) (by simp) ?_
        refine AllReadyH.cons rfl (fun K hK => ?_) (AllReadyH.cons rfl (fun K hK => ?_) (AllReadyH.nil))
        · skip
          go_simp
          refine (HN0.out _ _ HB.out).mono ?_
          rintro e wg1 ⟨b0, d0, rfl, S_⟩
          replace HB := Keep.mk (bk1 [_, _] S_)
          refine hK.out _ _ HB.out.tail.only (fun hHeld => ?_)
          clear hK K S_
          refine wpAnyH_ready (rs := [13, 29]) (by kernel_rfl) (by simp) ?_
          refine AllReadyH.cons rfl (fun K hK => ?_) (AllReadyH.cons rfl (fun K hK => ?_) (AllReadyH.nil))
          · skip
            go_simp
            refine (HN1.out _ _ HB.out).mono ?_
            rintro e wg2 ⟨b1, d1, rfl, S_⟩
            replace HB := Keep.mk (bk1 [_, _] S_)
            refine hK.out _ _ HB.out.tail.only (fun hHeld => ?_)
            clear hK K S_
            refine wpAnyH_ready (rs := [19, 29]) (by kernel_rfl) (by simp) ?_
            refine AllReadyH.cons rfl (fun K hK => ?_) (AllReadyH.cons rfl (fun K hK => ?_) (AllReadyH.nil))
            · skip
              go_simp
              refine (HN0.out _ _ HB.out).mono ?_
              rintro e wg3 ⟨b2, d2, rfl, S_⟩
              replace HB := Keep.mk (bk1 [_, _] S_)
              refine hK.out _ _ HB.out.tail.only (fun hHeld => ?_)
              clear hK K S_
              refine wpAnyH_ready (rs := [27, 29]) (by kernel_rfl) (by simp) ?_
              refine AllReadyH.cons rfl (fun K hK => ?_) (AllReadyH.cons rfl (fun K hK => ?_) (AllReadyH.nil))
              · skip
                go_simp
                refine (HN1.out _ _ HB.out).mono ?_
                rintro e wg4 ⟨b3, d3, rfl, S_⟩
                replace HB := Keep.mk (bk1 [_, _] S_)
                refine hK.out _ _ HB.out.tail.only (fun hHeld => ?_)
                clear hK K S_
                refine wpAnyH_take (i := 28) (oi := _) (v := .agg #[.slice b0 n0 d0, .slice b1 n1 d1, .slice b2 n0 d2, .slice b3 n1 d3]) rfl (by kernel_rfl) (by kernel_rfl) (by kernel_rfl) (fun _ _ _ h => h) (yieldsIf_build (by rfl) 46 _ rfl _ ?_) (by assumption) ?_
                · refine (congrArg (Try.prog.built 46) ?_).trans (built46 b0 b1 b2 b3 n0 n1 n0 n1 d0 d1 d2 d3)
                  simp only [List.map_toArray, List.map_cons, List.map_nil]
                  rfl
                simp only [Act.put, List.getElem_toArray, List.getElem_cons_succ, List.getElem_cons_zero, List.setIfInBounds_toArray, List.set_cons_zero, List.set_cons_succ]
                refine wpAnyH_ready (rs := [29]) (by kernel_rfl) (by simp) ?_
                refine AllReadyH.cons rfl (fun K hK => ?_) AllReadyH.nil
                have S_ := HB.out.newBox #[.slice none 0 0, .slice none 0 0, .slice none 0 0, .slice none 0 0] 46
                obtain ⟨wa5, hwa5⟩ : ∃ W_, wg4.alloc (.cells #[.slice none 0 0, .slice none 0 0, .slice none 0 0, .slice none 0 0] 46) = W_ := ⟨_, rfl⟩
                obtain ⟨lb, hlb⟩ : ∃ b_, wg4.heap.size = b_ := ⟨_, rfl⟩
                rw [hwa5, hlb] at S_
                replace HB := Keep.mk (bk1 [_, _] S_)
                clear S_
                go_simp
                clear hwa5 hlb
                refine hK.out _ _ HB.out.tail.only (fun hHeld => ?_)
                clear hK K
                refine wpAnyH_ready (rs := [30]) (by kernel_rfl) (by simp) ?_
                refine AllReadyH.cons rfl (fun K hK => ?_) AllReadyH.nil
                replace HB := Keep.mk (fr1 [_, _] HB.out)
                rw [if_pos (show Region.wanted _ _ = true from rfl)]
                refine wp_store_mid 46 _ _ rfl lb 0 #[.slice b0 n0 d0, .slice b1 n1 d1, .slice b2 n0 d2, .slice b3 n1 d3] rfl rfl ((HB.out.boxGet k0m).there 0 4 (Nat.le_refl _)) info46 (all_oneCell_toArray (one46 b0 b1 b2 b3 n0 n1 n0 n1 d0 d1 d2 d3)) ?_
                have S_ := HB.out.boxTurn ((HB.out.boxGet k0m).setCells [.slice b0 n0 d0, .slice b1 n1 d1, .slice b2 n0 d2, .slice b3 n1 d3] 0) (gr_sets _ _ _ _)
                refine hK.out _ _ S_.tail.tail.only (fun hHeld => ?_)
                replace HB := Keep.mk S_
                clear hK K S_
                change Keep (Sep W (World.setCells wa5 lb 0 [.slice b0 n0 d0, .slice b1 n1 d1, .slice b2 n0 d2, .slice b3 n1 d3]) (boxA lb [.slice b0 n0 d0, .slice b1 n1 d1, .slice b2 n0 d2, .slice b3 n1 d3] 46 :: _)) at HB
                change Sep W (World.setCells wa5 lb 0 [.slice b0 n0 d0, .slice b1 n1 d1, .slice b2 n0 d2, .slice b3 n1 d3]) _ at hHeld
                show wpAnyH _ _ _ _ _ _ _ _ (World.setCells wa5 lb 0 [.slice b0 n0 d0, .slice b1 n1 d1, .slice b2 n0 d2, .slice b3 n1 d3])
                generalize World.setCells wa5 lb 0 [.slice b0 n0 d0, .slice b1 n1 d1, .slice b2 n0 d2, .slice b3 n1 d3] = ws6 at HB hHeld ⊢
                simp only [Act.put, List.getElem_toArray, List.getElem_cons_succ, List.getElem_cons_zero]
                refine wpAnyH_done (by kernel_rfl) ?_ _
                clear hHeld
                go_wp2_with fail
                go_meet
                exact ⟨lb, b0, d0, b1, d1, b2, d2, b3, d3, rfl, ⟨((fr1 [_, _, _, _, _, _, _, _] (fr1 [_, _, _, _, _, _, _, _] (fr1 [_, _, _, _, _, _, _] (fr1 [_, _, _, _, _, _] (fr1 [_, _, _, _, _] (fr1 [_, _, _, _, _, _, _, _] (fr1 [_, _] (fr1 [_, _, _, _, _, _, _, _] (fr1 [_] HB.out)))))))))).tail⟩⟩
              · skip
                have S_ := HB.out.newBox #[.slice none 0 0, .slice none 0 0, .slice none 0 0, .slice none 0 0] 46
                obtain ⟨wa7, hwa7⟩ : ∃ W_, wg3.alloc (.cells #[.slice none 0 0, .slice none 0 0, .slice none 0 0, .slice none 0 0] 46) = W_ := ⟨_, rfl⟩
                obtain ⟨lb, hlb⟩ : ∃ b_, wg3.heap.size = b_ := ⟨_, rfl⟩
                rw [hwa7, hlb] at S_
                replace HB := Keep.mk (bk1 [_, _] S_)
                clear S_
                go_simp
                clear hwa7 hlb
                refine hK.out _ _ HB.out.tail.only (fun hHeld => ?_)
                clear hK K
                refine wpAnyH_ready (rs := [27]) (by kernel_rfl) (by simp) ?_
                refine AllReadyH.cons rfl (fun K hK => ?_) AllReadyH.nil
                go_simp
                refine (HN1.out _ _ HB.out).mono ?_
                rintro e wg8 ⟨b3, d3, rfl, S_⟩
                replace HB := Keep.mk (bk1 [_, _] S_)
                refine hK.out _ _ HB.out.tail.only (fun hHeld => ?_)
                clear hK K S_
                refine wpAnyH_take (i := 28) (oi := _) (v := .agg #[.slice b0 n0 d0, .slice b1 n1 d1, .slice b2 n0 d2, .slice b3 n1 d3]) rfl (by kernel_rfl) (by kernel_rfl) (by kernel_rfl) (fun _ _ _ h => h) (yieldsIf_build (by rfl) 46 _ rfl _ ?_) (by assumption) ?_
                · refine (congrArg (Try.prog.built 46) ?_).trans (built46 b0 b1 b2 b3 n0 n1 n0 n1 d0 d1 d2 d3)
                  simp only [List.map_toArray, List.map_cons, List.map_nil]
                  rfl
                simp only [Act.put, List.getElem_toArray, List.getElem_cons_succ, List.getElem_cons_zero, List.setIfInBounds_toArray, List.set_cons_zero, List.set_cons_succ]
                refine wpAnyH_ready (rs := [30]) (by kernel_rfl) (by simp) ?_
                refine AllReadyH.cons rfl (fun K hK => ?_) AllReadyH.nil
                replace HB := Keep.mk (fr1 [_, _, _] HB.out)
                rw [if_pos (show Region.wanted _ _ = true from rfl)]
                refine wp_store_mid 46 _ _ rfl lb 0 #[.slice b0 n0 d0, .slice b1 n1 d1, .slice b2 n0 d2, .slice b3 n1 d3] rfl rfl ((HB.out.boxGet k0m).there 0 4 (Nat.le_refl _)) info46 (all_oneCell_toArray (one46 b0 b1 b2 b3 n0 n1 n0 n1 d0 d1 d2 d3)) ?_
                have S_ := HB.out.boxTurn ((HB.out.boxGet k0m).setCells [.slice b0 n0 d0, .slice b1 n1 d1, .slice b2 n0 d2, .slice b3 n1 d3] 0) (gr_sets _ _ _ _)
                refine hK.out _ _ S_.tail.tail.only (fun hHeld => ?_)
                replace HB := Keep.mk S_
                clear hK K S_
                change Keep (Sep W (World.setCells wg8 lb 0 [.slice b0 n0 d0, .slice b1 n1 d1, .slice b2 n0 d2, .slice b3 n1 d3]) (boxA lb [.slice b0 n0 d0, .slice b1 n1 d1, .slice b2 n0 d2, .slice b3 n1 d3] 46 :: _)) at HB
                change Sep W (World.setCells wg8 lb 0 [.slice b0 n0 d0, .slice b1 n1 d1, .slice b2 n0 d2, .slice b3 n1 d3]) _ at hHeld
                show wpAnyH _ _ _ _ _ _ _ _ (World.setCells wg8 lb 0 [.slice b0 n0 d0, .slice b1 n1 d1, .slice b2 n0 d2, .slice b3 n1 d3])
                generalize World.setCells wg8 lb 0 [.slice b0 n0 d0, .slice b1 n1 d1, .slice b2 n0 d2, .slice b3 n1 d3] = ws9 at HB hHeld ⊢
                simp only [Act.put, List.getElem_toArray, List.getElem_cons_succ, List.getElem_cons_zero]
                refine wpAnyH_done (by kernel_rfl) ?_ _
                clear hHeld
                go_wp2_with fail
                go_meet
                exact ⟨lb, b0, d0, b1, d1, b2, d2, b3, d3, rfl, ⟨((fr1 [_, _, _, _, _, _, _, _] (fr1 [_, _, _, _, _, _, _, _] (fr1 [_, _, _, _, _, _, _] (fr1 [_, _, _, _, _, _] (fr1 [_, _, _, _, _] (fr1 [_, _, _, _, _, _, _, _] (fr1 [_, _] (fr1 [_, _, _, _, _, _, _, _] (fr1 [_] HB.out)))))))))).tail⟩⟩
            · skip
              have S_ := HB.out.newBox #[.slice none 0 0, .slice none 0 0, .slice none 0 0, .slice none 0 0] 46
              obtain ⟨wa10, hwa10⟩ : ∃ W_, wg2.alloc (.cells #[.slice none 0 0, .slice none 0 0, .slice none 0 0, .slice none 0 0] 46) = W_ := ⟨_, rfl⟩
              obtain ⟨lb, hlb⟩ : ∃ b_, wg2.heap.size = b_ := ⟨_, rfl⟩
              rw [hwa10, hlb] at S_
              replace HB := Keep.mk (bk1 [_, _] S_)
              clear S_
              go_simp
              clear hwa10 hlb
              refine hK.out _ _ HB.out.tail.only (fun hHeld => ?_)
              clear hK K
              refine wpAnyH_ready (rs := [19]) (by kernel_rfl) (by simp) ?_
              refine AllReadyH.cons rfl (fun K hK => ?_) AllReadyH.nil
              go_simp
              refine (HN0.out _ _ HB.out).mono ?_
              rintro e wg11 ⟨b2, d2, rfl, S_⟩
              replace HB := Keep.mk (bk1 [_, _] S_)
              refine hK.out _ _ HB.out.tail.only (fun hHeld => ?_)
              clear hK K S_
              refine wpAnyH_ready (rs := [27]) (by kernel_rfl) (by simp) ?_
              refine AllReadyH.cons rfl (fun K hK => ?_) AllReadyH.nil
              go_simp
              refine (HN1.out _ _ HB.out).mono ?_
              rintro e wg12 ⟨b3, d3, rfl, S_⟩
              replace HB := Keep.mk (bk1 [_, _] S_)
              refine hK.out _ _ HB.out.tail.only (fun hHeld => ?_)
              clear hK K S_
              refine wpAnyH_take (i := 28) (oi := _) (v := .agg #[.slice b0 n0 d0, .slice b1 n1 d1, .slice b2 n0 d2, .slice b3 n1 d3]) rfl (by kernel_rfl) (by kernel_rfl) (by kernel_rfl) (fun _ _ _ h => h) (yieldsIf_build (by rfl) 46 _ rfl _ ?_) (by assumption) ?_
              · refine (congrArg (Try.prog.built 46) ?_).trans (built46 b0 b1 b2 b3 n0 n1 n0 n1 d0 d1 d2 d3)
                simp only [List.map_toArray, List.map_cons, List.map_nil]
                rfl
              simp only [Act.put, List.getElem_toArray, List.getElem_cons_succ, List.getElem_cons_zero, List.setIfInBounds_toArray, List.set_cons_zero, List.set_cons_succ]
              refine wpAnyH_ready (rs := [30]) (by kernel_rfl) (by simp) ?_
              refine AllReadyH.cons rfl (fun K hK => ?_) AllReadyH.nil
              replace HB := Keep.mk (fr1 [_, _, _, _] HB.out)
              rw [if_pos (show Region.wanted _ _ = true from rfl)]
              refine wp_store_mid 46 _ _ rfl lb 0 #[.slice b0 n0 d0, .slice b1 n1 d1, .slice b2 n0 d2, .slice b3 n1 d3] rfl rfl ((HB.out.boxGet k0m).there 0 4 (Nat.le_refl _)) info46 (all_oneCell_toArray (one46 b0 b1 b2 b3 n0 n1 n0 n1 d0 d1 d2 d3)) ?_
              have S_ := HB.out.boxTurn ((HB.out.boxGet k0m).setCells [.slice b0 n0 d0, .slice b1 n1 d1, .slice b2 n0 d2, .slice b3 n1 d3] 0) (gr_sets _ _ _ _)
              refine hK.out _ _ S_.tail.tail.only (fun hHeld => ?_)
              replace HB := Keep.mk S_
              clear hK K S_
              change Keep (Sep W (World.setCells wg12 lb 0 [.slice b0 n0 d0, .slice b1 n1 d1, .slice b2 n0 d2, .slice b3 n1 d3]) (boxA lb [.slice b0 n0 d0, .slice b1 n1 d1, .slice b2 n0 d2, .slice b3 n1 d3] 46 :: _)) at HB
              change Sep W (World.setCells wg12 lb 0 [.slice b0 n0 d0, .slice b1 n1 d1, .slice b2 n0 d2, .slice b3 n1 d3]) _ at hHeld
              show wpAnyH _ _ _ _ _ _ _ _ (World.setCells wg12 lb 0 [.slice b0 n0 d0, .slice b1 n1 d1, .slice b2 n0 d2, .slice b3 n1 d3])
              generalize World.setCells wg12 lb 0 [.slice b0 n0 d0, .slice b1 n1 d1, .slice b2 n0 d2, .slice b3 n1 d3] = ws13 at HB hHeld ⊢
              simp only [Act.put, List.getElem_toArray, List.getElem_cons_succ, List.getElem_cons_zero]
              refine wpAnyH_done (by kernel_rfl) ?_ _
              clear hHeld
              go_wp2_with fail
              go_meet
              exact ⟨lb, b0, d0, b1, d1, b2, d2, b3, d3, rfl, ⟨((fr1 [_, _, _, _, _, _, _, _] (fr1 [_, _, _, _, _, _, _, _] (fr1 [_, _, _, _, _, _, _] (fr1 [_, _, _, _, _, _] (fr1 [_, _, _, _, _] (fr1 [_, _, _, _, _, _, _, _] (fr1 [_, _] (fr1 [_, _, _, _, _, _, _, _] (fr1 [_] HB.out)))))))))).tail⟩⟩
          · skip
            have S_ := HB.out.newBox #[.slice none 0 0, .slice none 0 0, .slice none 0 0, .slice none 0 0] 46
            obtain ⟨wa14, hwa14⟩ : ∃ W_, wg1.alloc (.cells #[.slice none 0 0, .slice none 0 0, .slice none 0 0, .slice none 0 0] 46) = W_ := ⟨_, rfl⟩
            obtain ⟨lb, hlb⟩ : ∃ b_, wg1.heap.size = b_ := ⟨_, rfl⟩
            rw [hwa14, hlb] at S_
            replace HB := Keep.mk (bk1 [_, _] S_)
            clear S_
            go_simp
            clear hwa14 hlb
            refine hK.out _ _ HB.out.tail.only (fun hHeld => ?_)
            clear hK K
            refine wpAnyH_ready (rs := [13]) (by kernel_rfl) (by simp) ?_
            refine AllReadyH.cons rfl (fun K hK => ?_) AllReadyH.nil
            go_simp
            refine (HN1.out _ _ HB.out).mono ?_
            rintro e wg15 ⟨b1, d1, rfl, S_⟩
            replace HB := Keep.mk (bk1 [_, _] S_)
            refine hK.out _ _ HB.out.tail.only (fun hHeld => ?_)
            clear hK K S_
            refine wpAnyH_ready (rs := [19]) (by kernel_rfl) (by simp) ?_
            refine AllReadyH.cons rfl (fun K hK => ?_) AllReadyH.nil
            go_simp
            refine (HN0.out _ _ HB.out).mono ?_
            rintro e wg16 ⟨b2, d2, rfl, S_⟩
            replace HB := Keep.mk (bk1 [_, _] S_)
            refine hK.out _ _ HB.out.tail.only (fun hHeld => ?_)
            clear hK K S_
            refine wpAnyH_ready (rs := [27]) (by kernel_rfl) (by simp) ?_
            refine AllReadyH.cons rfl (fun K hK => ?_) AllReadyH.nil
            go_simp
            refine (HN1.out _ _ HB.out).mono ?_
            rintro e wg17 ⟨b3, d3, rfl, S_⟩
            replace HB := Keep.mk (bk1 [_, _] S_)
            refine hK.out _ _ HB.out.tail.only (fun hHeld => ?_)
            clear hK K S_
            refine wpAnyH_take (i := 28) (oi := _) (v := .agg #[.slice b0 n0 d0, .slice b1 n1 d1, .slice b2 n0 d2, .slice b3 n1 d3]) rfl (by kernel_rfl) (by kernel_rfl) (by kernel_rfl) (fun _ _ _ h => h) (yieldsIf_build (by rfl) 46 _ rfl _ ?_) (by assumption) ?_
            · refine (congrArg (Try.prog.built 46) ?_).trans (built46 b0 b1 b2 b3 n0 n1 n0 n1 d0 d1 d2 d3)
              simp only [List.map_toArray, List.map_cons, List.map_nil]
              rfl
            simp only [Act.put, List.getElem_toArray, List.getElem_cons_succ, List.getElem_cons_zero, List.setIfInBounds_toArray, List.set_cons_zero, List.set_cons_succ]
            refine wpAnyH_ready (rs := [30]) (by kernel_rfl) (by simp) ?_
            refine AllReadyH.cons rfl (fun K hK => ?_) AllReadyH.nil
            replace HB := Keep.mk (fr1 [_, _, _, _, _] HB.out)
            rw [if_pos (show Region.wanted _ _ = true from rfl)]
            refine wp_store_mid 46 _ _ rfl lb 0 #[.slice b0 n0 d0, .slice b1 n1 d1, .slice b2 n0 d2, .slice b3 n1 d3] rfl rfl ((HB.out.boxGet k0m).there 0 4 (Nat.le_refl _)) info46 (all_oneCell_toArray (one46 b0 b1 b2 b3 n0 n1 n0 n1 d0 d1 d2 d3)) ?_
            have S_ := HB.out.boxTurn ((HB.out.boxGet k0m).setCells [.slice b0 n0 d0, .slice b1 n1 d1, .slice b2 n0 d2, .slice b3 n1 d3] 0) (gr_sets _ _ _ _)
            refine hK.out _ _ S_.tail.tail.only (fun hHeld => ?_)
            replace HB := Keep.mk S_
            clear hK K S_
            change Keep (Sep W (World.setCells wg17 lb 0 [.slice b0 n0 d0, .slice b1 n1 d1, .slice b2 n0 d2, .slice b3 n1 d3]) (boxA lb [.slice b0 n0 d0, .slice b1 n1 d1, .slice b2 n0 d2, .slice b3 n1 d3] 46 :: _)) at HB
            change Sep W (World.setCells wg17 lb 0 [.slice b0 n0 d0, .slice b1 n1 d1, .slice b2 n0 d2, .slice b3 n1 d3]) _ at hHeld
            show wpAnyH _ _ _ _ _ _ _ _ (World.setCells wg17 lb 0 [.slice b0 n0 d0, .slice b1 n1 d1, .slice b2 n0 d2, .slice b3 n1 d3])
            generalize World.setCells wg17 lb 0 [.slice b0 n0 d0, .slice b1 n1 d1, .slice b2 n0 d2, .slice b3 n1 d3] = ws18 at HB hHeld ⊢
            simp only [Act.put, List.getElem_toArray, List.getElem_cons_succ, List.getElem_cons_zero]
            refine wpAnyH_done (by kernel_rfl) ?_ _
            clear hHeld
            go_wp2_with fail
            go_meet
            exact ⟨lb, b0, d0, b1, d1, b2, d2, b3, d3, rfl, ⟨((fr1 [_, _, _, _, _, _, _, _] (fr1 [_, _, _, _, _, _, _, _] (fr1 [_, _, _, _, _, _, _] (fr1 [_, _, _, _, _, _] (fr1 [_, _, _, _, _] (fr1 [_, _, _, _, _, _, _, _] (fr1 [_, _] (fr1 [_, _, _, _, _, _, _, _] (fr1 [_] HB.out)))))))))).tail⟩⟩
        · skip
          have S_ := HB.out.newBox #[.slice none 0 0, .slice none 0 0, .slice none 0 0, .slice none 0 0] 46
          obtain ⟨wa19, hwa19⟩ : ∃ W_, W0.alloc (.cells #[.slice none 0 0, .slice none 0 0, .slice none 0 0, .slice none 0 0] 46) = W_ := ⟨_, rfl⟩
          obtain ⟨lb, hlb⟩ : ∃ b_, W0.heap.size = b_ := ⟨_, rfl⟩
          rw [hwa19, hlb] at S_
          replace HB := Keep.mk (bk1 [_, _] S_)
          clear S_
          go_simp
          clear hwa19 hlb
          refine hK.out _ _ HB.out.tail.only (fun hHeld => ?_)
          clear hK K
          refine wpAnyH_ready (rs := [5]) (by kernel_rfl) (by simp) ?_
          refine AllReadyH.cons rfl (fun K hK => ?_) AllReadyH.nil
          go_simp
          refine (HN0.out _ _ HB.out).mono ?_
          rintro e wg20 ⟨b0, d0, rfl, S_⟩
          replace HB := Keep.mk (bk1 [_, _] S_)
          refine hK.out _ _ HB.out.tail.only (fun hHeld => ?_)
          clear hK K S_
          refine wpAnyH_ready (rs := [13]) (by kernel_rfl) (by simp) ?_
          refine AllReadyH.cons rfl (fun K hK => ?_) AllReadyH.nil
          go_simp
          refine (HN1.out _ _ HB.out).mono ?_
          rintro e wg21 ⟨b1, d1, rfl, S_⟩
          replace HB := Keep.mk (bk1 [_, _] S_)
          refine hK.out _ _ HB.out.tail.only (fun hHeld => ?_)
          clear hK K S_
          refine wpAnyH_ready (rs := [19]) (by kernel_rfl) (by simp) ?_
          refine AllReadyH.cons rfl (fun K hK => ?_) AllReadyH.nil
          go_simp
          refine (HN0.out _ _ HB.out).mono ?_
          rintro e wg22 ⟨b2, d2, rfl, S_⟩
          replace HB := Keep.mk (bk1 [_, _] S_)
          refine hK.out _ _ HB.out.tail.only (fun hHeld => ?_)
          clear hK K S_
          refine wpAnyH_ready (rs := [27]) (by kernel_rfl) (by simp) ?_
          refine AllReadyH.cons rfl (fun K hK => ?_) AllReadyH.nil
          go_simp
          refine (HN1.out _ _ HB.out).mono ?_
          rintro e wg23 ⟨b3, d3, rfl, S_⟩
          replace HB := Keep.mk (bk1 [_, _] S_)
          refine hK.out _ _ HB.out.tail.only (fun hHeld => ?_)
          clear hK K S_
          refine wpAnyH_take (i := 28) (oi := _) (v := .agg #[.slice b0 n0 d0, .slice b1 n1 d1, .slice b2 n0 d2, .slice b3 n1 d3]) rfl (by kernel_rfl) (by kernel_rfl) (by kernel_rfl) (fun _ _ _ h => h) (yieldsIf_build (by rfl) 46 _ rfl _ ?_) (by assumption) ?_
          · refine (congrArg (Try.prog.built 46) ?_).trans (built46 b0 b1 b2 b3 n0 n1 n0 n1 d0 d1 d2 d3)
            simp only [List.map_toArray, List.map_cons, List.map_nil]
            rfl
          simp only [Act.put, List.getElem_toArray, List.getElem_cons_succ, List.getElem_cons_zero, List.setIfInBounds_toArray, List.set_cons_zero, List.set_cons_succ]
          refine wpAnyH_ready (rs := [30]) (by kernel_rfl) (by simp) ?_
          refine AllReadyH.cons rfl (fun K hK => ?_) AllReadyH.nil
          replace HB := Keep.mk (fr1 [_, _, _, _, _, _] HB.out)
          rw [if_pos (show Region.wanted _ _ = true from rfl)]
          refine wp_store_mid 46 _ _ rfl lb 0 #[.slice b0 n0 d0, .slice b1 n1 d1, .slice b2 n0 d2, .slice b3 n1 d3] rfl rfl ((HB.out.boxGet k0m).there 0 4 (Nat.le_refl _)) info46 (all_oneCell_toArray (one46 b0 b1 b2 b3 n0 n1 n0 n1 d0 d1 d2 d3)) ?_
          have S_ := HB.out.boxTurn ((HB.out.boxGet k0m).setCells [.slice b0 n0 d0, .slice b1 n1 d1, .slice b2 n0 d2, .slice b3 n1 d3] 0) (gr_sets _ _ _ _)
          refine hK.out _ _ S_.tail.tail.only (fun hHeld => ?_)
          replace HB := Keep.mk S_
          clear hK K S_
          change Keep (Sep W (World.setCells wg23 lb 0 [.slice b0 n0 d0, .slice b1 n1 d1, .slice b2 n0 d2, .slice b3 n1 d3]) (boxA lb [.slice b0 n0 d0, .slice b1 n1 d1, .slice b2 n0 d2, .slice b3 n1 d3] 46 :: _)) at HB
          change Sep W (World.setCells wg23 lb 0 [.slice b0 n0 d0, .slice b1 n1 d1, .slice b2 n0 d2, .slice b3 n1 d3]) _ at hHeld
          show wpAnyH _ _ _ _ _ _ _ _ (World.setCells wg23 lb 0 [.slice b0 n0 d0, .slice b1 n1 d1, .slice b2 n0 d2, .slice b3 n1 d3])
          generalize World.setCells wg23 lb 0 [.slice b0 n0 d0, .slice b1 n1 d1, .slice b2 n0 d2, .slice b3 n1 d3] = ws24 at HB hHeld ⊢
          simp only [Act.put, List.getElem_toArray, List.getElem_cons_succ, List.getElem_cons_zero]
          refine wpAnyH_done (by kernel_rfl) ?_ _
          clear hHeld
          go_wp2_with fail
          go_meet
          exact ⟨lb, b0, d0, b1, d1, b2, d2, b3, d3, rfl, ⟨((fr1 [_, _, _, _, _, _, _, _] (fr1 [_, _, _, _, _, _, _, _] (fr1 [_, _, _, _, _, _, _] (fr1 [_, _, _, _, _, _] (fr1 [_, _, _, _, _] (fr1 [_, _, _, _, _, _, _, _] (fr1 [_, _] (fr1 [_, _, _, _, _, _, _, _] (fr1 [_] HB.out)))))))))).tail⟩⟩

      case rest =>
      rename World => wd
      obtain ⟨lb, b0, d0, b1, d1, b2, d2, b3, d3, rfl, HB3⟩ := hcut
      clear HB HN0 HN1
      have f0 := (HB3.out.boxGet k5m).cellv 0 _ rfl
      have f2 := (HB3.out.boxGet k5m).cellv 2 _ rfl
      go_wp2_with fail
      refine (ints_n W wd _ _ _ K0 n0 HK0.out (by have := HL0.out; omega) HB3.out k0m k2m).mono ?_
      rintro e w8 ⟨rfl, g8⟩
      replace HB3 := Keep.mk (HB3.out.grown g8)
      clear g8 f0 f2
      have f1 := (HB3.out.boxGet k5m).cellv 1 _ rfl
      have f3 := (HB3.out.boxGet k5m).cellv 3 _ rfl
      go_wp2_with fail
      refine (ints_n W w8 _ _ _ K1 n1 HK1.out (by have := HL1.out; omega) HB3.out k1m k3m).mono ?_
      rintro e w9 ⟨rfl, g9⟩
      replace HB3 := Keep.mk (HB3.out.grown g9)
      clear g9 f1 f3
      obtain ⟨vs, hvs⟩ : ∃ vs : List Value, [.slice b0 n0 d0, .slice b1 n1 d1, .slice b2 n0 d2, .slice b3 n1 d3] = vs := ⟨_, rfl⟩
      have HVL : Keep (vs.length = 4) := ⟨by rw [← hvs]; rfl⟩
      obtain ⟨V0, hV0⟩ : ∃ V : List (Value × List Int), [(.slice b0 n0 d0, K0), (.slice b1 n1 d1, K1), (.slice b2 n0 d2, K0), (.slice b3 n1 d3, K1)] = V := ⟨_, rfl⟩
      have HB0 : Keep (Sep W w9 (V0.map nmA ++ (rowV 29 1 (.slice a7 t c7) t (P.map Pk.va ++ vs.take 0) :: boxA lb vs 46 :: rowV 29 1 (.slice a8 t c8) t (P.map Pk.vo) :: gridA gb sa M2 :: rdsV P 0))) := ⟨by
        rw [← hV0, ← hvs, List.take_zero, List.append_nil]
        show Sep W w9 (rowV 3 1 (.slice b0 n0 d0) K0.length (K0.map iv) :: rowV 3 1 (.slice b1 n1 d1) K1.length (K1.map iv) :: rowV 3 1 (.slice b2 n0 d2) K0.length (K0.map iv) :: rowV 3 1 (.slice b3 n1 d3) K1.length (K1.map iv) :: _)
        rw [HK0.out, HK1.out]
        exact HB3.out⟩
      have HV0 : Keep (t = t + 0 ∧ V0.map Prod.fst = vs ∧ ∀ (jj : Nat) (p : Value × List Int), V0[jj]? = some p → p.2.length ≤ 60 ∧ (∃ a c, p.1 = .slice a p.2.length c) ∧ (jj < 0 → p.2 = List.replicate p.2.length (mkZ (t + jj)))) := ⟨by
        refine ⟨rfl, by rw [← hV0, ← hvs]; rfl, fun j p hp => ⟨?_, ?_, fun h => by omega⟩⟩
        · rw [← hV0] at hp
          have := List.mem_of_getElem? hp
          simp only [List.mem_cons, List.not_mem_nil, or_false] at this
          have h0 := HL0.out; have h1 := HL1.out; have h2 := HK0.out; have h3 := HK1.out
          rcases this with rfl | rfl | rfl | rfl <;> simp only <;> omega
        · rw [← hV0] at hp
          have := List.mem_of_getElem? hp
          simp only [List.mem_cons, List.not_mem_nil, or_false] at this
          rcases this with rfl | rfl | rfl | rfl
          · exact ⟨b0, d0, by rw [HK0.out]⟩
          · exact ⟨b1, d1, by rw [HK1.out]⟩
          · exact ⟨b2, d2, by rw [HK0.out]⟩
          · exact ⟨b3, d3, by rw [HK1.out]⟩⟩
      clear hvs hV0 HB3 HK0 HK1
      go_wp2_with fail
      as_aux_lemma =>
        go_loopw [7, 13] (fun u7 u13 wz => ∃ (k : Nat) (V : List (Value × List Int)) (a7 : Option Addr) (c7 tk : Nat), k ≤ 4 ∧ u13 = iv k ∧ u7 = .slice a7 tk c7 ∧ Keep (tk = t + k ∧ V.map Prod.fst = vs ∧ ∀ (jj : Nat) (p : Value × List Int), V[jj]? = some p → p.2.length ≤ 60 ∧ (∃ a c, p.1 = .slice a p.2.length c) ∧ (jj < k → p.2 = List.replicate p.2.length (mkZ (t + jj)))) ∧ Keep (Sep W wz (V.map nmA ++ (rowV 29 1 (.slice a7 tk c7) tk (P.map Pk.va ++ vs.take k) :: boxA lb vs 46 :: rowV 29 1 (.slice a8 t c8) t (P.map Pk.vo) :: gridA gb sa M2 :: rdsV P 0)))) (fun _ u13 _ => (4 - intOf u13).toNat)
        case atStart => exact ⟨0, V0, a7, c7, t, by omega, rfl, rfl, HV0, HB0⟩
        case round =>
          clear HB0 HV0
          obtain ⟨k, V, a7, c7, tk, hk, rfl, rfl, HV, HB⟩ := hrel
          rename World => wz
          by_cases hlt : k < 4
          · have hk0 : (0 : Int) ≤ (k : Int) := by omega
            have hk1 : (k : Int) < 4 := by omega
            have hkk : IntKind.i64.wrap ((k : Int) + 1) = ((k + 1 : Nat) : Int) := by rw [IntKind.wrap_i64]; omega
            have htk : ((k : Nat) : Int).toNat = k := by omega
            have HVL2 : Keep (V.length = 4) := ⟨by have := congrArg List.length HV.out.2.1; rw [List.length_map, HVL.out] at this; exact this⟩
            obtain ⟨p, hp⟩ : ∃ p, V[k]? = some p := ⟨_, List.getElem?_eq_getElem (by rw [HVL2.out]; exact hlt)⟩
            obtain ⟨v, Lk⟩ := p
            obtain ⟨hl60, ⟨ak, ck, hv⟩, _⟩ := HV.out.2.2 k _ hp
            simp only at hl60 hv
            obtain ⟨nk, hnk⟩ : ∃ nk, Lk.length = nk := ⟨_, rfl⟩
            rw [hnk] at hl60 hv
            subst hv
            have HVK : Keep (vs[k]? = some (.slice ak nk ck)) := ⟨by rw [← HV.out.2.1, List.getElem?_map, hp]; rfl⟩
            have HPK := Keep.mk hp
            have HNK := Keep.mk hnk
            have HL6 := Keep.mk hl60
            have S1 := Sep.lsAt hp HB.out
            obtain ⟨E, hE⟩ : ∃ E, (V.eraseIdx k).map nmA = E := ⟨_, rfl⟩
            have HEE := Keep.mk hE
            rw [hE] at S1
            have HB1 : Keep (Sep W wz (rowV 3 1 (.slice ak nk ck) nk ((wrt Lk tk 0).map iv) :: (E ++ (rowV 29 1 (.slice a7 tk c7) tk (P.map Pk.va ++ vs.take k) :: boxA lb vs 46 :: rowV 29 1 (.slice a8 t c8) t (P.map Pk.vo) :: gridA gb sa M2 :: rdsV P 0)))) := ⟨by
              rw [wrt_zero]
              change Sep W wz (rowV 3 1 (.slice ak nk ck) Lk.length (Lk.map iv) :: _) at S1
              rw [hnk] at S1
              exact S1⟩
            have HKL : Keep (k < 4) := ⟨hlt⟩
            have HTK : Keep (tk ≤ 300) := ⟨by have := HV.out.1; have := HP.out.2.1; have := HI6.out; omega⟩
            obtain ⟨zt, hzt⟩ : ∃ z, -5000 - (tk : Int) = z := ⟨_, rfl⟩
            have HZT := Keep.mk hzt
            have hwt : IntKind.i64.wrap (-5000 - (tk : Int)) = zt := by have := HTK.out; rw [IntKind.wrap_i64]; omega
            clear hzt S1 HB hp hnk hE hl60 hlt hk
            have d0 := (HB1.out.boxGet (List.mem_cons_of_mem _ (List.mem_append_right _ k1m))).cellv k _ HVK.out
            go_wp2_with fail
            go_loopw [14] (fun u14 wy => ∃ j : Nat, j ≤ nk ∧ u14 = iv j ∧ Keep (Sep W wy (rowV 3 1 (.slice ak nk ck) nk ((wrt Lk tk j).map iv) :: (E ++ (rowV 29 1 (.slice a7 tk c7) tk (P.map Pk.va ++ vs.take k) :: boxA lb vs 46 :: rowV 29 1 (.slice a8 t c8) t (P.map Pk.vo) :: gridA gb sa M2 :: rdsV P 0))))) (fun u14 _ => (nk - intOf u14).toNat)
            case atStart => exact ⟨0, by omega, rfl, HB1⟩
            case round =>
              clear HB1 d0
              obtain ⟨j, hj, rfl, HB⟩ := hrel
              rename World => wy
              have d0 := (HB.out.boxGet (List.mem_cons_of_mem _ (List.mem_append_right _ k1m))).cellv k _ HVK.out
              by_cases hlt : j < nk
              · have hj0 : (0 : Int) ≤ (j : Int) := by omega
                have hj1 : (j : Int) < (nk : Int) := by omega
                have htj : ((j : Nat) : Int).toNat = j := by omega
                have hjj : IntKind.i64.wrap ((j : Int) + 1) = ((j + 1 : Nat) : Int) := by have := HL6.out; rw [IntKind.wrap_i64]; omega
                have HJ : Keep (j < nk) := ⟨hlt⟩
                obtain ⟨g, rfl⟩ := row_block HB.out k0m (by omega)
                obtain ⟨z, hz⟩ : ∃ z, ((wrt Lk tk j).map iv)[j]? = some z := ⟨_, List.getElem?_eq_getElem (by rw [List.length_map, wrt_len Lk tk j (by rw [HNK.out]; omega), HNK.out]; exact hlt)⟩
                obtain ⟨e1, e2⟩ := row_cell (HB.out.rowGet k0m) (by omega) hz
                have S4 := HB.out.rowSet j (iv zt)
                rw [← List.map_set, ← HZT.out, show (wrt Lk tk j).set j (-5000 - (tk : Int)) = wrt Lk tk (j + 1) from wrt_set Lk tk j (by rw [HNK.out]; exact hlt), HZT.out] at S4
                obtain ⟨W4, hW4⟩ : ∃ W4, wy.setCell ⟨g, j, none⟩ (iv zt) = W4 := ⟨_, rfl⟩
                rw [hW4] at S4
                have HS4 := Keep.mk S4
                clear S4 hz HB hlt hj
                go_wp2_with fail
                go_roundw
                case rel => exact ⟨j + 1, HJ.out, rfl, HS4⟩
                case measure => simp [intOf]; have := HJ.out; omega
              · have hj1 : ¬ (j : Int) < (nk : Int) := by omega
                obtain rfl : j = nk := by omega
                have HQ := HB.out
                rw [show wrt Lk tk j = List.replicate j (mkZ tk) by rw [← HNK.out, wrt_end]] at HQ
                obtain ⟨g9, c9, W9, ap, S9⟩ := Sep.appR ak j ck (fr1 (_ :: E) HQ) (by have := HTK.out; omega)
                obtain ⟨tk1, htk1⟩ : ∃ t1, tk + 1 = t1 := ⟨_, rfl⟩
                rw [htk1] at ap S9
                have AP := Keep.mk ap
                obtain ⟨wb, hwb⟩ : ∃ b, wy.heap.size = b := ⟨_, rfl⟩
                rw [hwb] at AP
                have S10 := bk1 (_ :: E) S9
                have HS10 : Keep (Sep W W9 ((V.set k (.slice ak j ck, List.replicate j (mkZ tk))).map nmA ++ (rowV 29 1 (sl g9 tk1 c9) tk1 (P.map Pk.va ++ vs.take (k + 1)) :: boxA lb vs 46 :: rowV 29 1 (.slice a8 t c8) t (P.map Pk.vo) :: gridA gb sa M2 :: rdsV P 0))) := ⟨by
                  refine Sep.lsPut (p := (.slice ak j ck, Lk)) HPK.out _ ?_
                  rw [HEE.out, show nums (.slice ak j ck) (List.replicate j (mkZ tk)) = rowV 3 1 (.slice ak j ck) j ((List.replicate j (mkZ tk)).map iv) by show rowV 3 1 _ (List.replicate j (mkZ tk)).length _ = _; rw [List.length_replicate], List.take_add_one, HVK.out, Option.toList_some, ← List.append_assoc]
                  exact S10⟩
                have HV9 : Keep (tk1 = t + (k + 1) ∧ (V.set k (.slice ak j ck, List.replicate j (mkZ tk))).map Prod.fst = vs ∧ ∀ (jj : Nat) (p : Value × List Int), (V.set k (.slice ak j ck, List.replicate j (mkZ tk)))[jj]? = some p → p.2.length ≤ 60 ∧ (∃ a c, p.1 = .slice a p.2.length c) ∧ (jj < (k + 1) → p.2 = List.replicate p.2.length (mkZ (t + jj)))) := ⟨by
                  obtain ⟨q1, q2, q3⟩ := HV.out
                  refine ⟨by omega, ?_, fun i p hp => ?_⟩
                  · rw [List.map_set, ← q2]
                    refine List.ext_getElem? (fun i => ?_)
                    rw [List.getElem?_set]
                    split
                    · rename_i e
                      subst e
                      rw [q2, HVK.out, if_pos (by rw [HVL.out]; exact HKL.out)]
                    · rfl
                  · rw [List.getElem?_set] at hp
                    split at hp
                    · rename_i e
                      subst e
                      rw [if_pos (by rw [HVL2.out]; exact HKL.out)] at hp
                      injection hp with hp
                      subst hp
                      have := HL6.out
                      exact ⟨by rw [List.length_replicate]; exact this, ⟨ak, ck, by rw [List.length_replicate]⟩, fun _ => by rw [List.length_replicate, q1]⟩
                    · rename_i e
                      obtain ⟨r1, r2, r3⟩ := q3 i p hp
                      exact ⟨r1, r2, fun hi => r3 (by omega)⟩⟩
                clear ap S9 S10 HQ HB hlt hj
                go_wp2_with (first
                  | (at_builtin; refine wpList_append_run _ rfl (.tmp 123) (.tmp 127) 45 rfl _ _ rfl rfl AP.out ?_))
                go_roundw
                case rel => exact ⟨k + 1, V.set k (.slice ak j ck, List.replicate j (mkZ tk)), some ⟨g9, 0, none⟩, c9, tk1, HKL.out, rfl, rfl, HV9, HS10⟩
                case measure => simp [intOf]; have := HKL.out; omega
          · have hk1 : ¬ (k : Int) < 4 := by omega
            obtain ⟨k4, hk4⟩ : ∃ k4, k = k4 := ⟨_, rfl⟩
            have HK4 : Keep (k = 4) := ⟨by omega⟩
            obtain ⟨t4, ht4⟩ : ∃ t4, tk = t4 := ⟨_, rfl⟩
            have HT4 : Keep (t4 = t + 4) := ⟨by rw [← ht4, HV.out.1, HK4.out]⟩
            have HB4 : Keep (Sep W wz ((V.drop 0).map nmA ++ (rowV 29 1 (.slice a8 t c8) t ((P ++ []).map Pk.vo) :: rowV 29 1 (.slice a7 t4 c7) t4 (P.map Pk.va ++ vs) :: gridA gb sa M2 :: rdsV (P ++ []) 0))) := ⟨by
              have q := HB.out
              rw [List.append_nil, List.drop_zero, ← ht4]
              rw [show vs.take k = vs by rw [HK4.out, ← HVL.out, List.take_length]] at q
              have e : V.map nmA ++ (rowV 29 1 (.slice a7 tk c7) tk (P.map Pk.va ++ vs) :: boxA lb vs 46 :: rowV 29 1 (.slice a8 t c8) t (P.map Pk.vo) :: gridA gb sa M2 :: rdsV P 0) = (V.map nmA ++ [rowV 29 1 (.slice a7 tk c7) tk (P.map Pk.va ++ vs)]) ++ ([boxA lb vs 46] ++ (rowV 29 1 (.slice a8 t c8) t (P.map Pk.vo) :: gridA gb sa M2 :: rdsV P 0)) := by simp
              rw [e] at q
              have q2 := Sep.dropM _ _ q
              rw [List.append_assoc] at q2
              exact q2.perm (List.Perm.append_left _ (List.Perm.swap _ _ _))⟩
            have HVR : Keep (V.length = 4 ∧ V.map Prod.fst = vs ∧ ∀ (j : Nat) (p : Value × List Int), V[j]? = some p → p.2.length ≤ 60 ∧ (∃ a c, p.1 = .slice a p.2.length c) ∧ p.2 = List.replicate p.2.length (mkZ (t + j))) := ⟨by
              obtain ⟨q1, q2, q3⟩ := HV.out
              have hl : V.length = 4 := by have := congrArg List.length q2; rw [List.length_map, HVL.out] at this; exact this
              refine ⟨hl, q2, fun j p hp => ?_⟩
              obtain ⟨r1, r2, r3⟩ := q3 j p hp
              have hj := (List.getElem?_eq_some_iff.1 hp).1
              exact ⟨r1, r2, r3 (by rw [HK4.out]; omega)⟩⟩
            rw [ht4]
            clear HV HB ht4 hk hlt hk1
            have hk1 : ¬ (k : Int) < 4 := by have := HK4.out; omega
            go_wp2_with fail
            as_aux_lemma =>
              go_loopw [8, 15] (fun u8 u15 wz => ∃ (q : Nat) (Q : List Pk) (a8 : Option Addr) (c8 tq : Nat), q ≤ 4 ∧ u15 = iv tq ∧ u8 = .slice a8 tq c8 ∧ Keep (tq = t + q ∧ Q.length = q ∧ Q.map Pk.va = vs.take q ∧ ∀ p ∈ Q, p.n ≤ 60) ∧ Keep (Sep W wz ((V.drop q).map nmA ++ (rowV 29 1 (.slice a8 tq c8) tq ((P ++ Q).map Pk.vo) :: rowV 29 1 (.slice a7 t4 c7) t4 (P.map Pk.va ++ vs) :: gridA gb sa M2 :: rdsV (P ++ Q) 0)))) (fun _ u15 _ => (t4 - intOf u15).toNat)
              case atStart => exact ⟨0, [], a8, c8, t, by omega, rfl, rfl, ⟨rfl, rfl, rfl, nofun⟩, HB4⟩
              case round =>
                clear HB4
                obtain ⟨q, Q, a8, c8, tq, hq, rfl, rfl, HQ, HB⟩ := hrel
                rename World => wz
                have HT3 : Keep (t4 ≤ 300) := ⟨by have := HT4.out; have := HP.out.2.1; have := HI6.out; omega⟩
                by_cases hlt : tq < t4
                · have hq1 : (tq : Int) < (t4 : Int) := by omega
                  have hq0 : (0 : Int) ≤ (tq : Int) := by omega
                  have htq : ((tq : Nat) : Int).toNat = tq := by omega
                  have hqq : IntKind.i64.wrap ((tq : Int) + 1) = ((tq + 1 : Nat) : Int) := by have := HT3.out; rw [IntKind.wrap_i64]; omega
                  have HQL : Keep (q < 4) := ⟨by have := HQ.out.1; have := HT4.out; omega⟩
                  obtain ⟨p, hp⟩ : ∃ p, V[q]? = some p := ⟨_, List.getElem?_eq_getElem (by rw [HVR.out.1]; exact HQL.out)⟩
                  obtain ⟨v, Lq⟩ := p
                  obtain ⟨hl60, ⟨aq, cq, hv⟩, hrep⟩ := HVR.out.2.2 q _ hp
                  simp only at hl60 hv hrep
                  obtain ⟨nq, hnq⟩ : ∃ nq, Lq.length = nq := ⟨_, rfl⟩
                  rw [hnq] at hl60 hv hrep
                  subst hv
                  have HVK : Keep (vs[q]? = some (.slice aq nq cq)) := ⟨by rw [← HVR.out.2.1, List.getElem?_map, hp]; rfl⟩
                  obtain ⟨g7, rfl⟩ := row_block HB.out (List.mem_append_right _ k1m) (by omega)
                  have HRP : Keep (Lq = List.replicate nq (mkZ tq)) := ⟨by rw [HQ.out.1]; exact hrep⟩
                  have d7 := (row_cell (k := tq) (HB.out.rowGet (List.mem_append_right _ k1m)) (by omega) (by rw [List.getElem?_append_right (by rw [List.length_map, HP.out.1, HQ.out.1]; omega), List.length_map, HP.out.1, HQ.out.1, Nat.add_sub_cancel_left]; exact HVK.out)).1
                  have S1 := HB.out
                  rw [List.drop_eq_getElem_cons (by rw [HVR.out.1]; exact HQL.out), show V[q]'(by rw [HVR.out.1]; exact HQL.out) = (.slice aq nq cq, Lq) from (List.getElem?_eq_some_iff.1 hp).2, List.map_cons, List.cons_append] at S1
                  obtain ⟨o, S2, ho1, ho2⟩ := Sep.lvStart S1
                  have ho1 : o = none → Lq = [] := ho1
                  have ho2 : ∀ g, o = some g → ∃ c, Value.slice aq nq cq = sl g Lq.length c := ho2
                  have HO : Keep ((o = none → nq = 0) ∧ ∀ g, o = some g → ∃ c, Value.slice aq nq cq = sl g nq c) := ⟨⟨fun e => by rw [← hnq, ho1 e]; rfl, fun g e => by obtain ⟨c, q⟩ := ho2 g e; rw [hnq] at q; exact ⟨c, q⟩⟩⟩
                  have HB5 : Keep (Sep W wz (lnV o (List.replicate nq (mkZ tq)) (.slice aq nq cq) (List.replicate (nq + 0) (mkZ tq)) :: ((V.drop (q + 1)).map nmA ++ (rowV 29 1 (.slice a8 tq c8) tq ((P ++ Q).map Pk.vo) :: rowV 29 1 (sl g7 t4 c7) t4 (P.map Pk.va ++ vs) :: gridA gb sa M2 :: rdsV (P ++ Q) 0)))) := ⟨by rw [HRP.out] at S2; exact S2⟩
                  have HL6 := Keep.mk hl60
                  obtain ⟨zt, hzt⟩ : ∃ z, -5000 - (tq : Int) = z := ⟨_, rfl⟩
                  have HZT : Keep (mkZ tq = zt) := ⟨hzt⟩
                  have hwt : IntKind.i64.wrap (-5000 - (tq : Int)) = zt := by have := HT3.out; rw [IntKind.wrap_i64]; omega
                  have HTL : Keep (tq < t4) := ⟨hlt⟩
                  clear hzt S1 S2 HB ho1 ho2 hnq hrep hp hl60 hlt hq
                  go_wp2_with fail
                  go_loopw [16, 17] (fun u16 u17 wy => ∃ (j m : Nat) (ax : Option Addr) (cx : Nat), j ≤ 40 ∧ u17 = iv j ∧ u16 = .slice ax m cx ∧ Keep (m = nq + j) ∧ Keep (Sep W wy (lnV o (List.replicate nq (mkZ tq)) (.slice ax m cx) (List.replicate (nq + j) (mkZ tq)) :: ((V.drop (q + 1)).map nmA ++ (rowV 29 1 (.slice a8 tq c8) tq ((P ++ Q).map Pk.vo) :: rowV 29 1 (sl g7 t4 c7) t4 (P.map Pk.va ++ vs) :: gridA gb sa M2 :: rdsV (P ++ Q) 0))))) (fun _ u17 _ => (40 - intOf u17).toNat)
                  case atStart => exact ⟨0, nq, aq, cq, by omega, rfl, rfl, ⟨rfl⟩, HB5⟩
                  case round =>
                    clear HB5 d7
                    obtain ⟨j, m, ax, cx, hj, rfl, rfl, HM, HB⟩ := hrel
                    rename World => wy
                    by_cases hlt : j < 40
                    · have hj1 : (j : Int) < 40 := by omega
                      have hjj : IntKind.i64.wrap ((j : Int) + 1) = ((j + 1 : Nat) : Int) := by rw [IntKind.wrap_i64]; omega
                      have HJ : Keep (j < 40) := ⟨hlt⟩
                      obtain ⟨g9, c9, W9, ap, S9⟩ := Sep.lvApp (mkZ tq) HB.out (by rw [List.length_replicate]; have := HL6.out; omega)
                      rw [List.length_replicate, ← HM.out] at ap S9
                      rw [HZT.out] at ap
                      obtain ⟨m1, hm1⟩ : ∃ m1, m + 1 = m1 := ⟨_, rfl⟩
                      rw [hm1] at ap S9
                      have AP := Keep.mk ap
                      obtain ⟨wb, hwb⟩ : ∃ b, wy.heap.size = b := ⟨_, rfl⟩
                      rw [hwb] at AP
                      have HS9 : Keep (Sep W W9 (lnV o (List.replicate nq (mkZ tq)) (sl g9 m1 c9) (List.replicate (nq + (j + 1)) (mkZ tq)) :: ((V.drop (q + 1)).map nmA ++ (rowV 29 1 (.slice a8 tq c8) tq ((P ++ Q).map Pk.vo) :: rowV 29 1 (sl g7 t4 c7) t4 (P.map Pk.va ++ vs) :: gridA gb sa M2 :: rdsV (P ++ Q) 0)))) := ⟨by
                        rw [show List.replicate m (mkZ tq) ++ [mkZ tq] = List.replicate (nq + (j + 1)) (mkZ tq) by rw [← List.replicate_succ', HM.out]; rfl] at S9
                        exact S9⟩
                      have HM1 : Keep (m1 = nq + (j + 1)) := ⟨by have := HM.out; omega⟩
                      clear ap S9 HB hm1 hlt hj
                      go_wp2_with (first
                        | (at_builtin; refine wpList_append_run _ rfl (.tmp 144) (.tmp 147) 29 rfl _ _ rfl rfl AP.out ?_))
                      go_roundw
                      case rel => exact ⟨j + 1, m1, some ⟨g9, 0, none⟩, c9, HJ.out, rfl, rfl, HM1, HS9⟩
                      case measure => simp [intOf]; have := HJ.out; omega
                    · have hj1 : ¬ (j : Int) < 40 := by omega
                      have hj40 : j = 40 := by omega
                      have S2 := HB.out
                      rw [hj40] at S2
                      have S3 := Sep.lvEnd (va := .slice aq nq cq) ⟨aq, cq, rfl⟩ HO.out.1 HO.out.2 S2
                      obtain ⟨g9, c9, W9, ap, S9⟩ := Sep.appR ax m cx (fr1 (_ :: (V.drop (q + 1)).map nmA) S3) (by have := HT3.out; have := HTL.out; omega)
                      obtain ⟨tq1, htq1⟩ : ∃ t1, tq + 1 = t1 := ⟨_, rfl⟩
                      rw [htq1] at ap S9
                      have AP := Keep.mk ap
                      obtain ⟨wb, hwb⟩ : ∃ b, wy.heap.size = b := ⟨_, rfl⟩
                      rw [hwb] at AP
                      have HS10 : Keep (Sep W W9 ((V.drop (q + 1)).map nmA ++ (rowV 29 1 (sl g9 tq1 c9) tq1 ((P ++ (Q ++ [(⟨.slice aq nq cq, .slice ax m cx, nq⟩ : Pk)])).map Pk.vo) :: rowV 29 1 (sl g7 t4 c7) t4 (P.map Pk.va ++ vs) :: gridA gb sa M2 :: rdsV (P ++ (Q ++ [(⟨.slice aq nq cq, .slice ax m cx, nq⟩ : Pk)])) 0))) := ⟨by
                        have e1 : (P ++ (Q ++ [(⟨.slice aq nq cq, .slice ax m cx, nq⟩ : Pk)])).map Pk.vo = (P ++ Q).map Pk.vo ++ [.slice ax m cx] := by simp
                        have e2 : rdsV (P ++ (Q ++ [(⟨.slice aq nq cq, .slice ax m cx, nq⟩ : Pk)])) 0 = rdsV (P ++ Q) 0 ++ [prV (.slice aq nq cq) (.slice ax m cx) nq tq] := by
                          rw [← List.append_assoc, rdsV_app, List.length_append, HP.out.1, HQ.out.2.1, Nat.zero_add, ← HQ.out.1]
                        rw [e1, e2]
                        exact Sep.pvLay (S := [gridA gb sa M2]) S9⟩
                      have HQ9 : Keep (tq1 = t + (q + 1) ∧ (Q ++ [(⟨.slice aq nq cq, .slice ax m cx, nq⟩ : Pk)]).length = q + 1 ∧ (Q ++ [(⟨.slice aq nq cq, .slice ax m cx, nq⟩ : Pk)]).map Pk.va = vs.take (q + 1) ∧ ∀ p ∈ Q ++ [(⟨.slice aq nq cq, .slice ax m cx, nq⟩ : Pk)], p.n ≤ 60) := ⟨by
                        obtain ⟨r1, r2, r3, r4⟩ := HQ.out
                        refine ⟨by omega, by rw [List.length_append, r2]; rfl, ?_, fun p hp => ?_⟩
                        · rw [List.map_append, r3, List.take_add_one, HVK.out]; rfl
                        · rcases List.mem_append.1 hp with hp | hp
                          · exact r4 p hp
                          · rw [List.mem_singleton] at hp; subst hp; exact HL6.out⟩
                      clear ap S9 S3 S2 HB hlt hj hj40
                      go_wp2_with (first
                        | (at_builtin; refine wpList_append_run _ rfl (.tmp 149) (.tmp 151) 45 rfl _ _ rfl rfl AP.out ?_))
                      go_roundw
                      case rel => exact ⟨q + 1, Q ++ [(⟨.slice aq nq cq, .slice ax m cx, nq⟩ : Pk)], some ⟨g9, 0, none⟩, c9, tq1, HQL.out, rfl, rfl, HQ9, HS10⟩
                      case measure => simp [intOf]; have := HTL.out; omega
                · have hq1 : ¬ (tq : Int) < (t4 : Int) := by omega
                  obtain ⟨q1, q2, q3, q4⟩ := HQ.out
                  have hq4 : q = 4 := by have := HT4.out; omega
                  have htq4 : tq = t4 := by have := HT4.out; omega
                  have HF : Keep (Sep W wz (rowV 29 1 (.slice a7 t4 c7) t4 ((P ++ Q).map Pk.va) :: rowV 29 1 (.slice a8 t4 c8) t4 ((P ++ Q).map Pk.vo) :: gridA gb sa M2 :: rdsV (P ++ Q) 0)) := ⟨by
                    have q := HB.out
                    rw [hq4, List.drop_eq_nil_of_le (by rw [HVR.out.1]; omega), List.map_nil, List.nil_append] at q
                    have q := q.swap
                    rw [show P.map Pk.va ++ vs = (P ++ Q).map Pk.va by rw [List.map_append, q3, hq4, ← HVL.out, List.take_length], htq4] at q
                    exact q⟩
                  have HP9 : Keep ((P ++ Q).length = t4 ∧ t4 = 4 * (i + 1) ∧ M2.length ≤ i + 1 ∧ ∀ p ∈ P ++ Q, p.n ≤ 60) := ⟨by
                    obtain ⟨r1, r2, r3, r4⟩ := HP.out
                    refine ⟨by rw [List.length_append, r1, q2, hq4, HT4.out], by have := HT4.out; omega, HM2.out, fun p hp => ?_⟩
                    rcases List.mem_append.1 hp with hp | hp
                    · exact r4 p hp
                    · exact q4 p hp⟩
                  rw [htq4]
                  rw [htq4] at hq1
                  clear HB hlt hq q1 q2 q3 q4 hq4
                  go_wp2_with fail
                  go_roundw
                  case rel => exact ⟨i + 1, P ++ Q, M2, a7, a8, c7, c8, t4, HIN.out, HI6.out, rfl, rfl, rfl, HP9, HF⟩
                  case measure => simp [intOf]; have := HIN.out; omega

end Go.Proofs.Ytidpafmhmhojmaa
