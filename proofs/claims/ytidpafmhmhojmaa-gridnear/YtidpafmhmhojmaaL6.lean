/- GridNear. -/
import Derived.Test.YtidpafmhmhojmaaP2
import Derived.Deep.DeepCutAuto
namespace Go.Proofs.Ytidpafmhmhojmaa
open Go Go.RowKit

theorem row_some {w0 W : World} {l : List As} {a : Option Addr} {n c : Nat} {L : List Int} (h : Sep w0 W l) (hm : rowV 3 1 (.slice a n c) n (L.map iv) ∈ l) (hn : 0 < n) : ∃ g, a = some ⟨g, 0, none⟩ := by
  obtain ⟨g, c', e, _⟩ := own_any (h.rowGet hm) hn
  injection e with e1 _ _
  exact ⟨g, e1⟩
set_option maxRecDepth 100000 in
set_option maxHeartbeats 64000000 in
theorem gnear_c (W : World) (za : Int) (v : Value) (L : List Stp) (h : SrO W v L) : Calls Try.prog 3 #[iv za, v] W fun e W' => e = .returned (.bool true) ∧ W.grownBy W' none := by
  have HH := Keep.mk h
  obtain ⟨a, cap, rfl, _⟩ := h.o
  obtain ⟨n, hn⟩ : ∃ n, L.length = n := ⟨_, rfl⟩
  rw [hn] at HH ⊢
  have hnb : n < 1000000000000000000 := by have := h.len; omega
  have HLN := Keep.mk hn
  clear h hn
  have HSA := Keep.mk (sdZ_ok za)
  have HCA := Keep.mk (fun w => side_c za w)
  generalize sdZ za = sa at *
  obtain ⟨du, hdu, hdr⟩ := under34
  go_enter Try.func3, Try.ntmps3
  go_wp2_with fail
  refine (fixed_c W).mono ?_
  rintro e W1 ⟨rfl, g1⟩
  have HS := Keep.mk (Sep.start g1)
  clear g1
  go_wp2_with fail
  refine (HCA.out _).mono ?_
  rintro e w1 ⟨rfl, hw⟩
  rw [hw]
  clear hw w1 HCA
  go_wp2_with fail
  refine (new_c W W1 _ sa HSA.out HS.out).mono ?_
  rintro e W2 ⟨gb, rfl, S2⟩
  replace HS : Keep (Sep W W2 [nums (.slice none 0 0) [], gridA gb sa []]) := ⟨S2.nilV 3 1⟩
  clear S2
  go_wp2_with fail
  go_loopw [7, 8] (fun u7 u8 wr => ∃ (i : Nat) (M : List Pl) (ids : List Int) (a7 : Option Addr) (c7 : Nat), i ≤ n ∧ i ≤ 40 ∧ u8 = iv i ∧ u7 = .slice a7 i c7 ∧ Keep (ids.length = i) ∧ Keep (Sep W wr [nums (.slice a7 i c7) ids, gridA gb sa M]) ∧ Keep (PlOk M ∧ M.length ≤ i ∧ ∀ k ∈ ids, (look M k).isSome = true)) (fun _ u8 _ => (n - intOf u8).toNat)
  case atStart => exact ⟨0, [], [], none, 0, by omega, by omega, rfl, rfl, ⟨rfl⟩, HS, ⟨PlOk.nil, by simp, nofun⟩⟩
  case round =>
    clear HS
    obtain ⟨i, M, ids, a7, c7, hi, hi3, rfl, rfl, hid, HB, hM⟩ := hrel
    obtain ⟨bc, hbc⟩ : ∃ bc : Bool, decide (i < n ∧ i < 40) = bc := ⟨_, rfl⟩
    have HBC := Keep.mk hbc
    clear hbc
    go_upto_region 8 with fail
    go_cut [50] (fun sv wx => sv = .bool bc ∧ wx = wr)
    case first =>
      as_aux_lemma =>
        by_cases hlt : i < n
        · have hi0 : (i : Int) < (n : Int) := by omega
          by_cases h40 : i < 40
          · have hi4 : (i : Int) < 40 := by omega
            have HE : Keep (bc = true) := ⟨by rw [← HBC.out]; exact decide_eq_true ⟨hlt, h40⟩⟩
            go_wp2_with fail
            go_meet
            exact ⟨by rw [HE.out], rfl⟩
          · have hi4 : ¬ (i : Int) < 40 := by omega
            have HE : Keep (bc = false) := ⟨by rw [← HBC.out]; exact decide_eq_false (fun q => h40 q.2)⟩
            go_wp2_with fail
            go_meet
            exact ⟨by rw [HE.out], rfl⟩
        · have hi0 : ¬ (i : Int) < (n : Int) := by omega
          have HE : Keep (bc = false) := ⟨by rw [← HBC.out]; exact decide_eq_false (fun q => hlt q.1)⟩
          go_wp2_with fail
          go_meet
          exact ⟨by rw [HE.out], rfl⟩
    case rest =>
    rename World => wc
    obtain ⟨rfl, rfl⟩ := hcut
    cases bc
    case true =>
      as_aux_lemma =>
        obtain ⟨hlt, h40⟩ : i < n ∧ i < 40 := of_decide_eq_true HBC.out
        have hi0 : (i : Int) < (n : Int) := by omega
        have hi4 : (i : Int) < 40 := by omega
        obtain ⟨b0, o0, s, rfl, hs, hok, hrg⟩ := HH.out.at HLN.out hlt
        have HO := Keep.mk hok
        have HRG := Keep.mk hrg
        have HML : Keep (M.length ≤ 40) := ⟨by have := hM.out.2.1; omega⟩
        have hii : IntKind.i64.wrap ((i : Int) + 1) = ((i + 1 : Nat) : Int) := by rw [IntKind.wrap_i64]; omega
        clear hs hok hrg
        go_wp2_with fail
        replace HB := Keep.mk (HB.out.grown (gr_drew _ none))
        refine region_X (S := fun w' => W.grownBy w' none) [] (by kernel_rfl) (HB.out.g) (fun hHeld => ?_)
        obtain ⟨W0, hW0⟩ : ∃ W_, wc.drew = W_ := ⟨_, rfl⟩
        rw [hW0] at HB hHeld ⊢
        clear hW0
        refine wpAnyX_take (i := 0) (oi := _) (v := ?_) rfl (by kernel_rfl) (by kernel_rfl) (by kernel_rfl) (by kernel_rfl) (by kernel_rfl) (fun _ _ _ h => h) (Or.inl ⟨by rfl, ?_⟩) (by assumption) ?_
        rotate_left
        · (intro w hSw; go_simp; first | done | (with_reducible rfl))
        simp only [Act.put, List.getElem_toArray, List.getElem_cons_zero, List.setIfInBounds_toArray, List.set_cons_zero, List.set_cons_succ]
        refine wpAnyX_take (i := 1) (oi := _) (v := ?_) rfl (by kernel_rfl) (by kernel_rfl) (by kernel_rfl) (by kernel_rfl) (by kernel_rfl) (fun _ _ _ h => h) (Or.inl ⟨by rfl, ?_⟩) (by assumption) ?_
        rotate_left
        · (intro w hSw; go_simp; first | done | (with_reducible rfl))
        simp only [Act.put, List.getElem_toArray, List.getElem_cons_succ, List.getElem_cons_zero, List.setIfInBounds_toArray, List.set_cons_zero, List.set_cons_succ]
        refine wpAnyX_take (i := 2) (oi := _) (v := ?_) rfl (by kernel_rfl) (by kernel_rfl) (by kernel_rfl) (by kernel_rfl) (by kernel_rfl) (fun _ _ _ h => h) (Or.inl ⟨by rfl, ?_⟩) (by assumption) ?_
        rotate_left
        · (intro w hSw; go_simp; first | done | (with_reducible rfl))
        simp only [Act.put, List.getElem_toArray, List.getElem_cons_succ, List.getElem_cons_zero, List.setIfInBounds_toArray, List.set_cons_zero, List.set_cons_succ]
        refine wpAnyX_take (i := 3) (oi := _) (v := ?_) rfl (by kernel_rfl) (by kernel_rfl) (by kernel_rfl) (by kernel_rfl) (by kernel_rfl) (fun _ _ _ h => h) (Or.inl ⟨by rfl, ?_⟩) (by assumption) ?_
        rotate_left
        · (intro w hSw; go_simp; first | done | (with_reducible rfl))
        simp only [Act.put, List.getElem_toArray, List.getElem_cons_succ, List.getElem_cons_zero, List.setIfInBounds_toArray, List.set_cons_zero, List.set_cons_succ]
        refine wpAnyX_take (i := 4) (oi := _) (v := ?_) rfl (by kernel_rfl) (by kernel_rfl) (by kernel_rfl) (by kernel_rfl) (by kernel_rfl) (fun _ _ _ h => h) (Or.inl ⟨by rfl, ?_⟩) (by assumption) ?_
        rotate_left
        · (intro w hSw; go_simp; first | done | (with_reducible rfl))
        simp only [Act.put, List.getElem_toArray, List.getElem_cons_succ, List.getElem_cons_zero, List.setIfInBounds_toArray, List.set_cons_zero, List.set_cons_succ]
        refine wpAnyX_take (i := 5) (oi := _) (v := ?_) rfl (by kernel_rfl) (by kernel_rfl) (by kernel_rfl) (by kernel_rfl) (by kernel_rfl) (fun _ _ _ h => h) (Or.inl ⟨by rfl, ?_⟩) (by assumption) ?_
        rotate_left
        · (intro w hSw; have q1 := HRG.out w hSw 1 _ rfl; go_simp; first | done | (with_reducible rfl))
        simp only [Act.put, List.getElem_toArray, List.getElem_cons_succ, List.getElem_cons_zero, List.setIfInBounds_toArray, List.set_cons_zero, List.set_cons_succ]
        refine wpAnyX_take (i := 6) (oi := _) (v := ?_) rfl (by kernel_rfl) (by kernel_rfl) (by kernel_rfl) (by kernel_rfl) (by kernel_rfl) (fun _ _ _ h => h) (Or.inl ⟨by rfl, ?_⟩) (by assumption) ?_
        rotate_left
        · (intro w hSw; go_simp; first | done | (with_reducible rfl))
        simp only [Act.put, List.getElem_toArray, List.getElem_cons_succ, List.getElem_cons_zero, List.setIfInBounds_toArray, List.set_cons_zero, List.set_cons_succ]
        refine wpAnyX_take (i := 7) (oi := _) (v := ?_) rfl (by kernel_rfl) (by kernel_rfl) (by kernel_rfl) (by kernel_rfl) (by kernel_rfl) (fun _ _ _ h => h) (Or.inl ⟨by rfl, ?_⟩) (by assumption) ?_
        rotate_left
        · (intro w hSw; go_simp; first | done | (with_reducible rfl))
        simp only [Act.put, List.getElem_toArray, List.getElem_cons_succ, List.getElem_cons_zero, List.setIfInBounds_toArray, List.set_cons_zero, List.set_cons_succ]
        refine wpAnyX_take (i := 8) (oi := _) (v := ?_) rfl (by kernel_rfl) (by kernel_rfl) (by kernel_rfl) (by kernel_rfl) (by kernel_rfl) (fun _ _ _ h => h) (Or.inl ⟨by rfl, ?_⟩) (by assumption) ?_
        rotate_left
        · (intro w hSw; go_simp; first | done | (with_reducible rfl))
        simp only [Act.put, List.getElem_toArray, List.getElem_cons_succ, List.getElem_cons_zero, List.setIfInBounds_toArray, List.set_cons_zero, List.set_cons_succ]
        refine wpAnyX_take (i := 9) (oi := _) (v := ?_) rfl (by kernel_rfl) (by kernel_rfl) (by kernel_rfl) (by kernel_rfl) (by kernel_rfl) (fun _ _ _ h => h) (Or.inl ⟨by rfl, ?_⟩) (by assumption) ?_
        rotate_left
        · (intro w hSw; go_simp; first | done | (with_reducible rfl))
        simp only [Act.put, List.getElem_toArray, List.getElem_cons_succ, List.getElem_cons_zero, List.setIfInBounds_toArray, List.set_cons_zero, List.set_cons_succ]
        refine wpAnyX_take (i := 10) (oi := _) (v := .agg #[iv s.x, iv s.y]) rfl (by kernel_rfl) (by kernel_rfl) (by kernel_rfl) (by kernel_rfl) (by kernel_rfl) (fun _ _ _ h => h) (Or.inl ⟨by rfl, ?_⟩) (by assumption) ?_
        · (intro w hSw; have q2 := HRG.out w hSw 2 _ rfl; have q3 := HRG.out w hSw 3 _ rfl; go_simp; first | done | rfl | (simp; done) | trace_state)
        simp only [Act.put, List.getElem_toArray, List.getElem_cons_succ, List.getElem_cons_zero, List.setIfInBounds_toArray, List.set_cons_zero, List.set_cons_succ]
        refine wpAnyX_one (i := 11) (by kernel_rfl) rfl (fun K hK => ?_)
        go_simp
        refine (put_c W _ _ gb sa M s.id s.x s.y HO.out.2.1 HO.out.2.2.1 HO.out.2.2.2.1 (by have := HML.out; omega) HB.out.swap).mono ?_
        rintro e wg ⟨rfl, S1⟩
        refine hK.out _ _ S1.g (fun hHeld => ?_)
        replace HB := Keep.mk S1.swap
        clear hK K S1
        refine wpAnyX_done (by kernel_rfl) ?_ _
        obtain ⟨g9, c9, W9, ap, S9⟩ := HB.out.appI [s.id] (by simp) (by rw [hid.out]; simp; omega)
        have AP := Keep.mk ap
        have el : (ids ++ [s.id]).length = i + 1 := by rw [List.length_append, hid.out, List.length_singleton]
        obtain ⟨wb, hwb⟩ : ∃ b, wg.heap.size = b := ⟨_, rfl⟩
        rw [hwb, el] at AP
        replace AP : Keep ((Builtin.append_ #[29, 29] 29 #[.slice a7 i c7, sl wb 1 1]).run Try.prog (wg.alloc (.cells #[iv s.id] 3)) = .ok (sl g9 (i + 1) c9) W9) := AP
        have HF : Keep (Sep W W9 [nums (sl g9 (i + 1) c9) (ids ++ [s.id]), gridA gb sa (putM M ⟨s.id, s.x, s.y⟩)]) := ⟨by rw [el] at S9; exact S9⟩
        have HM2 : Keep (PlOk (putM M ⟨s.id, s.x, s.y⟩) ∧ (putM M ⟨s.id, s.x, s.y⟩).length ≤ i + 1 ∧ ∀ k ∈ ids ++ [s.id], (look (putM M ⟨s.id, s.x, s.y⟩) k).isSome = true) := ⟨by
          refine ⟨hM.out.1.put ⟨HO.out.2.1, HO.out.2.2.1, HO.out.2.2.2.1⟩, by have := len_put M ⟨s.id, s.x, s.y⟩; have := hM.out.2.1; omega, fun k hk => ?_⟩
          rw [look_put]
          by_cases e : k = s.id
          · rw [if_pos e]; rfl
          · rw [if_neg e]
            rcases List.mem_append.1 hk with hk | hk
            · exact hM.out.2.2 k hk
            · exact absurd (List.mem_singleton.1 hk) e⟩
        have HEL := Keep.mk el
        have q1 := HRG.out wg HB.out.g 1 _ rfl
        obtain ⟨i1, hi1⟩ : ∃ i1, i + 1 = i1 := ⟨_, rfl⟩
        rw [hi1] at AP hii
        clear ap S9 hHeld HB el
        go_wp2_with (first
          | (at_builtin; refine wpList_append_run _ rfl (.tmp 65) (.tmp 71) 29 rfl _ _ rfl rfl AP.out ?_))
        go_roundw
        case rel => exact ⟨i1, putM M ⟨s.id, s.x, s.y⟩, ids ++ [s.id], some ⟨g9, 0, none⟩, c9, by omega, by omega, rfl, rfl, ⟨by rw [← hi1]; exact HEL.out⟩, ⟨by rw [← hi1]; exact HF.out⟩, ⟨by rw [← hi1]; exact HM2.out⟩⟩
        case measure => simp [intOf]; omega
    case false =>
      as_aux_lemma =>
        -- the second loop
        have HNC : Keep (¬ (i < n ∧ i < 40)) := ⟨of_decide_eq_false HBC.out⟩
        obtain ⟨n7, hn7⟩ : ∃ n7, i = n7 := ⟨_, rfl⟩
        have HPM := Keep.mk hM.out.1
        have HMI := Keep.mk hM.out.2.2
        have HML : Keep (M.length ≤ 40) := ⟨by have := hM.out.2.1; omega⟩
        have HK7 : Keep (ids.length = n7) := ⟨by rw [← hn7]; exact hid.out⟩
        have HB7 : Keep (Sep W wc [nums (.slice a7 n7 c7) ids, gridA gb sa M]) := ⟨by rw [← hn7]; exact HB.out⟩
        have hn7b : n7 ≤ 40 := by omega
        clear hM hid HB hi hi3
        rw [hn7]
        clear HNC HBC hn7
        go_wp2_with fail
        go_loopw [9] (fun u9 wr => ∃ i : Nat, i ≤ n ∧ u9 = iv i ∧ Keep (Sep W wr [nums (.slice a7 n7 c7) ids, gridA gb sa M])) (fun u9 _ => (n - intOf u9).toNat)
        case atStart => exact ⟨0, by omega, rfl, HB7⟩
        case round =>
          clear HB7
          obtain ⟨i, hi, rfl, HB⟩ := hrel
          obtain ⟨bc, hbc⟩ : ∃ bc : Bool, decide (i < n ∧ i < 40) = bc := ⟨_, rfl⟩
          have HBC := Keep.mk hbc
          clear hbc
          go_upto_region 13 with fail
          go_cut [80] (fun sv wx => sv = .bool bc ∧ wx = wr)
          case first =>
            as_aux_lemma =>
              by_cases hlt : i < n
              · have hi0 : (i : Int) < (n : Int) := by omega
                by_cases h40 : i < 40
                · have hi4 : (i : Int) < 40 := by omega
                  have HE : Keep (bc = true) := ⟨by rw [← HBC.out]; exact decide_eq_true ⟨hlt, h40⟩⟩
                  go_wp2_with fail
                  go_meet
                  exact ⟨by rw [HE.out], rfl⟩
                · have hi4 : ¬ (i : Int) < 40 := by omega
                  have HE : Keep (bc = false) := ⟨by rw [← HBC.out]; exact decide_eq_false (fun q => h40 q.2)⟩
                  go_wp2_with fail
                  go_meet
                  exact ⟨by rw [HE.out], rfl⟩
              · have hi0 : ¬ (i : Int) < (n : Int) := by omega
                have HE : Keep (bc = false) := ⟨by rw [← HBC.out]; exact decide_eq_false (fun q => hlt q.1)⟩
                go_wp2_with fail
                go_meet
                exact ⟨by rw [HE.out], rfl⟩
          case rest =>
          rename World => wc
          obtain ⟨rfl, rfl⟩ := hcut
          cases bc
          case false =>
            as_aux_lemma =>
              have HF := Keep.mk HB.out.g
              clear HB
              go_wp2_with fail
              go_ret
              exact ⟨rfl, HF.out⟩
          case true =>
            as_aux_lemma =>
              obtain ⟨hlt, h40⟩ : i < n ∧ i < 40 := of_decide_eq_true HBC.out
              have hi0 : (i : Int) < (n : Int) := by omega
              obtain ⟨b0, o0, s, hab, hs, hok, hrg⟩ := HH.out.at HLN.out hlt
              have HO := Keep.mk hok
              have HRN := Keep.mk (hrg wc HB.out.g)
              have hii : IntKind.i64.wrap ((i : Int) + 1) = ((i + 1 : Nat) : Int) := by rw [IntKind.wrap_i64]; omega
              have HILT := Keep.mk hlt
              clear hs hok hrg hlt h40
              subst hab
              have hst1 : Keep (∀ u ∈ [iv s.op, iv s.id, iv s.x, iv s.y, iv s.r, iv s.n], u.oneCell' = true) := ⟨stv_one s⟩
              go_wp2_with (first
                | (show wpList _ _ _ ({ dst := _, op := Op.load 34 _, type := _, pos := _, after := _, guard := _ } :: _) _ _
                   refine wpList_load_mid rfl 34 _ rfl _ _ rfl _ _ HRN.out hdu hdr info34 ?_)
                | (show wpList _ _ _ ({ dst := _, op := Op.store 34 _ _, type := _, pos := _, after := _, guard := _ } :: _) _ _
                   refine store_new wc [iv s.op, iv s.id, iv s.x, iv s.y, iv s.r, iv s.n] 34 rfl rfl rfl rfl rfl info34 hst1.out ?_))
              intro w6 hS6 g6
              obtain ⟨ob, hob⟩ : ∃ b, wc.heap.size = b := ⟨_, rfl⟩
              have S6 := hS6 _ _ HB.out
              rw [hob] at S6 ⊢
              have HS := Keep.mk S6
              have o2 := (S6.boxGet k0m).cellv 2 _ rfl
              have o3 := (S6.boxGet k0m).cellv 3 _ rfl
              have o4 := (S6.boxGet k0m).cellv 4 _ rfl
              clear hS6 g6 S6 HB HRN hob
              go_wp2_with fail
              refine (near_c W w6 _ gb sa M s.x s.y s.r HO.out.2.2.1 HO.out.2.2.2.1 (by have := HML.out; omega) (fr1 [_, _] HS.out)).mono ?_
              rintro e w7 ⟨v1, rfl, S7⟩
              obtain ⟨K, hK⟩ : ∃ K, nrL M s.x s.y s.r = K := ⟨_, rfl⟩
              have HKE := Keep.mk hK
              rw [hK] at S7
              obtain ⟨a1, c1, rfl⟩ := own_slice (S7.rowGet k0m)
              obtain ⟨n1, hn1⟩ : ∃ n1, K.length = n1 := ⟨_, rfl⟩
              rw [hn1] at S7 ⊢
              have HK1 := Keep.mk hn1
              have HN1 : Keep (n1 ≤ 40) := ⟨by
                have h1 : K.length ≤ M.length := by rw [← hK]; unfold nrL; rw [List.length_map]; exact nr_len M _ _ _
                have := HML.out; omega⟩
              replace HS : Keep (Sep W w7 [rowV 3 1 (.slice a1 n1 c1) n1 (K.map iv), boxA ob [iv s.op, iv s.id, iv s.x, iv s.y, iv s.r, iv s.n] 34, rowV 3 1 (.slice a7 n7 c7) n7 (ids.map iv), gridA gb sa M]) := ⟨by
                have q := S7.perm (List.Perm.cons _ (List.perm_middle (l₁ := [_, _]) (a := _) (l₂ := [])).symm)
                rw [show nums (.slice a7 n7 c7) ids = rowV 3 1 (.slice a7 n7 c7) n7 (ids.map iv) by show rowV 3 1 _ ids.length _ = _; rw [HK7.out]] at q
                rw [show nums (.slice a1 n1 c1) K = rowV 3 1 (.slice a1 n1 c1) n1 (K.map iv) by show rowV 3 1 _ K.length _ = _; rw [HK1.out]] at q
                exact q⟩
              clear S7 hK hn1 o2 o3 o4
              have hn1b : n1 ≤ 40 := HN1.out
              go_wp2_with fail
              as_aux_lemma =>
                go_loopw [12] (fun u12 wr => ∃ k : Nat, k ≤ n7 ∧ u12 = iv k ∧ Keep (Sep W wr [rowV 3 1 (.slice a1 n1 c1) n1 (K.map iv), boxA ob [iv s.op, iv s.id, iv s.x, iv s.y, iv s.r, iv s.n] 34, rowV 3 1 (.slice a7 n7 c7) n7 (ids.map iv), gridA gb sa M])) (fun u12 _ => (n7 - intOf u12).toNat)
                case atStart => exact ⟨0, by omega, rfl, HS⟩
                case round =>
                  clear HS
                  obtain ⟨k, hk, rfl, HB⟩ := hrel
                  rename World => wr
                  by_cases hlt : k < n7
                  · obtain ⟨kk, hkk⟩ : ∃ z, ids[k]? = some z := ⟨_, List.getElem?_eq_getElem (by rw [HK7.out]; exact hlt)⟩
                    obtain ⟨p, hpM, hpid, hpl⟩ := look_ok (HMI.out kk (List.mem_of_getElem? hkk))
                    have hpi : p ∈ M ∧ p.id = kk := ⟨hpM, hpid⟩
                    obtain ⟨g7, rfl⟩ := row_some HB.out k2m (by omega)
                    have c7' := own_rd HB.out k2m HK7.out k kk hkk
                    have HAT : Keep (Calls Try.prog 12 #[pt gb, iv kk] wr fun e W' => e = .returned (.tuple #[vv p.x p.y, .bool true]) ∧ wr.grownBy W' none) := ⟨by
                      have q := at_c W wr _ gb sa M kk (by rw [← hpi.2]; exact (HPM.out.2 p hpi.1).1) (fr1 [_, _, _] HB.out)
                      obtain ⟨q1, q2, q3⟩ := at_of hpl
                      rw [q1, q2, q3] at q
                      exact q⟩
                    have HPX : Keep (I64 p.x ∧ I64 p.y) := ⟨(HPM.out.2 p hpM).2⟩
                    have HKK := Keep.mk hkk
                    have HPI := Keep.mk hpi
                    have HKL : Keep (k < n7) := ⟨hlt⟩
                    have hk0 : (0 : Int) ≤ (k : Int) := by omega
                    have hk1 : (k : Int) < (n7 : Int) := by omega
                    have hkt : ((k : Nat) : Int).toNat = k := by omega
                    have hkw : IntKind.i64.wrap ((k : Int) + 1) = ((k + 1 : Nat) : Int) := by rw [IntKind.wrap_i64]; omega
                    clear hkk hpM hpid hpl hpi hlt hk
                    go_wp2_with fail
                    refine HAT.out.mono ?_
                    rintro e w8 ⟨rfl, g8⟩
                    have S9 := (HB.out.grown g8).newBox #[iv p.x, iv p.y] 32
                    obtain ⟨w9, hw9⟩ : ∃ w, w8.alloc (.cells #[iv p.x, iv p.y] 32) = w := ⟨_, rfl⟩
                    obtain ⟨bb, hbb⟩ : ∃ b, w8.heap.size = b := ⟨_, rfl⟩
                    rw [hw9, hbb] at S9
                    have HB2 : Keep (Sep W w9 (boxA bb [iv p.x, iv p.y] 32 :: [rowV 3 1 (.slice a1 n1 c1) n1 (K.map iv), boxA ob [iv s.op, iv s.id, iv s.x, iv s.y, iv s.r, iv s.n] 34, rowV 3 1 (sl g7 n7 c7) n7 (ids.map iv), gridA gb sa M])) := ⟨S9⟩
                    clear S9 g8 HB HAT c7'
                    go_wp2_with fail
                    clear hw9 hbb
                    as_aux_lemma =>
                      go_loopw [15, 16] (fun u15 u16 wy => ∃ (j cn : Nat), j ≤ n1 ∧ u16 = iv j ∧ u15 = iv cn ∧ Keep (cnt K kk j = cn) ∧ Keep (Sep W wy (boxA bb [iv p.x, iv p.y] 32 :: [rowV 3 1 (.slice a1 n1 c1) n1 (K.map iv), boxA ob [iv s.op, iv s.id, iv s.x, iv s.y, iv s.r, iv s.n] 34, rowV 3 1 (sl g7 n7 c7) n7 (ids.map iv), gridA gb sa M]))) (fun _ u16 _ => (n1 - intOf u16).toNat)
                      case atStart => exact ⟨0, 0, by omega, rfl, rfl, ⟨cnt_zero _ _⟩, HB2⟩
                      case round =>
                        clear HB2
                        obtain ⟨j, cn, hj, rfl, rfl, HC, HB⟩ := hrel
                        rename World => wy
                        by_cases hlt : j < n1
                        · obtain ⟨z, hz⟩ : ∃ z, K[j]? = some z := ⟨_, List.getElem?_eq_getElem (by rw [HK1.out]; exact hlt)⟩
                          obtain ⟨g1, rfl⟩ := row_some HB.out k1m (by omega)
                          have HZ := Keep.mk hz
                          have HJ : Keep (j < n1) := ⟨hlt⟩
                          have hcl := cnt_le (K := K) kk j
                          rw [HC.out] at hcl
                          have hcw : IntKind.i64.wrap ((cn : Int) + 1) = ((cn + 1 : Nat) : Int) := by rw [IntKind.wrap_i64]; omega
                          have HCS := Keep.mk (cnt_succ (k := kk) hz)
                          have hj0 : (0 : Int) ≤ (j : Int) := by omega
                          have hj1 : (j : Int) < (n1 : Int) := by omega
                          have hjt : ((j : Nat) : Int).toNat = j := by omega
                          have hjw : IntKind.i64.wrap ((j : Int) + 1) = ((j + 1 : Nat) : Int) := by rw [IntKind.wrap_i64]; omega
                          clear hz hlt hj hcl
                          by_cases hzk : z = kk
                          · have HEQ : Keep ((z == kk) = true) := ⟨by simp [hzk]⟩
                            have HC2 : Keep (cnt K kk (j + 1) = cn + 1) := ⟨by rw [HCS.out, HC.out, if_pos hzk]⟩
                            clear hzk HCS HC
                            go_wp2_with fail
                            refine region_X (S := fun w' => Sep W w' (boxA bb [iv p.x, iv p.y] 32 :: [rowV 3 1 (sl g1 n1 c1) n1 (K.map iv), boxA ob [iv s.op, iv s.id, iv s.x, iv s.y, iv s.r, iv s.n] 34, rowV 3 1 (sl g7 n7 c7) n7 (ids.map iv), gridA gb sa M])) [] (by kernel_rfl) (HB.out.grown (gr_drew _ _)) (fun hHeld => ?_)
                            replace HB := Keep.mk hHeld
                            obtain ⟨W0, hW0⟩ : ∃ W_, wy.drew = W_ := ⟨_, rfl⟩
                            rw [hW0] at HB hHeld ⊢
                            clear hW0
                            refine wpAnyX_take (i := 0) (oi := _) (v := ?_) rfl (by kernel_rfl) (by kernel_rfl) (by kernel_rfl) (by kernel_rfl) (by kernel_rfl) (fun _ _ _ h => h) (Or.inl ⟨by rfl, ?_⟩) (by assumption) ?_
                            rotate_left
                            · (intro w hSw; go_simp; first | done | (with_reducible rfl))
                            simp only [Act.put, List.getElem_toArray, List.getElem_cons_zero, List.setIfInBounds_toArray, List.set_cons_zero, List.set_cons_succ]
                            refine wpAnyX_take (i := 1) (oi := _) (v := ?_) rfl (by kernel_rfl) (by kernel_rfl) (by kernel_rfl) (by kernel_rfl) (by kernel_rfl) (fun _ _ _ h => h) (Or.inl ⟨by rfl, ?_⟩) (by assumption) ?_
                            rotate_left
                            · (intro w hSw; go_simp; first | done | (with_reducible rfl))
                            simp only [Act.put, List.getElem_toArray, List.getElem_cons_succ, List.getElem_cons_zero, List.setIfInBounds_toArray, List.set_cons_zero, List.set_cons_succ]
                            refine wpAnyX_take (i := 2) (oi := _) (v := ?_) rfl (by kernel_rfl) (by kernel_rfl) (by kernel_rfl) (by kernel_rfl) (by kernel_rfl) (fun _ _ _ h => h) (Or.inl ⟨by rfl, ?_⟩) (by assumption) ?_
                            rotate_left
                            · (intro w hSw; go_simp; first | done | (with_reducible rfl))
                            simp only [Act.put, List.getElem_toArray, List.getElem_cons_succ, List.getElem_cons_zero, List.setIfInBounds_toArray, List.set_cons_zero, List.set_cons_succ]
                            refine wpAnyX_take (i := 3) (oi := _) (v := ?_) rfl (by kernel_rfl) (by kernel_rfl) (by kernel_rfl) (by kernel_rfl) (by kernel_rfl) (fun _ _ _ h => h) (Or.inl ⟨by rfl, ?_⟩) (by assumption) ?_
                            rotate_left
                            · (intro w hSw; have q0 := own_rd hSw k1m HK1.out j z HZ.out; go_simp; first | done | (with_reducible rfl))
                            simp only [Act.put, List.getElem_toArray, List.getElem_cons_succ, List.getElem_cons_zero, List.setIfInBounds_toArray, List.set_cons_zero, List.set_cons_succ]
                            refine wpAnyX_take (i := 4) (oi := _) (v := ?_) rfl (by kernel_rfl) (by kernel_rfl) (by kernel_rfl) (by kernel_rfl) (by kernel_rfl) (fun _ _ _ h => h) (Or.inl ⟨by rfl, ?_⟩) (by assumption) ?_
                            rotate_left
                            · (intro w hSw; go_simp; first | done | (with_reducible rfl))
                            simp only [Act.put, List.getElem_toArray, List.getElem_cons_succ, List.getElem_cons_zero, List.setIfInBounds_toArray, List.set_cons_zero, List.set_cons_succ]
                            refine wpAnyX_take (i := 5) (oi := _) (v := ?_) rfl (by kernel_rfl) (by kernel_rfl) (by kernel_rfl) (by kernel_rfl) (by kernel_rfl) (fun _ _ _ h => h) (Or.inl ⟨by rfl, ?_⟩) (by assumption) ?_
                            rotate_left
                            · (intro w hSw; go_simp; first | done | (with_reducible rfl))
                            simp only [Act.put, List.getElem_toArray, List.getElem_cons_succ, List.getElem_cons_zero, List.setIfInBounds_toArray, List.set_cons_zero, List.set_cons_succ]
                            refine wpAnyX_take (i := 6) (oi := _) (v := ?_) rfl (by kernel_rfl) (by kernel_rfl) (by kernel_rfl) (by kernel_rfl) (by kernel_rfl) (fun _ _ _ h => h) (Or.inl ⟨by rfl, ?_⟩) (by assumption) ?_
                            rotate_left
                            · (intro w hSw; go_simp; first | done | (with_reducible rfl))
                            simp only [Act.put, List.getElem_toArray, List.getElem_cons_succ, List.getElem_cons_zero, List.setIfInBounds_toArray, List.set_cons_zero, List.set_cons_succ]
                            refine wpAnyX_take (i := 7) (oi := _) (v := ?_) rfl (by kernel_rfl) (by kernel_rfl) (by kernel_rfl) (by kernel_rfl) (by kernel_rfl) (fun _ _ _ h => h) (Or.inl ⟨by rfl, ?_⟩) (by assumption) ?_
                            rotate_left
                            · (intro w hSw; have q0 := own_rd hSw k3m HK7.out k kk HKK.out; go_simp; first | done | (with_reducible rfl))
                            simp only [Act.put, List.getElem_toArray, List.getElem_cons_succ, List.getElem_cons_zero, List.setIfInBounds_toArray, List.set_cons_zero, List.set_cons_succ]
                            refine wpAnyX_take (i := 8) (oi := _) (v := .bool true) rfl (by kernel_rfl) (by kernel_rfl) (by kernel_rfl) (by kernel_rfl) (by kernel_rfl) (fun _ _ _ h => h) (Or.inl ⟨by rfl, ?_⟩) (by assumption) ?_
                            · (intro w hSw; have q8 := HEQ.out; go_simp; first | done | rfl | (simp; done) | trace_state)
                            simp only [Act.put, List.getElem_toArray, List.getElem_cons_succ, List.getElem_cons_zero, List.setIfInBounds_toArray, List.set_cons_zero, List.set_cons_succ]
                            refine wpAnyX_done (by kernel_rfl) ?_ _
                            clear hHeld
                            go_wp2_with fail
                            go_roundw
                            case rel => exact ⟨j + 1, cn + 1, HJ.out, rfl, rfl, HC2, HB⟩
                            case measure => simp [intOf]; have := HJ.out; omega
                          · have HEQ : Keep ((z == kk) = false) := ⟨by simp [hzk]⟩
                            have HC2 : Keep (cnt K kk (j + 1) = cn) := ⟨by rw [HCS.out, HC.out, if_neg hzk]; rfl⟩
                            clear hzk HCS HC
                            go_wp2_with fail
                            refine region_X (S := fun w' => Sep W w' (boxA bb [iv p.x, iv p.y] 32 :: [rowV 3 1 (sl g1 n1 c1) n1 (K.map iv), boxA ob [iv s.op, iv s.id, iv s.x, iv s.y, iv s.r, iv s.n] 34, rowV 3 1 (sl g7 n7 c7) n7 (ids.map iv), gridA gb sa M])) [] (by kernel_rfl) (HB.out.grown (gr_drew _ _)) (fun hHeld => ?_)
                            replace HB := Keep.mk hHeld
                            obtain ⟨W0, hW0⟩ : ∃ W_, wy.drew = W_ := ⟨_, rfl⟩
                            rw [hW0] at HB hHeld ⊢
                            clear hW0
                            refine wpAnyX_take (i := 0) (oi := _) (v := ?_) rfl (by kernel_rfl) (by kernel_rfl) (by kernel_rfl) (by kernel_rfl) (by kernel_rfl) (fun _ _ _ h => h) (Or.inl ⟨by rfl, ?_⟩) (by assumption) ?_
                            rotate_left
                            · (intro w hSw; go_simp; first | done | (with_reducible rfl))
                            simp only [Act.put, List.getElem_toArray, List.getElem_cons_zero, List.setIfInBounds_toArray, List.set_cons_zero, List.set_cons_succ]
                            refine wpAnyX_take (i := 1) (oi := _) (v := ?_) rfl (by kernel_rfl) (by kernel_rfl) (by kernel_rfl) (by kernel_rfl) (by kernel_rfl) (fun _ _ _ h => h) (Or.inl ⟨by rfl, ?_⟩) (by assumption) ?_
                            rotate_left
                            · (intro w hSw; go_simp; first | done | (with_reducible rfl))
                            simp only [Act.put, List.getElem_toArray, List.getElem_cons_succ, List.getElem_cons_zero, List.setIfInBounds_toArray, List.set_cons_zero, List.set_cons_succ]
                            refine wpAnyX_take (i := 2) (oi := _) (v := ?_) rfl (by kernel_rfl) (by kernel_rfl) (by kernel_rfl) (by kernel_rfl) (by kernel_rfl) (fun _ _ _ h => h) (Or.inl ⟨by rfl, ?_⟩) (by assumption) ?_
                            rotate_left
                            · (intro w hSw; go_simp; first | done | (with_reducible rfl))
                            simp only [Act.put, List.getElem_toArray, List.getElem_cons_succ, List.getElem_cons_zero, List.setIfInBounds_toArray, List.set_cons_zero, List.set_cons_succ]
                            refine wpAnyX_take (i := 3) (oi := _) (v := ?_) rfl (by kernel_rfl) (by kernel_rfl) (by kernel_rfl) (by kernel_rfl) (by kernel_rfl) (fun _ _ _ h => h) (Or.inl ⟨by rfl, ?_⟩) (by assumption) ?_
                            rotate_left
                            · (intro w hSw; have q0 := own_rd hSw k1m HK1.out j z HZ.out; go_simp; first | done | (with_reducible rfl))
                            simp only [Act.put, List.getElem_toArray, List.getElem_cons_succ, List.getElem_cons_zero, List.setIfInBounds_toArray, List.set_cons_zero, List.set_cons_succ]
                            refine wpAnyX_take (i := 4) (oi := _) (v := ?_) rfl (by kernel_rfl) (by kernel_rfl) (by kernel_rfl) (by kernel_rfl) (by kernel_rfl) (fun _ _ _ h => h) (Or.inl ⟨by rfl, ?_⟩) (by assumption) ?_
                            rotate_left
                            · (intro w hSw; go_simp; first | done | (with_reducible rfl))
                            simp only [Act.put, List.getElem_toArray, List.getElem_cons_succ, List.getElem_cons_zero, List.setIfInBounds_toArray, List.set_cons_zero, List.set_cons_succ]
                            refine wpAnyX_take (i := 5) (oi := _) (v := ?_) rfl (by kernel_rfl) (by kernel_rfl) (by kernel_rfl) (by kernel_rfl) (by kernel_rfl) (fun _ _ _ h => h) (Or.inl ⟨by rfl, ?_⟩) (by assumption) ?_
                            rotate_left
                            · (intro w hSw; go_simp; first | done | (with_reducible rfl))
                            simp only [Act.put, List.getElem_toArray, List.getElem_cons_succ, List.getElem_cons_zero, List.setIfInBounds_toArray, List.set_cons_zero, List.set_cons_succ]
                            refine wpAnyX_take (i := 6) (oi := _) (v := ?_) rfl (by kernel_rfl) (by kernel_rfl) (by kernel_rfl) (by kernel_rfl) (by kernel_rfl) (fun _ _ _ h => h) (Or.inl ⟨by rfl, ?_⟩) (by assumption) ?_
                            rotate_left
                            · (intro w hSw; go_simp; first | done | (with_reducible rfl))
                            simp only [Act.put, List.getElem_toArray, List.getElem_cons_succ, List.getElem_cons_zero, List.setIfInBounds_toArray, List.set_cons_zero, List.set_cons_succ]
                            refine wpAnyX_take (i := 7) (oi := _) (v := ?_) rfl (by kernel_rfl) (by kernel_rfl) (by kernel_rfl) (by kernel_rfl) (by kernel_rfl) (fun _ _ _ h => h) (Or.inl ⟨by rfl, ?_⟩) (by assumption) ?_
                            rotate_left
                            · (intro w hSw; have q0 := own_rd hSw k3m HK7.out k kk HKK.out; go_simp; first | done | (with_reducible rfl))
                            simp only [Act.put, List.getElem_toArray, List.getElem_cons_succ, List.getElem_cons_zero, List.setIfInBounds_toArray, List.set_cons_zero, List.set_cons_succ]
                            refine wpAnyX_take (i := 8) (oi := _) (v := .bool false) rfl (by kernel_rfl) (by kernel_rfl) (by kernel_rfl) (by kernel_rfl) (by kernel_rfl) (fun _ _ _ h => h) (Or.inl ⟨by rfl, ?_⟩) (by assumption) ?_
                            · (intro w hSw; have q8 := HEQ.out; go_simp; first | done | rfl | (simp; done) | trace_state)
                            simp only [Act.put, List.getElem_toArray, List.getElem_cons_succ, List.getElem_cons_zero, List.setIfInBounds_toArray, List.set_cons_zero, List.set_cons_succ]
                            refine wpAnyX_done (by kernel_rfl) ?_ _
                            clear hHeld
                            go_wp2_with fail
                            go_roundw
                            case rel => exact ⟨j + 1, cn, HJ.out, rfl, rfl, HC2, HB⟩
                            case measure => simp [intOf]; have := HJ.out; omega
                        · have hj1 : ¬ (j : Int) < (n1 : Int) := by omega
                          have hcn0 : cn = if kk ∈ K then 1 else 0 := by
                            rw [← HC.out, show j = n1 by omega]
                            exact cnt_all (by rw [← HKE.out]; exact nrL_srt HPM.out.1 _ _ _) kk HK1.out
                          have hmm : kk ∈ K ↔ wn (d2 s.x s.y p.x p.y) s.r = true := by
                            rw [← HKE.out, ← HPI.out.2]
                            exact nrL_mem HPM.out.1 s.x s.y s.r HPI.out.1
                          have o2 := (HB.out.boxGet k2m).cellv 2 _ rfl
                          have o3 := (HB.out.boxGet k2m).cellv 3 _ rfl
                          have o4 := (HB.out.boxGet k2m).cellv 4 _ rfl
                          have b0 := (HB.out.boxGet k0m).cellv 0 _ rfl
                          have b1 := (HB.out.boxGet k0m).cellv 1 _ rfl
                          clear hlt hj HC
                          by_cases hm : kk ∈ K
                          · have hwn := hmm.1 hm
                            rw [if_pos hm] at hcn0
                            clear hmm
                            have hc1 : ((cn : Int) == 1) = true := by simp; omega
                            have hc2 : ¬ (1 : Int) < (cn : Int) := by omega
                            have HWI : Keep (∀ w, Calls Try.prog 13 #[vv s.x s.y, vv p.x p.y, iv s.r] w fun e w' => e = .returned (.bool true) ∧ Gw w w') := ⟨fun w => by
                              have q := within_c s.x s.y p.x p.y s.r HO.out.2.2.1 HO.out.2.2.2.1 HPX.out.1 HPX.out.2 w
                              rw [hwn] at q
                              exact q⟩
                            clear hm hwn hcn0
                            go_wp2_with fail
                            refine (HWI.out _).mono ?_
                            rintro e w10 ⟨rfl, hg⟩
                            replace HB := Keep.mk (HB.out.grown hg.g)
                            clear hg HWI o2 o3 o4 b0 b1
                            go_wp2_with fail
                            go_roundw
                            case rel => exact ⟨k + 1, HKL.out, rfl, ⟨HB.out.tail⟩⟩
                            case measure => simp [intOf]; have := HKL.out; omega
                          · have hwn : wn (d2 s.x s.y p.x p.y) s.r = false := by
                              cases e : wn (d2 s.x s.y p.x p.y) s.r
                              · rfl
                              · exact absurd (hmm.2 e) hm
                            rw [if_neg hm] at hcn0
                            clear hmm
                            have hc1 : ((cn : Int) == 1) = false := by simp; omega
                            have hc2 : ¬ (1 : Int) < (cn : Int) := by omega
                            have HWI : Keep (∀ w, Calls Try.prog 13 #[vv s.x s.y, vv p.x p.y, iv s.r] w fun e w' => e = .returned (.bool false) ∧ Gw w w') := ⟨fun w => by
                              have q := within_c s.x s.y p.x p.y s.r HO.out.2.2.1 HO.out.2.2.2.1 HPX.out.1 HPX.out.2 w
                              rw [hwn] at q
                              exact q⟩
                            clear hm hwn hcn0
                            go_wp2_with fail
                            refine (HWI.out _).mono ?_
                            rintro e w10 ⟨rfl, hg⟩
                            replace HB := Keep.mk (HB.out.grown hg.g)
                            clear hg HWI o2 o3 o4 b0 b1
                            go_wp2_with fail
                            go_roundw
                            case rel => exact ⟨k + 1, HKL.out, rfl, ⟨HB.out.tail⟩⟩
                            case measure => simp [intOf]; have := HKL.out; omega

                  · have hk1 : ¬ (k : Int) < (n7 : Int) := by omega
                    have HS := HB
                    clear HB hlt hk
                    go_wp2_with fail
                    as_aux_lemma =>
                      go_loopw [17] (fun u17 wr => ∃ j : Nat, j ≤ n1 ∧ u17 = iv j ∧ Keep (Sep W wr [rowV 3 1 (.slice a1 n1 c1) n1 (K.map iv), boxA ob [iv s.op, iv s.id, iv s.x, iv s.y, iv s.r, iv s.n] 34, rowV 3 1 (.slice a7 n7 c7) n7 (ids.map iv), gridA gb sa M])) (fun u17 _ => (n1 - intOf u17).toNat)
                      case atStart => exact ⟨0, by omega, rfl, HS⟩
                      case round =>
                        clear HS
                        obtain ⟨j, hj, rfl, HB⟩ := hrel
                        rename World => wr
                        by_cases hlt : j < n1
                        · obtain ⟨z, hz⟩ : ∃ z, K[j]? = some z := ⟨_, List.getElem?_eq_getElem (by rw [HK1.out]; exact hlt)⟩
                          obtain ⟨p, hpi⟩ : ∃ p, p ∈ M ∧ p.id = z := by
                            have q := List.mem_of_getElem? hz
                            rw [← HKE.out] at q
                            obtain ⟨p, hp, e⟩ := List.mem_map.1 q
                            exact ⟨p, (List.mem_filter.1 hp).1, e⟩
                          have hpl : look M z = some p := by
                            rw [← hpi.2]
                            exact look_of (List.Pairwise.imp (fun h => Int.ne_of_lt h) HPM.out.1) hpi.1
                          obtain ⟨g1, rfl⟩ := row_some HB.out k0m (by omega)
                          have c1' := own_rd HB.out k0m HK1.out j z hz
                          have HAT : Keep (Calls Try.prog 12 #[pt gb, iv z] wr fun e W' => e = .returned (.tuple #[vv p.x p.y, .bool true]) ∧ wr.grownBy W' none) := ⟨by
                            have q := at_c W wr _ gb sa M z (by rw [← hpi.2]; exact (HPM.out.2 p hpi.1).1) (fr1 [_, _, _] HB.out)
                            obtain ⟨q1, q2, q3⟩ := at_of hpl
                            rw [q1, q2, q3] at q
                            exact q⟩
                          have HZ := Keep.mk hz
                          have HJ : Keep (j < n1) := ⟨hlt⟩
                          have hj0 : (0 : Int) ≤ (j : Int) := by omega
                          have hj1 : (j : Int) < (n1 : Int) := by omega
                          have hjt : ((j : Nat) : Int).toNat = j := by omega
                          have hjw : IntKind.i64.wrap ((j : Int) + 1) = ((j + 1 : Nat) : Int) := by rw [IntKind.wrap_i64]; omega
                          clear hz hpl hpi hlt hj
                          go_wp2_with fail
                          refine HAT.out.mono ?_
                          rintro e w8 ⟨rfl, g8⟩
                          have S9 := (HB.out.grown g8).newBox #[iv p.x, iv p.y] 32
                          obtain ⟨w9, hw9⟩ : ∃ w, w8.alloc (.cells #[iv p.x, iv p.y] 32) = w := ⟨_, rfl⟩
                          obtain ⟨bb, hbb⟩ : ∃ b, w8.heap.size = b := ⟨_, rfl⟩
                          rw [hw9, hbb] at S9
                          replace HB : Keep (Sep W w9 (boxA bb [iv p.x, iv p.y] 32 :: [rowV 3 1 (sl g1 n1 c1) n1 (K.map iv), boxA ob [iv s.op, iv s.id, iv s.x, iv s.y, iv s.r, iv s.n] 34, rowV 3 1 (.slice a7 n7 c7) n7 (ids.map iv), gridA gb sa M])) := ⟨S9⟩
                          clear S9 g8 HAT c1'
                          by_cases h0 : j = 0
                          · have HJ0 : Keep (decide ((0 : Int) < (j : Int)) = false ∧ decide (0 < j) = false ∧ j ≤ 0) := ⟨by subst h0; simp⟩
                            clear h0
                            go_wp2_with fail
                            refine region_X (S := fun w' => Sep W w' (boxA bb [iv p.x, iv p.y] 32 :: [rowV 3 1 (sl g1 n1 c1) n1 (K.map iv), boxA ob [iv s.op, iv s.id, iv s.x, iv s.y, iv s.r, iv s.n] 34, rowV 3 1 (.slice a7 n7 c7) n7 (ids.map iv), gridA gb sa M])) [] (by kernel_rfl) (HB.out.grown (gr_drew _ _)) (fun hHeld => ?_)
                            replace HB := Keep.mk hHeld
                            obtain ⟨W0, hW0⟩ : ∃ W_, w9.drew = W_ := ⟨_, rfl⟩
                            rw [hW0] at HB hHeld ⊢
                            clear hW0
                            refine wpAnyX_take (i := 0) (oi := _) (v := ?_) rfl (by kernel_rfl) (by kernel_rfl) (by kernel_rfl) (by kernel_rfl) (by kernel_rfl) (fun _ _ _ h => h) (Or.inl ⟨by rfl, ?_⟩) (by assumption) ?_
                            rotate_left
                            · (intro w hSw; go_simp; first | done | (with_reducible rfl))
                            simp only [Act.put, List.getElem_toArray, List.getElem_cons_zero, List.setIfInBounds_toArray, List.set_cons_zero, List.set_cons_succ]
                            refine wpAnyX_take (i := 1) (oi := _) (v := ?_) rfl (by kernel_rfl) (by kernel_rfl) (by kernel_rfl) (by kernel_rfl) (by kernel_rfl) (fun _ _ _ h => h) (Or.inl ⟨by rfl, ?_⟩) (by assumption) ?_
                            rotate_left
                            · (intro w hSw; go_simp; first | done | (with_reducible rfl))
                            simp only [Act.put, List.getElem_toArray, List.getElem_cons_succ, List.getElem_cons_zero, List.setIfInBounds_toArray, List.set_cons_zero, List.set_cons_succ]
                            refine wpAnyX_take (i := 2) (oi := _) (v := ?_) rfl (by kernel_rfl) (by kernel_rfl) (by kernel_rfl) (by kernel_rfl) (by kernel_rfl) (fun _ _ _ h => h) (Or.inl ⟨by rfl, ?_⟩) (by assumption) ?_
                            rotate_left
                            · (intro w hSw; go_simp; first | done | (with_reducible rfl))
                            simp only [Act.put, List.getElem_toArray, List.getElem_cons_succ, List.getElem_cons_zero, List.setIfInBounds_toArray, List.set_cons_zero, List.set_cons_succ]
                            refine wpAnyX_take (i := 3) (oi := _) (v := ?_) rfl (by kernel_rfl) (by kernel_rfl) (by kernel_rfl) (by kernel_rfl) (by kernel_rfl) (fun _ _ _ h => h) (Or.inl ⟨by rfl, ?_⟩) (by assumption) ?_
                            rotate_left
                            · (intro w hSw; go_simp; first | done | (with_reducible rfl))
                            simp only [Act.put, List.getElem_toArray, List.getElem_cons_succ, List.getElem_cons_zero, List.setIfInBounds_toArray, List.set_cons_zero, List.set_cons_succ]
                            refine wpAnyX_take (i := 4) (oi := _) (v := .bool false) rfl (by kernel_rfl) (by kernel_rfl) (by kernel_rfl) (by kernel_rfl) (by kernel_rfl) (fun _ _ _ h => h) (Or.inl ⟨by rfl, ?_⟩) (by assumption) ?_
                            · (intro w hSw; have q4 := HJ0.out; go_simp; first | done | rfl | (simp; done) | trace_state)
                            simp only [Act.put, List.getElem_toArray, List.getElem_cons_succ, List.getElem_cons_zero, List.setIfInBounds_toArray, List.set_cons_zero, List.set_cons_succ]
                            refine wpAnyX_take (i := 5) (oi := _) (v := ?_) rfl (by kernel_rfl) (by kernel_rfl) (by kernel_rfl) (by kernel_rfl) (by kernel_rfl) (fun _ _ _ h => h) (Or.inl ⟨by rfl, ?_⟩) (by assumption) ?_
                            rotate_left
                            · (intro w hSw; go_simp; first | done | (with_reducible rfl))
                            simp only [Act.put, List.getElem_toArray, List.getElem_cons_succ, List.getElem_cons_zero, List.setIfInBounds_toArray, List.set_cons_zero, List.set_cons_succ]
                            refine wpAnyX_take (i := 6) (oi := _) (v := undef) rfl (by kernel_rfl) (by kernel_rfl) (by kernel_rfl) (by kernel_rfl) (by kernel_rfl) (fun _ _ _ h => h) (Or.inr ⟨by rfl, rfl⟩) (by assumption) ?_
                            simp only [Act.put, List.getElem_toArray, List.getElem_cons_succ, List.getElem_cons_zero, List.setIfInBounds_toArray, List.set_cons_zero, List.set_cons_succ]
                            refine wpAnyX_take (i := 7) (oi := _) (v := undef) rfl (by kernel_rfl) (by kernel_rfl) (by kernel_rfl) (by kernel_rfl) (by kernel_rfl) (fun _ _ _ h => h) (Or.inr ⟨by rfl, rfl⟩) (by assumption) ?_
                            simp only [Act.put, List.getElem_toArray, List.getElem_cons_succ, List.getElem_cons_zero, List.setIfInBounds_toArray, List.set_cons_zero, List.set_cons_succ]
                            refine wpAnyX_take (i := 8) (oi := _) (v := undef) rfl (by kernel_rfl) (by kernel_rfl) (by kernel_rfl) (by kernel_rfl) (by kernel_rfl) (fun _ _ _ h => h) (Or.inr ⟨by rfl, rfl⟩) (by assumption) ?_
                            simp only [Act.put, List.getElem_toArray, List.getElem_cons_succ, List.getElem_cons_zero, List.setIfInBounds_toArray, List.set_cons_zero, List.set_cons_succ]
                            refine wpAnyX_take (i := 9) (oi := _) (v := undef) rfl (by kernel_rfl) (by kernel_rfl) (by kernel_rfl) (by kernel_rfl) (by kernel_rfl) (fun _ _ _ h => h) (Or.inr ⟨by rfl, rfl⟩) (by assumption) ?_
                            simp only [Act.put, List.getElem_toArray, List.getElem_cons_succ, List.getElem_cons_zero, List.setIfInBounds_toArray, List.set_cons_zero, List.set_cons_succ]
                            refine wpAnyX_take (i := 10) (oi := _) (v := undef) rfl (by kernel_rfl) (by kernel_rfl) (by kernel_rfl) (by kernel_rfl) (by kernel_rfl) (fun _ _ _ h => h) (Or.inr ⟨by rfl, rfl⟩) (by assumption) ?_
                            simp only [Act.put, List.getElem_toArray, List.getElem_cons_succ, List.getElem_cons_zero, List.setIfInBounds_toArray, List.set_cons_zero, List.set_cons_succ]
                            refine wpAnyX_take (i := 11) (oi := _) (v := undef) rfl (by kernel_rfl) (by kernel_rfl) (by kernel_rfl) (by kernel_rfl) (by kernel_rfl) (fun _ _ _ h => h) (Or.inr ⟨by rfl, rfl⟩) (by assumption) ?_
                            simp only [Act.put, List.getElem_toArray, List.getElem_cons_succ, List.getElem_cons_zero, List.setIfInBounds_toArray, List.set_cons_zero, List.set_cons_succ]
                            refine wpAnyX_take (i := 12) (oi := _) (v := undef) rfl (by kernel_rfl) (by kernel_rfl) (by kernel_rfl) (by kernel_rfl) (by kernel_rfl) (fun _ _ _ h => h) (Or.inr ⟨by rfl, rfl⟩) (by assumption) ?_
                            simp only [Act.put, List.getElem_toArray, List.getElem_cons_succ, List.getElem_cons_zero, List.setIfInBounds_toArray, List.set_cons_zero, List.set_cons_succ]
                            refine wpAnyX_take (i := 13) (oi := _) (v := undef) rfl (by kernel_rfl) (by kernel_rfl) (by kernel_rfl) (by kernel_rfl) (by kernel_rfl) (fun _ _ _ h => h) (Or.inr ⟨by rfl, rfl⟩) (by assumption) ?_
                            simp only [Act.put, List.getElem_toArray, List.getElem_cons_succ, List.getElem_cons_zero, List.setIfInBounds_toArray, List.set_cons_zero, List.set_cons_succ]
                            refine wpAnyX_take (i := 14) (oi := _) (v := undef) rfl (by kernel_rfl) (by kernel_rfl) (by kernel_rfl) (by kernel_rfl) (by kernel_rfl) (fun _ _ _ h => h) (Or.inr ⟨by rfl, rfl⟩) (by assumption) ?_
                            simp only [Act.put, List.getElem_toArray, List.getElem_cons_succ, List.getElem_cons_zero, List.setIfInBounds_toArray, List.set_cons_zero, List.set_cons_succ]
                            refine wpAnyX_take (i := 15) (oi := _) (v := undef) rfl (by kernel_rfl) (by kernel_rfl) (by kernel_rfl) (by kernel_rfl) (by kernel_rfl) (fun _ _ _ h => h) (Or.inr ⟨by rfl, rfl⟩) (by assumption) ?_
                            simp only [Act.put, List.getElem_toArray, List.getElem_cons_succ, List.getElem_cons_zero, List.setIfInBounds_toArray, List.set_cons_zero, List.set_cons_succ]
                            refine wpAnyX_take (i := 16) (oi := _) (v := .bool false) rfl (by kernel_rfl) (by kernel_rfl) (by kernel_rfl) (by kernel_rfl) (by kernel_rfl) (fun _ _ _ h => h) (Or.inl ⟨by rfl, ?_⟩) (by assumption) ?_
                            · (intro w hSw; go_simp; first | done | rfl | (simp; done) | trace_state)
                            simp only [Act.put, List.getElem_toArray, List.getElem_cons_succ, List.getElem_cons_zero, List.setIfInBounds_toArray, List.set_cons_zero, List.set_cons_succ]
                            refine wpAnyX_take (i := 17) (oi := _) (v := .bool false) rfl (by kernel_rfl) (by kernel_rfl) (by kernel_rfl) (by kernel_rfl) (by kernel_rfl) (fun _ _ _ h => h) (Or.inl ⟨by rfl, ?_⟩) (by assumption) ?_
                            · (intro w hSw; go_simp; first | done | rfl | (simp; done) | trace_state)
                            simp only [Act.put, List.getElem_toArray, List.getElem_cons_succ, List.getElem_cons_zero, List.setIfInBounds_toArray, List.set_cons_zero, List.set_cons_succ]
                            refine wpAnyX_done (by kernel_rfl) ?_ _
                            clear hHeld
                            go_wp2_with fail
                            go_roundw
                            case rel => exact ⟨j + 1, HJ.out, rfl, ⟨HB.out.tail⟩⟩
                            case measure => simp [intOf]; have := HJ.out; omega
                          · obtain ⟨j1, hj1⟩ : ∃ j1, j = j1 + 1 := ⟨j - 1, by omega⟩
                            have HJ0 : Keep (decide ((0 : Int) < (j : Int)) = true ∧ decide (0 < j) = true ∧ 0 < j) := ⟨⟨decide_eq_true (by omega), decide_eq_true (by omega), by omega⟩⟩
                            have HJ1 : Keep (IntKind.i64.wrap ((j : Int) - 1) = ((j1 : Nat) : Int)) := ⟨by rw [IntKind.wrap_i64]; omega⟩
                            obtain ⟨z1, hz1⟩ : ∃ z, K[j1]? = some z := ⟨_, List.getElem?_eq_getElem (by rw [HK1.out]; omega)⟩
                            have HZ1 := Keep.mk hz1
                            have HDD : Keep (decide (z ≤ z1) = false) := ⟨decide_eq_false (by
                              have q := nrL_srt HPM.out.1 s.x s.y s.r
                              rw [HKE.out] at q
                              obtain ⟨i1, e1⟩ := List.getElem?_eq_some_iff.1 hz1
                              obtain ⟨i2, e2⟩ := List.getElem?_eq_some_iff.1 HZ.out
                              have := List.pairwise_iff_getElem.1 q j1 j i1 i2 (by omega)
                              rw [e1, e2] at this
                              omega)⟩
                            have hj1a : (0 : Int) ≤ (j1 : Int) := by omega
                            have hj1b : (j1 : Int) < (n1 : Int) := by omega
                            have hj1c : ((j1 : Nat) : Int).toNat = j1 := by omega
                            clear hz1 hj1 h0
                            go_wp2_with fail
                            refine region_X (S := fun w' => Sep W w' (boxA bb [iv p.x, iv p.y] 32 :: [rowV 3 1 (sl g1 n1 c1) n1 (K.map iv), boxA ob [iv s.op, iv s.id, iv s.x, iv s.y, iv s.r, iv s.n] 34, rowV 3 1 (.slice a7 n7 c7) n7 (ids.map iv), gridA gb sa M])) [] (by kernel_rfl) (HB.out.grown (gr_drew _ _)) (fun hHeld => ?_)
                            replace HB := Keep.mk hHeld
                            obtain ⟨W0, hW0⟩ : ∃ W_, w9.drew = W_ := ⟨_, rfl⟩
                            rw [hW0] at HB hHeld ⊢
                            clear hW0
                            refine wpAnyX_take (i := 0) (oi := _) (v := ?_) rfl (by kernel_rfl) (by kernel_rfl) (by kernel_rfl) (by kernel_rfl) (by kernel_rfl) (fun _ _ _ h => h) (Or.inl ⟨by rfl, ?_⟩) (by assumption) ?_
                            rotate_left
                            · (intro w hSw; go_simp; first | done | (with_reducible rfl))
                            simp only [Act.put, List.getElem_toArray, List.getElem_cons_zero, List.setIfInBounds_toArray, List.set_cons_zero, List.set_cons_succ]
                            refine wpAnyX_take (i := 1) (oi := _) (v := ?_) rfl (by kernel_rfl) (by kernel_rfl) (by kernel_rfl) (by kernel_rfl) (by kernel_rfl) (fun _ _ _ h => h) (Or.inl ⟨by rfl, ?_⟩) (by assumption) ?_
                            rotate_left
                            · (intro w hSw; go_simp; first | done | (with_reducible rfl))
                            simp only [Act.put, List.getElem_toArray, List.getElem_cons_succ, List.getElem_cons_zero, List.setIfInBounds_toArray, List.set_cons_zero, List.set_cons_succ]
                            refine wpAnyX_take (i := 2) (oi := _) (v := ?_) rfl (by kernel_rfl) (by kernel_rfl) (by kernel_rfl) (by kernel_rfl) (by kernel_rfl) (fun _ _ _ h => h) (Or.inl ⟨by rfl, ?_⟩) (by assumption) ?_
                            rotate_left
                            · (intro w hSw; go_simp; first | done | (with_reducible rfl))
                            simp only [Act.put, List.getElem_toArray, List.getElem_cons_succ, List.getElem_cons_zero, List.setIfInBounds_toArray, List.set_cons_zero, List.set_cons_succ]
                            refine wpAnyX_take (i := 3) (oi := _) (v := ?_) rfl (by kernel_rfl) (by kernel_rfl) (by kernel_rfl) (by kernel_rfl) (by kernel_rfl) (fun _ _ _ h => h) (Or.inl ⟨by rfl, ?_⟩) (by assumption) ?_
                            rotate_left
                            · (intro w hSw; go_simp; first | done | (with_reducible rfl))
                            simp only [Act.put, List.getElem_toArray, List.getElem_cons_succ, List.getElem_cons_zero, List.setIfInBounds_toArray, List.set_cons_zero, List.set_cons_succ]
                            refine wpAnyX_take (i := 4) (oi := _) (v := .bool true) rfl (by kernel_rfl) (by kernel_rfl) (by kernel_rfl) (by kernel_rfl) (by kernel_rfl) (fun _ _ _ h => h) (Or.inl ⟨by rfl, ?_⟩) (by assumption) ?_
                            · (intro w hSw; have q4 := HJ0.out; go_simp; first | done | rfl | (simp; done) | trace_state)
                            simp only [Act.put, List.getElem_toArray, List.getElem_cons_succ, List.getElem_cons_zero, List.setIfInBounds_toArray, List.set_cons_zero, List.set_cons_succ]
                            refine wpAnyX_take (i := 5) (oi := _) (v := ?_) rfl (by kernel_rfl) (by kernel_rfl) (by kernel_rfl) (by kernel_rfl) (by kernel_rfl) (fun _ _ _ h => h) (Or.inl ⟨by rfl, ?_⟩) (by assumption) ?_
                            rotate_left
                            · (intro w hSw; go_simp; first | done | (with_reducible rfl))
                            simp only [Act.put, List.getElem_toArray, List.getElem_cons_succ, List.getElem_cons_zero, List.setIfInBounds_toArray, List.set_cons_zero, List.set_cons_succ]
                            refine wpAnyX_take (i := 6) (oi := _) (v := ?_) rfl (by kernel_rfl) (by kernel_rfl) (by kernel_rfl) (by kernel_rfl) (by kernel_rfl) (fun _ _ _ h => h) (Or.inl ⟨by rfl, ?_⟩) (by assumption) ?_
                            rotate_left
                            · (intro w hSw; go_simp; first | done | (with_reducible rfl))
                            simp only [Act.put, List.getElem_toArray, List.getElem_cons_succ, List.getElem_cons_zero, List.setIfInBounds_toArray, List.set_cons_zero, List.set_cons_succ]
                            refine wpAnyX_take (i := 7) (oi := _) (v := ?_) rfl (by kernel_rfl) (by kernel_rfl) (by kernel_rfl) (by kernel_rfl) (by kernel_rfl) (fun _ _ _ h => h) (Or.inl ⟨by rfl, ?_⟩) (by assumption) ?_
                            rotate_left
                            · (intro w hSw; go_simp; first | done | (with_reducible rfl))
                            simp only [Act.put, List.getElem_toArray, List.getElem_cons_succ, List.getElem_cons_zero, List.setIfInBounds_toArray, List.set_cons_zero, List.set_cons_succ]
                            refine wpAnyX_take (i := 8) (oi := _) (v := ?_) rfl (by kernel_rfl) (by kernel_rfl) (by kernel_rfl) (by kernel_rfl) (by kernel_rfl) (fun _ _ _ h => h) (Or.inl ⟨by rfl, ?_⟩) (by assumption) ?_
                            rotate_left
                            · (intro w hSw; have q8 := HJ1.out; go_simp; first | done | (with_reducible rfl))
                            simp only [Act.put, List.getElem_toArray, List.getElem_cons_succ, List.getElem_cons_zero, List.setIfInBounds_toArray, List.set_cons_zero, List.set_cons_succ]
                            refine wpAnyX_take (i := 9) (oi := _) (v := ?_) rfl (by kernel_rfl) (by kernel_rfl) (by kernel_rfl) (by kernel_rfl) (by kernel_rfl) (fun _ _ _ h => h) (Or.inl ⟨by rfl, ?_⟩) (by assumption) ?_
                            rotate_left
                            · (intro w hSw; go_simp; first | done | (with_reducible rfl))
                            simp only [Act.put, List.getElem_toArray, List.getElem_cons_succ, List.getElem_cons_zero, List.setIfInBounds_toArray, List.set_cons_zero, List.set_cons_succ]
                            refine wpAnyX_take (i := 10) (oi := _) (v := ?_) rfl (by kernel_rfl) (by kernel_rfl) (by kernel_rfl) (by kernel_rfl) (by kernel_rfl) (fun _ _ _ h => h) (Or.inl ⟨by rfl, ?_⟩) (by assumption) ?_
                            rotate_left
                            · (intro w hSw; have q0 := own_rd hSw k1m HK1.out j1 z1 HZ1.out; go_simp; first | done | (with_reducible rfl))
                            simp only [Act.put, List.getElem_toArray, List.getElem_cons_succ, List.getElem_cons_zero, List.setIfInBounds_toArray, List.set_cons_zero, List.set_cons_succ]
                            refine wpAnyX_take (i := 11) (oi := _) (v := ?_) rfl (by kernel_rfl) (by kernel_rfl) (by kernel_rfl) (by kernel_rfl) (by kernel_rfl) (fun _ _ _ h => h) (Or.inl ⟨by rfl, ?_⟩) (by assumption) ?_
                            rotate_left
                            · (intro w hSw; go_simp; first | done | (with_reducible rfl))
                            simp only [Act.put, List.getElem_toArray, List.getElem_cons_succ, List.getElem_cons_zero, List.setIfInBounds_toArray, List.set_cons_zero, List.set_cons_succ]
                            refine wpAnyX_take (i := 12) (oi := _) (v := ?_) rfl (by kernel_rfl) (by kernel_rfl) (by kernel_rfl) (by kernel_rfl) (by kernel_rfl) (fun _ _ _ h => h) (Or.inl ⟨by rfl, ?_⟩) (by assumption) ?_
                            rotate_left
                            · (intro w hSw; go_simp; first | done | (with_reducible rfl))
                            simp only [Act.put, List.getElem_toArray, List.getElem_cons_succ, List.getElem_cons_zero, List.setIfInBounds_toArray, List.set_cons_zero, List.set_cons_succ]
                            refine wpAnyX_take (i := 13) (oi := _) (v := ?_) rfl (by kernel_rfl) (by kernel_rfl) (by kernel_rfl) (by kernel_rfl) (by kernel_rfl) (fun _ _ _ h => h) (Or.inl ⟨by rfl, ?_⟩) (by assumption) ?_
                            rotate_left
                            · (intro w hSw; go_simp; first | done | (with_reducible rfl))
                            simp only [Act.put, List.getElem_toArray, List.getElem_cons_succ, List.getElem_cons_zero, List.setIfInBounds_toArray, List.set_cons_zero, List.set_cons_succ]
                            refine wpAnyX_take (i := 14) (oi := _) (v := ?_) rfl (by kernel_rfl) (by kernel_rfl) (by kernel_rfl) (by kernel_rfl) (by kernel_rfl) (fun _ _ _ h => h) (Or.inl ⟨by rfl, ?_⟩) (by assumption) ?_
                            rotate_left
                            · (intro w hSw; have q0 := own_rd hSw k1m HK1.out j z HZ.out; go_simp; first | done | (with_reducible rfl))
                            simp only [Act.put, List.getElem_toArray, List.getElem_cons_succ, List.getElem_cons_zero, List.setIfInBounds_toArray, List.set_cons_zero, List.set_cons_succ]
                            refine wpAnyX_take (i := 15) (oi := _) (v := .bool false) rfl (by kernel_rfl) (by kernel_rfl) (by kernel_rfl) (by kernel_rfl) (by kernel_rfl) (fun _ _ _ h => h) (Or.inl ⟨by rfl, ?_⟩) (by assumption) ?_
                            · (intro w hSw; have dd : decide (z ≤ z1) = false := HDD.out; go_simp; first | done | rfl | (simp; done) | trace_state)
                            simp only [Act.put, List.getElem_toArray, List.getElem_cons_succ, List.getElem_cons_zero, List.setIfInBounds_toArray, List.set_cons_zero, List.set_cons_succ]
                            refine wpAnyX_take (i := 16) (oi := _) (v := .bool false) rfl (by kernel_rfl) (by kernel_rfl) (by kernel_rfl) (by kernel_rfl) (by kernel_rfl) (fun _ _ _ h => h) (Or.inl ⟨by rfl, ?_⟩) (by assumption) ?_
                            · (intro w hSw; go_simp; first | done | rfl | (simp; done) | trace_state)
                            simp only [Act.put, List.getElem_toArray, List.getElem_cons_succ, List.getElem_cons_zero, List.setIfInBounds_toArray, List.set_cons_zero, List.set_cons_succ]
                            refine wpAnyX_take (i := 17) (oi := _) (v := .bool false) rfl (by kernel_rfl) (by kernel_rfl) (by kernel_rfl) (by kernel_rfl) (by kernel_rfl) (fun _ _ _ h => h) (Or.inl ⟨by rfl, ?_⟩) (by assumption) ?_
                            · (intro w hSw; go_simp; first | done | rfl | (simp; done) | trace_state)
                            simp only [Act.put, List.getElem_toArray, List.getElem_cons_succ, List.getElem_cons_zero, List.setIfInBounds_toArray, List.set_cons_zero, List.set_cons_succ]
                            refine wpAnyX_done (by kernel_rfl) ?_ _
                            clear hHeld
                            go_wp2_with fail
                            go_roundw
                            case rel => exact ⟨j + 1, HJ.out, rfl, ⟨HB.out.tail⟩⟩
                            case measure => simp [intOf]; have := HJ.out; omega
                        · have hj1 : ¬ (j : Int) < (n1 : Int) := by omega
                          clear hlt hj
                          have o2 := (HB.out.boxGet k1m).cellv 2 _ rfl
                          have o3 := (HB.out.boxGet k1m).cellv 3 _ rfl
                          have o4 := (HB.out.boxGet k1m).cellv 4 _ rfl
                          have o5 := (HB.out.boxGet k1m).cellv 5 _ rfl
                          go_wp2_with fail
                          refine (nearest_c W wr _ gb sa M s.x s.y s.r s.n HO.out.2.2.1 HO.out.2.2.2.1 (by have := HML.out; omega) (fr1 [_, _, _] HB.out)).mono ?_
                          rintro e w8 ⟨v20, rfl, S8⟩
                          obtain ⟨Km, hKm⟩ : ∃ K, nstL M s.x s.y s.r s.n = K := ⟨_, rfl⟩
                          have HKM := Keep.mk hKm
                          rw [hKm] at S8
                          obtain ⟨a20, c20, rfl⟩ := own_slice (S8.rowGet k0m)
                          obtain ⟨n20, hn20⟩ : ∃ n, Km.length = n := ⟨_, rfl⟩
                          have HK20 := Keep.mk hn20
                          have HN20 : Keep (n20 = min s.n.toNat n1) := ⟨by rw [← hn20, ← hKm, nst_len, HKE.out, HK1.out]⟩
                          replace HB : Keep (Sep W w8 [rowV 3 1 (.slice a20 n20 c20) n20 (Km.map iv), gridA gb sa M, rowV 3 1 (.slice a1 n1 c1) n1 (K.map iv), boxA ob [iv s.op, iv s.id, iv s.x, iv s.y, iv s.r, iv s.n] 34, rowV 3 1 (.slice a7 n7 c7) n7 (ids.map iv)]) := ⟨by
                            change Sep W w8 (rowV 3 1 (.slice a20 Km.length c20) Km.length (Km.map iv) :: _) at S8
                            rw [hn20] at S8
                            exact S8⟩
                          rw [hn20]
                          clear S8 hKm hn20 o2 o3 o4 o5
                          have o2 := (HB.out.boxGet k3m).cellv 2 _ rfl
                          have o3 := (HB.out.boxGet k3m).cellv 3 _ rfl
                          have o4 := (HB.out.boxGet k3m).cellv 4 _ rfl
                          obtain ⟨m5, hm5⟩ : ∃ m5, n1 + 5 = m5 := ⟨_, rfl⟩
                          have hw5 : IntKind.i64.wrap ((n1 : Int) + 5) = ((m5 : Nat) : Int) := by rw [IntKind.wrap_i64]; omega
                          have HM5 : Keep (((nrL M s.x s.y s.r).length : Int) ≤ (m5 : Int)) := ⟨by rw [HKE.out, HK1.out]; omega⟩
                          go_wp2_with fail
                          refine (nearest_c W w8 _ gb sa M s.x s.y s.r (m5 : Int) HO.out.2.2.1 HO.out.2.2.2.1 (by have := HML.out; omega) (fr1 [_] HB.out)).mono ?_
                          rintro e w9 ⟨v21, rfl, S8⟩
                          obtain ⟨Ka, hKa⟩ : ∃ K, nstL M s.x s.y s.r (m5 : Int) = K := ⟨_, rfl⟩
                          have HKA := Keep.mk hKa
                          rw [hKa] at S8
                          have hn21 : Ka.length = n1 := by rw [← hKa, nst_len, HKE.out, HK1.out]; omega
                          have HK21 := Keep.mk hn21
                          obtain ⟨a21, c21, rfl⟩ := own_slice (S8.rowGet k0m)
                          replace HB : Keep (Sep W w9 [rowV 3 1 (.slice a21 n1 c21) n1 (Ka.map iv), rowV 3 1 (.slice a20 n20 c20) n20 (Km.map iv), rowV 3 1 (.slice a1 n1 c1) n1 (K.map iv), boxA ob [iv s.op, iv s.id, iv s.x, iv s.y, iv s.r, iv s.n] 34, rowV 3 1 (.slice a7 n7 c7) n7 (ids.map iv), gridA gb sa M]) := ⟨by
                            change Sep W w9 (rowV 3 1 (.slice a21 Ka.length c21) Ka.length (Ka.map iv) :: _) at S8
                            rw [hn21] at S8
                            exact S8.perm (List.Perm.cons _ (List.perm_middle (l₁ := [_, _, _, _]) (a := _) (l₂ := [])).symm)⟩
                          rw [hn21]
                          clear S8 hKa hn21 o2 o3 o4 hm5
                          have o5 := (HB.out.boxGet k3m).cellv 5 _ rfl
                          go_upto_region 37 with fail
                          go_cut [246] (fun sv wx => sv = .bool false ∧ wx = w9)
                          case first =>
                            have HFI : Keep (∀ b : Bool, b = false → Value.bool b = .bool false) := ⟨fun b h => by rw [h]⟩
                            have hgt : ¬ (n1 : Int) < (n20 : Int) := by have := HN20.out; omega
                            rcases Int.lt_or_le s.n 0 with h1 | h1
                            · have e2 : ¬ (0 : Int) ≤ s.n := by omega
                              have e3 : ¬ (n1 : Int) < s.n := by omega
                              have HH1 := Keep.mk h1
                              obtain ⟨bz, hbz⟩ : ∃ b, decide (0 < n20) = b := ⟨_, rfl⟩
                              have HBZ : Keep (bz = false) := ⟨by rw [← hbz]; have q1 := HN20.out; exact decide_eq_false (by omega)⟩
                              go_wp2_with fail
                              all_goals first
                                | (exfalso; rename_i hb; rw [HBZ.out] at hb; cases hb; done)
                                | (go_meet; exact ⟨HFI.out _ (by have q1 := HN20.out; have q2 := HH1.out; have q3 := HBZ.out; first | rfl | (simp; omega) | (simp [q3]; omega) | (simp [q3]; done)), rfl⟩)
                            · have e0 : ¬ s.n < 0 := by omega
                              have HH1 := Keep.mk h1
                              rcases Int.lt_or_le (n1 : Int) s.n with h2 | h2
                              · have e1 : ¬ s.n ≤ (n1 : Int) := by omega
                                have HH2 := Keep.mk h2
                                have e2 : ((n20 : Int) == (n1 : Int)) = true := by have := HN20.out; simp; omega
                                have e3 : (n20 == n1) = true := by have := HN20.out; simp; omega
                                go_wp2_with fail
                                all_goals first
                                  | (exfalso; rename_i hb; have q1 := HN20.out; have q2 := HH1.out; have q3 := HH2.out; omega)
                                  | (go_meet; exact ⟨HFI.out _ (by have q1 := HN20.out; have q2 := HH1.out; have q3 := HH2.out; first | rfl | (simp; omega) | (simp; done)), rfl⟩)
                              · have e1 : ¬ (n1 : Int) < s.n := by omega
                                have HH2 := Keep.mk h2
                                have e2 : ((n20 : Int) == s.n) = true := by have := HN20.out; simp; omega
                                go_wp2_with fail
                                all_goals first
                                  | (exfalso; rename_i hb; have q1 := HN20.out; have q2 := HH1.out; have q3 := HH2.out; omega)
                                  | (go_meet; exact ⟨HFI.out _ (by have q1 := HN20.out; have q2 := HH1.out; have q3 := HH2.out; first | rfl | (simp; omega) | (simp; done)), rfl⟩)
                          case rest =>
                          rename World => wc
                          obtain ⟨rfl, rfl⟩ := hcut
                          clear o5
                          go_wp2_with fail
                          as_aux_lemma =>
                            go_loopw [22] (fun u22 wr => ∃ j : Nat, j ≤ n1 ∧ u22 = iv j ∧ Keep (Sep W wr [rowV 3 1 (.slice a21 n1 c21) n1 (Ka.map iv), rowV 3 1 (.slice a20 n20 c20) n20 (Km.map iv), rowV 3 1 (.slice a1 n1 c1) n1 (K.map iv), boxA ob [iv s.op, iv s.id, iv s.x, iv s.y, iv s.r, iv s.n] 34, rowV 3 1 (.slice a7 n7 c7) n7 (ids.map iv), gridA gb sa M])) (fun u22 _ => (n1 - intOf u22).toNat)
                            case atStart => exact ⟨0, by omega, rfl, HB⟩
                            case round =>
                              clear HB
                              obtain ⟨j, hj, rfl, HB⟩ := hrel
                              rename World => wr
                              by_cases hlt : j < n1
                              · obtain ⟨z, hz⟩ : ∃ z, Ka[j]? = some z := ⟨_, List.getElem?_eq_getElem (by rw [HK21.out]; exact hlt)⟩
                                obtain ⟨p, hpM, hpid, hpl, hpw⟩ := far_at HPM.out.1 HM5.out (by rw [HKA.out]; exact hz)
                                have hpi : p ∈ M ∧ p.id = z := ⟨hpM, hpid⟩
                                obtain ⟨g21, rfl⟩ := row_some HB.out k0m (by omega)
                                have c1' := own_rd HB.out k0m HK21.out j z hz
                                have HAT : Keep (Calls Try.prog 12 #[pt gb, iv z] wr fun e W' => e = .returned (.tuple #[vv p.x p.y, .bool true]) ∧ wr.grownBy W' none) := ⟨by
                                  have q := at_c W wr _ gb sa M z (by rw [← hpi.2]; exact (HPM.out.2 p hpi.1).1) (fr1 [_, _, _, _, _] HB.out)
                                  obtain ⟨q1, q2, q3⟩ := at_of hpl
                                  rw [q1, q2, q3] at q
                                  exact q⟩
                                have HPX : Keep (I64 p.x ∧ I64 p.y) := ⟨(HPM.out.2 p hpM).2⟩
                                have HWI : Keep (∀ w, Calls Try.prog 13 #[vv s.x s.y, vv p.x p.y, iv s.r] w fun e w' => e = .returned (.bool true) ∧ Gw w w') := ⟨fun w => by
                                  have q := within_c s.x s.y p.x p.y s.r HO.out.2.2.1 HO.out.2.2.2.1 HPX.out.1 HPX.out.2 w
                                  rw [hpw] at q
                                  exact q⟩
                                have HZ := Keep.mk hz
                                have HPL := Keep.mk hpl
                                have HJ : Keep (j < n1) := ⟨hlt⟩
                                have hj0 : (0 : Int) ≤ (j : Int) := by omega
                                have hj1 : (j : Int) < (n1 : Int) := by omega
                                have hjt : ((j : Nat) : Int).toNat = j := by omega
                                have hjw : IntKind.i64.wrap ((j : Int) + 1) = ((j + 1 : Nat) : Int) := by rw [IntKind.wrap_i64]; omega
                                clear hz hpl hpi hpM hpid hpw hlt hj
                                go_wp2_with fail
                                refine HAT.out.mono ?_
                                rintro e w8 ⟨rfl, g8⟩
                                have S9 := (HB.out.grown g8).newBox #[iv p.x, iv p.y] 32
                                obtain ⟨w9, hw9⟩ : ∃ w, w8.alloc (.cells #[iv p.x, iv p.y] 32) = w := ⟨_, rfl⟩
                                obtain ⟨bb, hbb⟩ : ∃ b, w8.heap.size = b := ⟨_, rfl⟩
                                rw [hw9, hbb] at S9
                                replace HB : Keep (Sep W w9 (boxA bb [iv p.x, iv p.y] 32 :: [rowV 3 1 (sl g21 n1 c21) n1 (Ka.map iv), rowV 3 1 (.slice a20 n20 c20) n20 (Km.map iv), rowV 3 1 (.slice a1 n1 c1) n1 (K.map iv), boxA ob [iv s.op, iv s.id, iv s.x, iv s.y, iv s.r, iv s.n] 34, rowV 3 1 (.slice a7 n7 c7) n7 (ids.map iv), gridA gb sa M])) := ⟨S9⟩
                                clear S9 g8 HAT c1'
                                by_cases hin : j < n20
                                · obtain ⟨g20, rfl⟩ := row_some HB.out k2m (by omega)
                                  have HIN : Keep (decide ((j : Int) < (n20 : Int)) = true ∧ decide (j < n20) = true ∧ j < n20) := ⟨⟨decide_eq_true (by omega), decide_eq_true hin, hin⟩⟩
                                  have HZM : Keep (Km[j]? = some z) := ⟨by
                                    obtain ⟨y, hy⟩ : ∃ y, Km[j]? = some y := ⟨_, List.getElem?_eq_getElem (by rw [HK20.out]; exact hin)⟩
                                    have q := nst_at (by rw [HKM.out]; exact hy) HM5.out
                                    rw [HKA.out, HZ.out] at q
                                    rw [hy, q]⟩
                                  have hin1 : (j : Int) < (n20 : Int) := by omega
                                  clear hin
                                  go_wp2_with fail
                                  refine region_X (S := fun w' => Sep W w' (boxA bb [iv p.x, iv p.y] 32 :: [rowV 3 1 (sl g21 n1 c21) n1 (Ka.map iv), rowV 3 1 (sl g20 n20 c20) n20 (Km.map iv), rowV 3 1 (.slice a1 n1 c1) n1 (K.map iv), boxA ob [iv s.op, iv s.id, iv s.x, iv s.y, iv s.r, iv s.n] 34, rowV 3 1 (.slice a7 n7 c7) n7 (ids.map iv), gridA gb sa M])) [] (by kernel_rfl) (HB.out.grown (gr_drew _ _)) (fun hHeld => ?_)
                                  replace HB := Keep.mk hHeld
                                  obtain ⟨W0, hW0⟩ : ∃ W_, w9.drew = W_ := ⟨_, rfl⟩
                                  rw [hW0] at HB hHeld ⊢
                                  clear hW0
                                  refine wpAnyX_take (i := 0) (oi := _) (v := ?_) rfl (by kernel_rfl) (by kernel_rfl) (by kernel_rfl) (by kernel_rfl) (by kernel_rfl) (fun _ _ _ h => h) (Or.inl ⟨by rfl, ?_⟩) (by assumption) ?_
                                  rotate_left
                                  · (intro w hSw; go_simp; first | done | (with_reducible rfl))
                                  simp only [Act.put, List.getElem_toArray, List.getElem_cons_zero, List.setIfInBounds_toArray, List.set_cons_zero, List.set_cons_succ]
                                  refine wpAnyX_take (i := 1) (oi := _) (v := ?_) rfl (by kernel_rfl) (by kernel_rfl) (by kernel_rfl) (by kernel_rfl) (by kernel_rfl) (fun _ _ _ h => h) (Or.inl ⟨by rfl, ?_⟩) (by assumption) ?_
                                  rotate_left
                                  · (intro w hSw; go_simp; first | done | (with_reducible rfl))
                                  simp only [Act.put, List.getElem_toArray, List.getElem_cons_succ, List.getElem_cons_zero, List.setIfInBounds_toArray, List.set_cons_zero, List.set_cons_succ]
                                  refine wpAnyX_take (i := 2) (oi := _) (v := ?_) rfl (by kernel_rfl) (by kernel_rfl) (by kernel_rfl) (by kernel_rfl) (by kernel_rfl) (fun _ _ _ h => h) (Or.inl ⟨by rfl, ?_⟩) (by assumption) ?_
                                  rotate_left
                                  · (intro w hSw; go_simp; first | done | (with_reducible rfl))
                                  simp only [Act.put, List.getElem_toArray, List.getElem_cons_succ, List.getElem_cons_zero, List.setIfInBounds_toArray, List.set_cons_zero, List.set_cons_succ]
                                  refine wpAnyX_take (i := 3) (oi := _) (v := ?_) rfl (by kernel_rfl) (by kernel_rfl) (by kernel_rfl) (by kernel_rfl) (by kernel_rfl) (fun _ _ _ h => h) (Or.inl ⟨by rfl, ?_⟩) (by assumption) ?_
                                  rotate_left
                                  · (intro w hSw; go_simp; first | done | (with_reducible rfl))
                                  simp only [Act.put, List.getElem_toArray, List.getElem_cons_succ, List.getElem_cons_zero, List.setIfInBounds_toArray, List.set_cons_zero, List.set_cons_succ]
                                  refine wpAnyX_take (i := 4) (oi := _) (v := .agg #[iv s.x, iv s.y]) rfl (by kernel_rfl) (by kernel_rfl) (by kernel_rfl) (by kernel_rfl) (by kernel_rfl) (fun _ _ _ h => h) (Or.inl ⟨by rfl, ?_⟩) (by assumption) ?_
                                  · (intro w hSw; have q2 := (hSw.boxGet k4m).cellv 2 _ rfl; have q3 := (hSw.boxGet k4m).cellv 3 _ rfl; go_simp; first | done | rfl | (simp; done) | trace_state)
                                  simp only [Act.put, List.getElem_toArray, List.getElem_cons_succ, List.getElem_cons_zero, List.setIfInBounds_toArray, List.set_cons_zero, List.set_cons_succ]
                                  refine wpAnyX_take (i := 5) (oi := _) (v := .agg #[iv p.x, iv p.y]) rfl (by kernel_rfl) (by kernel_rfl) (by kernel_rfl) (by kernel_rfl) (by kernel_rfl) (fun _ _ _ h => h) (Or.inl ⟨by rfl, ?_⟩) (by assumption) ?_
                                  · (intro w hSw; have q0 := (hSw.boxGet k0m).cellv 0 _ rfl; have q1 := (hSw.boxGet k0m).cellv 1 _ rfl; go_simp; first | done | rfl | (simp; done) | trace_state)
                                  simp only [Act.put, List.getElem_toArray, List.getElem_cons_succ, List.getElem_cons_zero, List.setIfInBounds_toArray, List.set_cons_zero, List.set_cons_succ]
                                  refine wpAnyX_take (i := 6) (oi := _) (v := ?_) rfl (by kernel_rfl) (by kernel_rfl) (by kernel_rfl) (by kernel_rfl) (by kernel_rfl) (fun _ _ _ h => h) (Or.inl ⟨by rfl, ?_⟩) (by assumption) ?_
                                  rotate_left
                                  · (intro w hSw; go_simp; first | done | (with_reducible rfl))
                                  simp only [Act.put, List.getElem_toArray, List.getElem_cons_succ, List.getElem_cons_zero, List.setIfInBounds_toArray, List.set_cons_zero, List.set_cons_succ]
                                  refine wpAnyX_take (i := 7) (oi := _) (v := ?_) rfl (by kernel_rfl) (by kernel_rfl) (by kernel_rfl) (by kernel_rfl) (by kernel_rfl) (fun _ _ _ h => h) (Or.inl ⟨by rfl, ?_⟩) (by assumption) ?_
                                  rotate_left
                                  · (intro w hSw; have q4 := (hSw.boxGet k4m).cellv 4 _ rfl; go_simp; first | done | (with_reducible rfl))
                                  simp only [Act.put, List.getElem_toArray, List.getElem_cons_succ, List.getElem_cons_zero, List.setIfInBounds_toArray, List.set_cons_zero, List.set_cons_succ]
                                  refine wpAnyX_one (i := 8) (by kernel_rfl) rfl (fun K hK => ?_)
                                  go_simp
                                  refine (HWI.out _).mono ?_
                                  rintro e wg ⟨rfl, hg⟩
                                  replace HB := Keep.mk (HB.out.grown hg.g)
                                  refine hK.out _ _ HB.out (fun hHeld => ?_)
                                  clear hK K hg
                                  refine wpAnyX_take (i := 9) (oi := _) (v := .bool false) rfl (by kernel_rfl) (by kernel_rfl) (by kernel_rfl) (by kernel_rfl) (by kernel_rfl) (fun _ _ _ h => h) (Or.inl ⟨by rfl, ?_⟩) (by assumption) ?_
                                  · (intro w hSw; go_simp; first | done | rfl | (simp; done) | trace_state)
                                  simp only [Act.put, List.getElem_toArray, List.getElem_cons_succ, List.getElem_cons_zero, List.setIfInBounds_toArray, List.set_cons_zero, List.set_cons_succ]
                                  refine wpAnyX_take (i := 10) (oi := _) (v := .bool false) rfl (by kernel_rfl) (by kernel_rfl) (by kernel_rfl) (by kernel_rfl) (by kernel_rfl) (fun _ _ _ h => h) (Or.inl ⟨by rfl, ?_⟩) (by assumption) ?_
                                  · (intro w hSw; go_simp; first | done | rfl | (simp; done) | trace_state)
                                  simp only [Act.put, List.getElem_toArray, List.getElem_cons_succ, List.getElem_cons_zero, List.setIfInBounds_toArray, List.set_cons_zero, List.set_cons_succ]
                                  refine wpAnyX_take (i := 11) (oi := _) (v := ?_) rfl (by kernel_rfl) (by kernel_rfl) (by kernel_rfl) (by kernel_rfl) (by kernel_rfl) (fun _ _ _ h => h) (Or.inl ⟨by rfl, ?_⟩) (by assumption) ?_
                                  rotate_left
                                  · (intro w hSw; go_simp; first | done | (with_reducible rfl))
                                  simp only [Act.put, List.getElem_toArray, List.getElem_cons_succ, List.getElem_cons_zero, List.setIfInBounds_toArray, List.set_cons_zero, List.set_cons_succ]
                                  refine wpAnyX_take (i := 12) (oi := _) (v := ?_) rfl (by kernel_rfl) (by kernel_rfl) (by kernel_rfl) (by kernel_rfl) (by kernel_rfl) (fun _ _ _ h => h) (Or.inl ⟨by rfl, ?_⟩) (by assumption) ?_
                                  rotate_left
                                  · (intro w hSw; go_simp; first | done | (with_reducible rfl))
                                  simp only [Act.put, List.getElem_toArray, List.getElem_cons_succ, List.getElem_cons_zero, List.setIfInBounds_toArray, List.set_cons_zero, List.set_cons_succ]
                                  refine wpAnyX_take (i := 13) (oi := _) (v := ?_) rfl (by kernel_rfl) (by kernel_rfl) (by kernel_rfl) (by kernel_rfl) (by kernel_rfl) (fun _ _ _ h => h) (Or.inl ⟨by rfl, ?_⟩) (by assumption) ?_
                                  rotate_left
                                  · (intro w hSw; go_simp; first | done | (with_reducible rfl))
                                  simp only [Act.put, List.getElem_toArray, List.getElem_cons_succ, List.getElem_cons_zero, List.setIfInBounds_toArray, List.set_cons_zero, List.set_cons_succ]
                                  refine wpAnyX_take (i := 14) (oi := _) (v := ?_) rfl (by kernel_rfl) (by kernel_rfl) (by kernel_rfl) (by kernel_rfl) (by kernel_rfl) (fun _ _ _ h => h) (Or.inl ⟨by rfl, ?_⟩) (by assumption) ?_
                                  rotate_left
                                  · (intro w hSw; go_simp; first | done | (with_reducible rfl))
                                  simp only [Act.put, List.getElem_toArray, List.getElem_cons_succ, List.getElem_cons_zero, List.setIfInBounds_toArray, List.set_cons_zero, List.set_cons_succ]
                                  refine wpAnyX_take (i := 15) (oi := _) (v := .bool true) rfl (by kernel_rfl) (by kernel_rfl) (by kernel_rfl) (by kernel_rfl) (by kernel_rfl) (fun _ _ _ h => h) (Or.inl ⟨by rfl, ?_⟩) (by assumption) ?_
                                  · (intro w hSw; have q5 := HIN.out; go_simp; first | done | rfl | (simp; done) | trace_state)
                                  simp only [Act.put, List.getElem_toArray, List.getElem_cons_succ, List.getElem_cons_zero, List.setIfInBounds_toArray, List.set_cons_zero, List.set_cons_succ]
                                  refine wpAnyX_take (i := 16) (oi := _) (v := ?_) rfl (by kernel_rfl) (by kernel_rfl) (by kernel_rfl) (by kernel_rfl) (by kernel_rfl) (fun _ _ _ h => h) (Or.inl ⟨by rfl, ?_⟩) (by assumption) ?_
                                  rotate_left
                                  · (intro w hSw; go_simp; first | done | (with_reducible rfl))
                                  simp only [Act.put, List.getElem_toArray, List.getElem_cons_succ, List.getElem_cons_zero, List.setIfInBounds_toArray, List.set_cons_zero, List.set_cons_succ]
                                  refine wpAnyX_take (i := 17) (oi := _) (v := ?_) rfl (by kernel_rfl) (by kernel_rfl) (by kernel_rfl) (by kernel_rfl) (by kernel_rfl) (fun _ _ _ h => h) (Or.inl ⟨by rfl, ?_⟩) (by assumption) ?_
                                  rotate_left
                                  · (intro w hSw; go_simp; first | done | (with_reducible rfl))
                                  simp only [Act.put, List.getElem_toArray, List.getElem_cons_succ, List.getElem_cons_zero, List.setIfInBounds_toArray, List.set_cons_zero, List.set_cons_succ]
                                  refine wpAnyX_take (i := 18) (oi := _) (v := ?_) rfl (by kernel_rfl) (by kernel_rfl) (by kernel_rfl) (by kernel_rfl) (by kernel_rfl) (fun _ _ _ h => h) (Or.inl ⟨by rfl, ?_⟩) (by assumption) ?_
                                  rotate_left
                                  · (intro w hSw; go_simp; first | done | (with_reducible rfl))
                                  simp only [Act.put, List.getElem_toArray, List.getElem_cons_succ, List.getElem_cons_zero, List.setIfInBounds_toArray, List.set_cons_zero, List.set_cons_succ]
                                  refine wpAnyX_take (i := 19) (oi := _) (v := ?_) rfl (by kernel_rfl) (by kernel_rfl) (by kernel_rfl) (by kernel_rfl) (by kernel_rfl) (fun _ _ _ h => h) (Or.inl ⟨by rfl, ?_⟩) (by assumption) ?_
                                  rotate_left
                                  · (intro w hSw; go_simp; first | done | (with_reducible rfl))
                                  simp only [Act.put, List.getElem_toArray, List.getElem_cons_succ, List.getElem_cons_zero, List.setIfInBounds_toArray, List.set_cons_zero, List.set_cons_succ]
                                  refine wpAnyX_take (i := 20) (oi := _) (v := ?_) rfl (by kernel_rfl) (by kernel_rfl) (by kernel_rfl) (by kernel_rfl) (by kernel_rfl) (fun _ _ _ h => h) (Or.inl ⟨by rfl, ?_⟩) (by assumption) ?_
                                  rotate_left
                                  · (intro w hSw; have q0 := own_rd hSw k2m HK20.out j z HZM.out; go_simp; first | done | (with_reducible rfl))
                                  simp only [Act.put, List.getElem_toArray, List.getElem_cons_succ, List.getElem_cons_zero, List.setIfInBounds_toArray, List.set_cons_zero, List.set_cons_succ]
                                  refine wpAnyX_take (i := 21) (oi := _) (v := ?_) rfl (by kernel_rfl) (by kernel_rfl) (by kernel_rfl) (by kernel_rfl) (by kernel_rfl) (fun _ _ _ h => h) (Or.inl ⟨by rfl, ?_⟩) (by assumption) ?_
                                  rotate_left
                                  · (intro w hSw; go_simp; first | done | (with_reducible rfl))
                                  simp only [Act.put, List.getElem_toArray, List.getElem_cons_succ, List.getElem_cons_zero, List.setIfInBounds_toArray, List.set_cons_zero, List.set_cons_succ]
                                  refine wpAnyX_take (i := 22) (oi := _) (v := ?_) rfl (by kernel_rfl) (by kernel_rfl) (by kernel_rfl) (by kernel_rfl) (by kernel_rfl) (fun _ _ _ h => h) (Or.inl ⟨by rfl, ?_⟩) (by assumption) ?_
                                  rotate_left
                                  · (intro w hSw; go_simp; first | done | (with_reducible rfl))
                                  simp only [Act.put, List.getElem_toArray, List.getElem_cons_succ, List.getElem_cons_zero, List.setIfInBounds_toArray, List.set_cons_zero, List.set_cons_succ]
                                  refine wpAnyX_take (i := 23) (oi := _) (v := ?_) rfl (by kernel_rfl) (by kernel_rfl) (by kernel_rfl) (by kernel_rfl) (by kernel_rfl) (fun _ _ _ h => h) (Or.inl ⟨by rfl, ?_⟩) (by assumption) ?_
                                  rotate_left
                                  · (intro w hSw; go_simp; first | done | (with_reducible rfl))
                                  simp only [Act.put, List.getElem_toArray, List.getElem_cons_succ, List.getElem_cons_zero, List.setIfInBounds_toArray, List.set_cons_zero, List.set_cons_succ]
                                  refine wpAnyX_take (i := 24) (oi := _) (v := ?_) rfl (by kernel_rfl) (by kernel_rfl) (by kernel_rfl) (by kernel_rfl) (by kernel_rfl) (fun _ _ _ h => h) (Or.inl ⟨by rfl, ?_⟩) (by assumption) ?_
                                  rotate_left
                                  · (intro w hSw; have q0 := own_rd hSw k1m HK21.out j z HZ.out; go_simp; first | done | (with_reducible rfl))
                                  simp only [Act.put, List.getElem_toArray, List.getElem_cons_succ, List.getElem_cons_zero, List.setIfInBounds_toArray, List.set_cons_zero, List.set_cons_succ]
                                  refine wpAnyX_take (i := 25) (oi := _) (v := .bool false) rfl (by kernel_rfl) (by kernel_rfl) (by kernel_rfl) (by kernel_rfl) (by kernel_rfl) (fun _ _ _ h => h) (Or.inl ⟨by rfl, ?_⟩) (by assumption) ?_
                                  · (intro w hSw; go_simp; first | done | rfl | (simp; done) | trace_state)
                                  simp only [Act.put, List.getElem_toArray, List.getElem_cons_succ, List.getElem_cons_zero, List.setIfInBounds_toArray, List.set_cons_zero, List.set_cons_succ]
                                  refine wpAnyX_take (i := 26) (oi := _) (v := .bool false) rfl (by kernel_rfl) (by kernel_rfl) (by kernel_rfl) (by kernel_rfl) (by kernel_rfl) (fun _ _ _ h => h) (Or.inl ⟨by rfl, ?_⟩) (by assumption) ?_
                                  · (intro w hSw; go_simp; first | done | rfl | (simp; done) | trace_state)
                                  simp only [Act.put, List.getElem_toArray, List.getElem_cons_succ, List.getElem_cons_zero, List.setIfInBounds_toArray, List.set_cons_zero, List.set_cons_succ]
                                  refine wpAnyX_take (i := 27) (oi := _) (v := .bool false) rfl (by kernel_rfl) (by kernel_rfl) (by kernel_rfl) (by kernel_rfl) (by kernel_rfl) (fun _ _ _ h => h) (Or.inl ⟨by rfl, ?_⟩) (by assumption) ?_
                                  · (intro w hSw; go_simp; first | done | rfl | (simp; done) | trace_state)
                                  simp only [Act.put, List.getElem_toArray, List.getElem_cons_succ, List.getElem_cons_zero, List.setIfInBounds_toArray, List.set_cons_zero, List.set_cons_succ]
                                  refine wpAnyX_done (by kernel_rfl) ?_ _
                                  as_aux_lemma =>
                                    clear hHeld
                                    by_cases h0 : j = 0
                                    · have hj0' : ¬ (0 : Int) < (j : Int) := by omega
                                      clear h0
                                      go_wp2_with fail
                                      go_roundw
                                      case rel => exact ⟨j + 1, HJ.out, rfl, ⟨HB.out.tail⟩⟩
                                      case measure => simp [intOf]; have := HJ.out; omega
                                    · obtain ⟨j1, hj1⟩ : ∃ j1, j = j1 + 1 := ⟨j - 1, by omega⟩
                                      have hj0' : (0 : Int) < (j : Int) := by omega
                                      have hjw1 : IntKind.i64.wrap ((j : Int) - 1) = ((j1 : Nat) : Int) := by rw [IntKind.wrap_i64]; omega
                                      have HJ1 : Keep (IntKind.i64.wrap ((j : Int) - 1) = ((j1 : Nat) : Int)) := ⟨hjw1⟩
                                      obtain ⟨z1, hz1⟩ : ∃ z, Ka[j1]? = some z := ⟨_, List.getElem?_eq_getElem (by rw [HK21.out]; omega)⟩
                                      have HZ1 := Keep.mk hz1
                                      obtain ⟨p1, hp1M, hp1id, hpl, _⟩ := far_at HPM.out.1 HM5.out (by rw [HKA.out]; exact hz1)
                                      have hp1i : p1 ∈ M ∧ p1.id = z1 := ⟨hp1M, hp1id⟩
                                      have HFT : Keep (d2 s.x s.y p1.x p1.y < d2 s.x s.y p.x p.y ∨ (d2 s.x s.y p1.x p1.y = d2 s.x s.y p.x p.y ∧ z1 < z)) := ⟨far_two HPM.out.1 HM5.out (by rw [HKA.out]; exact hz1) (by rw [HKA.out, ← hj1]; exact HZ.out) hpl HPL.out⟩
                                      have c1' := own_rd HB.out k1m HK21.out j1 z1 hz1
                                      have HAT : Keep (Calls Try.prog 12 #[pt gb, iv z1] wg fun e W' => e = .returned (.tuple #[vv p1.x p1.y, .bool true]) ∧ wg.grownBy W' none) := ⟨by
                                        have q := at_c W wg _ gb sa M z1 (by rw [← hp1i.2]; exact (HPM.out.2 p1 hp1i.1).1) (fr1 [_, _, _, _, _, _] HB.out)
                                        obtain ⟨q1, q2, q3⟩ := at_of hpl
                                        rw [q1, q2, q3] at q
                                        exact q⟩
                                      have HDX := Keep.mk (fun w => dist_c s.x s.y p1.x p1.y HO.out.2.2.1 HO.out.2.2.2.1 (HPM.out.2 p1 hp1M).2.1 (HPM.out.2 p1 hp1M).2.2 w)
                                      have HDY := Keep.mk (fun w => dist_c s.x s.y p.x p.y HO.out.2.2.1 HO.out.2.2.2.1 HPX.out.1 HPX.out.2 w)
                                      obtain ⟨dx, hdx⟩ : ∃ d, d2 s.x s.y p1.x p1.y = d := ⟨_, rfl⟩
                                      obtain ⟨dy, hdy⟩ : ∃ d, d2 s.x s.y p.x p.y = d := ⟨_, rfl⟩
                                      rw [hdx] at HDX HFT
                                      rw [hdy] at HDY HFT
                                      have hj1a : (0 : Int) ≤ (j1 : Int) := by omega
                                      have hj1b : (j1 : Int) < (n1 : Int) := by have := HJ.out; omega
                                      have hj1c : ((j1 : Nat) : Int).toNat = j1 := by omega
                                      clear hz1 hp1M hp1id hpl hp1i hj1 h0 hdx hdy
                                      go_wp2_with fail
                                      refine HAT.out.mono ?_
                                      rintro e w8 ⟨rfl, g8⟩
                                      have S9 := (HB.out.grown g8).newBox #[iv p1.x, iv p1.y] 32
                                      obtain ⟨wa, hwa⟩ : ∃ w, w8.alloc (.cells #[iv p1.x, iv p1.y] 32) = w := ⟨_, rfl⟩
                                      obtain ⟨bb2, hbb2⟩ : ∃ b, w8.heap.size = b := ⟨_, rfl⟩
                                      rw [hwa, hbb2] at S9
                                      replace HB : Keep (Sep W wa (boxA bb2 [iv p1.x, iv p1.y] 32 :: boxA bb [iv p.x, iv p.y] 32 :: [rowV 3 1 (sl g21 n1 c21) n1 (Ka.map iv), rowV 3 1 (sl g20 n20 c20) n20 (Km.map iv), rowV 3 1 (.slice a1 n1 c1) n1 (K.map iv), boxA ob [iv s.op, iv s.id, iv s.x, iv s.y, iv s.r, iv s.n] 34, rowV 3 1 (.slice a7 n7 c7) n7 (ids.map iv), gridA gb sa M])) := ⟨S9⟩
                                      clear S9 g8 HAT c1'
                                      have b0 := (HB.out.boxGet k0m).cellv 0 _ rfl
                                      have b1 := (HB.out.boxGet k0m).cellv 1 _ rfl
                                      have o2 := (HB.out.boxGet k5m).cellv 2 _ rfl
                                      have o3 := (HB.out.boxGet k5m).cellv 3 _ rfl
                                      go_wp2_with fail
                                      refine (HDX.out _).mono ?_
                                      rintro e wb ⟨rfl, hg⟩
                                      replace HB := Keep.mk (HB.out.grown hg.g)
                                      clear hg b0 b1 o2 o3 hwa hbb2
                                      have b0 := (HB.out.boxGet k1m).cellv 0 _ rfl
                                      have b1 := (HB.out.boxGet k1m).cellv 1 _ rfl
                                      have o2 := (HB.out.boxGet k5m).cellv 2 _ rfl
                                      have o3 := (HB.out.boxGet k5m).cellv 3 _ rfl
                                      go_wp2_with fail
                                      refine (HDY.out _).mono ?_
                                      rintro e wd ⟨rfl, hg⟩
                                      replace HB := Keep.mk (HB.out.grown hg.g)
                                      clear hg b0 b1 o2 o3 HDX HDY
                                      by_cases he : dx = dy
                                      · have HD1 : Keep (decide (dy < dx) = false) := ⟨decide_eq_false (by omega)⟩
                                        have HD2 : Keep ((dx == dy) = true) := ⟨by simp [he]⟩
                                        have HDD : Keep (decide (z ≤ z1) = false) := ⟨decide_eq_false (by have := HFT.out; omega)⟩
                                        clear he HFT
                                        go_wp2_with fail
                                        refine region_X (S := fun w' => Sep W w' (boxA bb2 [iv p1.x, iv p1.y] 32 :: boxA bb [iv p.x, iv p.y] 32 :: [rowV 3 1 (sl g21 n1 c21) n1 (Ka.map iv), rowV 3 1 (sl g20 n20 c20) n20 (Km.map iv), rowV 3 1 (.slice a1 n1 c1) n1 (K.map iv), boxA ob [iv s.op, iv s.id, iv s.x, iv s.y, iv s.r, iv s.n] 34, rowV 3 1 (.slice a7 n7 c7) n7 (ids.map iv), gridA gb sa M])) [] (by kernel_rfl) (HB.out.grown (gr_drew _ _)) (fun hHeld => ?_)
                                        replace HB := Keep.mk hHeld
                                        obtain ⟨W0, hW0⟩ : ∃ W_, wd.drew = W_ := ⟨_, rfl⟩
                                        rw [hW0] at HB hHeld ⊢
                                        clear hW0
                                        refine wpAnyX_take (i := 0) (oi := _) (v := ?_) rfl (by kernel_rfl) (by kernel_rfl) (by kernel_rfl) (by kernel_rfl) (by kernel_rfl) (fun _ _ _ h => h) (Or.inl ⟨by rfl, ?_⟩) (by assumption) ?_
                                        rotate_left
                                        · (intro w hSw; go_simp; first | done | (with_reducible rfl))
                                        simp only [Act.put, List.getElem_toArray, List.getElem_cons_zero, List.setIfInBounds_toArray, List.set_cons_zero, List.set_cons_succ]
                                        refine wpAnyX_take (i := 1) (oi := _) (v := ?_) rfl (by kernel_rfl) (by kernel_rfl) (by kernel_rfl) (by kernel_rfl) (by kernel_rfl) (fun _ _ _ h => h) (Or.inl ⟨by rfl, ?_⟩) (by assumption) ?_
                                        rotate_left
                                        · (intro w hSw; go_simp; first | done | (with_reducible rfl))
                                        simp only [Act.put, List.getElem_toArray, List.getElem_cons_succ, List.getElem_cons_zero, List.setIfInBounds_toArray, List.set_cons_zero, List.set_cons_succ]
                                        refine wpAnyX_take (i := 2) (oi := _) (v := .bool false) rfl (by kernel_rfl) (by kernel_rfl) (by kernel_rfl) (by kernel_rfl) (by kernel_rfl) (fun _ _ _ h => h) (Or.inl ⟨by rfl, ?_⟩) (by assumption) ?_
                                        · (intro w hSw; have dd := HD1.out; go_simp; first | done | rfl | (simp; done) | trace_state)
                                        simp only [Act.put, List.getElem_toArray, List.getElem_cons_succ, List.getElem_cons_zero, List.setIfInBounds_toArray, List.set_cons_zero, List.set_cons_succ]
                                        refine wpAnyX_take (i := 3) (oi := _) (v := ?_) rfl (by kernel_rfl) (by kernel_rfl) (by kernel_rfl) (by kernel_rfl) (by kernel_rfl) (fun _ _ _ h => h) (Or.inl ⟨by rfl, ?_⟩) (by assumption) ?_
                                        rotate_left
                                        · (intro w hSw; go_simp; first | done | (with_reducible rfl))
                                        simp only [Act.put, List.getElem_toArray, List.getElem_cons_succ, List.getElem_cons_zero, List.setIfInBounds_toArray, List.set_cons_zero, List.set_cons_succ]
                                        refine wpAnyX_take (i := 4) (oi := _) (v := ?_) rfl (by kernel_rfl) (by kernel_rfl) (by kernel_rfl) (by kernel_rfl) (by kernel_rfl) (fun _ _ _ h => h) (Or.inl ⟨by rfl, ?_⟩) (by assumption) ?_
                                        rotate_left
                                        · (intro w hSw; go_simp; first | done | (with_reducible rfl))
                                        simp only [Act.put, List.getElem_toArray, List.getElem_cons_succ, List.getElem_cons_zero, List.setIfInBounds_toArray, List.set_cons_zero, List.set_cons_succ]
                                        refine wpAnyX_take (i := 5) (oi := _) (v := ?_) rfl (by kernel_rfl) (by kernel_rfl) (by kernel_rfl) (by kernel_rfl) (by kernel_rfl) (fun _ _ _ h => h) (Or.inl ⟨by rfl, ?_⟩) (by assumption) ?_
                                        rotate_left
                                        · (intro w hSw; go_simp; first | done | (with_reducible rfl))
                                        simp only [Act.put, List.getElem_toArray, List.getElem_cons_succ, List.getElem_cons_zero, List.setIfInBounds_toArray, List.set_cons_zero, List.set_cons_succ]
                                        refine wpAnyX_take (i := 6) (oi := _) (v := .bool true) rfl (by kernel_rfl) (by kernel_rfl) (by kernel_rfl) (by kernel_rfl) (by kernel_rfl) (fun _ _ _ h => h) (Or.inl ⟨by rfl, ?_⟩) (by assumption) ?_
                                        · (intro w hSw; have dd := HD2.out; go_simp; first | done | rfl | (simp; done) | trace_state)
                                        simp only [Act.put, List.getElem_toArray, List.getElem_cons_succ, List.getElem_cons_zero, List.setIfInBounds_toArray, List.set_cons_zero, List.set_cons_succ]
                                        refine wpAnyX_take (i := 7) (oi := _) (v := ?_) rfl (by kernel_rfl) (by kernel_rfl) (by kernel_rfl) (by kernel_rfl) (by kernel_rfl) (fun _ _ _ h => h) (Or.inl ⟨by rfl, ?_⟩) (by assumption) ?_
                                        rotate_left
                                        · (intro w hSw; go_simp; first | done | (with_reducible rfl))
                                        simp only [Act.put, List.getElem_toArray, List.getElem_cons_succ, List.getElem_cons_zero, List.setIfInBounds_toArray, List.set_cons_zero, List.set_cons_succ]
                                        refine wpAnyX_take (i := 8) (oi := _) (v := ?_) rfl (by kernel_rfl) (by kernel_rfl) (by kernel_rfl) (by kernel_rfl) (by kernel_rfl) (fun _ _ _ h => h) (Or.inl ⟨by rfl, ?_⟩) (by assumption) ?_
                                        rotate_left
                                        · (intro w hSw; go_simp; first | done | (with_reducible rfl))
                                        simp only [Act.put, List.getElem_toArray, List.getElem_cons_succ, List.getElem_cons_zero, List.setIfInBounds_toArray, List.set_cons_zero, List.set_cons_succ]
                                        refine wpAnyX_take (i := 9) (oi := _) (v := ?_) rfl (by kernel_rfl) (by kernel_rfl) (by kernel_rfl) (by kernel_rfl) (by kernel_rfl) (fun _ _ _ h => h) (Or.inl ⟨by rfl, ?_⟩) (by assumption) ?_
                                        rotate_left
                                        · (intro w hSw; go_simp; first | done | (with_reducible rfl))
                                        simp only [Act.put, List.getElem_toArray, List.getElem_cons_succ, List.getElem_cons_zero, List.setIfInBounds_toArray, List.set_cons_zero, List.set_cons_succ]
                                        refine wpAnyX_take (i := 10) (oi := _) (v := ?_) rfl (by kernel_rfl) (by kernel_rfl) (by kernel_rfl) (by kernel_rfl) (by kernel_rfl) (fun _ _ _ h => h) (Or.inl ⟨by rfl, ?_⟩) (by assumption) ?_
                                        rotate_left
                                        · (intro w hSw; have q8 := HJ1.out; go_simp; first | done | (with_reducible rfl))
                                        simp only [Act.put, List.getElem_toArray, List.getElem_cons_succ, List.getElem_cons_zero, List.setIfInBounds_toArray, List.set_cons_zero, List.set_cons_succ]
                                        refine wpAnyX_take (i := 11) (oi := _) (v := ?_) rfl (by kernel_rfl) (by kernel_rfl) (by kernel_rfl) (by kernel_rfl) (by kernel_rfl) (fun _ _ _ h => h) (Or.inl ⟨by rfl, ?_⟩) (by assumption) ?_
                                        rotate_left
                                        · (intro w hSw; go_simp; first | done | (with_reducible rfl))
                                        simp only [Act.put, List.getElem_toArray, List.getElem_cons_succ, List.getElem_cons_zero, List.setIfInBounds_toArray, List.set_cons_zero, List.set_cons_succ]
                                        refine wpAnyX_take (i := 12) (oi := _) (v := ?_) rfl (by kernel_rfl) (by kernel_rfl) (by kernel_rfl) (by kernel_rfl) (by kernel_rfl) (fun _ _ _ h => h) (Or.inl ⟨by rfl, ?_⟩) (by assumption) ?_
                                        rotate_left
                                        · (intro w hSw; have q0 := own_rd hSw k2m HK21.out j1 z1 HZ1.out; go_simp; first | done | (with_reducible rfl))
                                        simp only [Act.put, List.getElem_toArray, List.getElem_cons_succ, List.getElem_cons_zero, List.setIfInBounds_toArray, List.set_cons_zero, List.set_cons_succ]
                                        refine wpAnyX_take (i := 13) (oi := _) (v := ?_) rfl (by kernel_rfl) (by kernel_rfl) (by kernel_rfl) (by kernel_rfl) (by kernel_rfl) (fun _ _ _ h => h) (Or.inl ⟨by rfl, ?_⟩) (by assumption) ?_
                                        rotate_left
                                        · (intro w hSw; go_simp; first | done | (with_reducible rfl))
                                        simp only [Act.put, List.getElem_toArray, List.getElem_cons_succ, List.getElem_cons_zero, List.setIfInBounds_toArray, List.set_cons_zero, List.set_cons_succ]
                                        refine wpAnyX_take (i := 14) (oi := _) (v := ?_) rfl (by kernel_rfl) (by kernel_rfl) (by kernel_rfl) (by kernel_rfl) (by kernel_rfl) (fun _ _ _ h => h) (Or.inl ⟨by rfl, ?_⟩) (by assumption) ?_
                                        rotate_left
                                        · (intro w hSw; go_simp; first | done | (with_reducible rfl))
                                        simp only [Act.put, List.getElem_toArray, List.getElem_cons_succ, List.getElem_cons_zero, List.setIfInBounds_toArray, List.set_cons_zero, List.set_cons_succ]
                                        refine wpAnyX_take (i := 15) (oi := _) (v := ?_) rfl (by kernel_rfl) (by kernel_rfl) (by kernel_rfl) (by kernel_rfl) (by kernel_rfl) (fun _ _ _ h => h) (Or.inl ⟨by rfl, ?_⟩) (by assumption) ?_
                                        rotate_left
                                        · (intro w hSw; go_simp; first | done | (with_reducible rfl))
                                        simp only [Act.put, List.getElem_toArray, List.getElem_cons_succ, List.getElem_cons_zero, List.setIfInBounds_toArray, List.set_cons_zero, List.set_cons_succ]
                                        refine wpAnyX_take (i := 16) (oi := _) (v := ?_) rfl (by kernel_rfl) (by kernel_rfl) (by kernel_rfl) (by kernel_rfl) (by kernel_rfl) (fun _ _ _ h => h) (Or.inl ⟨by rfl, ?_⟩) (by assumption) ?_
                                        rotate_left
                                        · (intro w hSw; have q0 := own_rd hSw k2m HK21.out j z HZ.out; go_simp; first | done | (with_reducible rfl))
                                        simp only [Act.put, List.getElem_toArray, List.getElem_cons_succ, List.getElem_cons_zero, List.setIfInBounds_toArray, List.set_cons_zero, List.set_cons_succ]
                                        refine wpAnyX_take (i := 17) (oi := _) (v := .bool false) rfl (by kernel_rfl) (by kernel_rfl) (by kernel_rfl) (by kernel_rfl) (by kernel_rfl) (fun _ _ _ h => h) (Or.inl ⟨by rfl, ?_⟩) (by assumption) ?_
                                        · (intro w hSw; have dd := HDD.out; go_simp; first | done | rfl | (simp; done) | trace_state)
                                        simp only [Act.put, List.getElem_toArray, List.getElem_cons_succ, List.getElem_cons_zero, List.setIfInBounds_toArray, List.set_cons_zero, List.set_cons_succ]
                                        refine wpAnyX_take (i := 18) (oi := _) (v := .bool false) rfl (by kernel_rfl) (by kernel_rfl) (by kernel_rfl) (by kernel_rfl) (by kernel_rfl) (fun _ _ _ h => h) (Or.inl ⟨by rfl, ?_⟩) (by assumption) ?_
                                        · (intro w hSw; go_simp; first | done | rfl | (simp; done) | trace_state)
                                        simp only [Act.put, List.getElem_toArray, List.getElem_cons_succ, List.getElem_cons_zero, List.setIfInBounds_toArray, List.set_cons_zero, List.set_cons_succ]
                                        refine wpAnyX_take (i := 19) (oi := _) (v := .bool false) rfl (by kernel_rfl) (by kernel_rfl) (by kernel_rfl) (by kernel_rfl) (by kernel_rfl) (fun _ _ _ h => h) (Or.inl ⟨by rfl, ?_⟩) (by assumption) ?_
                                        · (intro w hSw; go_simp; first | done | rfl | (simp; done) | trace_state)
                                        simp only [Act.put, List.getElem_toArray, List.getElem_cons_succ, List.getElem_cons_zero, List.setIfInBounds_toArray, List.set_cons_zero, List.set_cons_succ]
                                        refine wpAnyX_done (by kernel_rfl) ?_ _
                                        clear hHeld
                                        go_wp2_with fail
                                        go_roundw
                                        case rel => exact ⟨j + 1, HJ.out, rfl, ⟨HB.out.tail.tail⟩⟩
                                        case measure => simp [intOf]; have := HJ.out; omega
                                      · have HD1 : Keep (decide (dy < dx) = false) := ⟨decide_eq_false (by have := HFT.out; omega)⟩
                                        have HD2 : Keep ((dx == dy) = false) := ⟨by simp [he]⟩
                                        clear he HFT
                                        go_wp2_with fail
                                        refine region_X (S := fun w' => Sep W w' (boxA bb2 [iv p1.x, iv p1.y] 32 :: boxA bb [iv p.x, iv p.y] 32 :: [rowV 3 1 (sl g21 n1 c21) n1 (Ka.map iv), rowV 3 1 (sl g20 n20 c20) n20 (Km.map iv), rowV 3 1 (.slice a1 n1 c1) n1 (K.map iv), boxA ob [iv s.op, iv s.id, iv s.x, iv s.y, iv s.r, iv s.n] 34, rowV 3 1 (.slice a7 n7 c7) n7 (ids.map iv), gridA gb sa M])) [] (by kernel_rfl) (HB.out.grown (gr_drew _ _)) (fun hHeld => ?_)
                                        replace HB := Keep.mk hHeld
                                        obtain ⟨W0, hW0⟩ : ∃ W_, wd.drew = W_ := ⟨_, rfl⟩
                                        rw [hW0] at HB hHeld ⊢
                                        clear hW0
                                        refine wpAnyX_take (i := 0) (oi := _) (v := ?_) rfl (by kernel_rfl) (by kernel_rfl) (by kernel_rfl) (by kernel_rfl) (by kernel_rfl) (fun _ _ _ h => h) (Or.inl ⟨by rfl, ?_⟩) (by assumption) ?_
                                        rotate_left
                                        · (intro w hSw; go_simp; first | done | (with_reducible rfl))
                                        simp only [Act.put, List.getElem_toArray, List.getElem_cons_zero, List.setIfInBounds_toArray, List.set_cons_zero, List.set_cons_succ]
                                        refine wpAnyX_take (i := 1) (oi := _) (v := ?_) rfl (by kernel_rfl) (by kernel_rfl) (by kernel_rfl) (by kernel_rfl) (by kernel_rfl) (fun _ _ _ h => h) (Or.inl ⟨by rfl, ?_⟩) (by assumption) ?_
                                        rotate_left
                                        · (intro w hSw; go_simp; first | done | (with_reducible rfl))
                                        simp only [Act.put, List.getElem_toArray, List.getElem_cons_succ, List.getElem_cons_zero, List.setIfInBounds_toArray, List.set_cons_zero, List.set_cons_succ]
                                        refine wpAnyX_take (i := 2) (oi := _) (v := .bool false) rfl (by kernel_rfl) (by kernel_rfl) (by kernel_rfl) (by kernel_rfl) (by kernel_rfl) (fun _ _ _ h => h) (Or.inl ⟨by rfl, ?_⟩) (by assumption) ?_
                                        · (intro w hSw; have dd := HD1.out; go_simp; first | done | rfl | (simp; done) | trace_state)
                                        simp only [Act.put, List.getElem_toArray, List.getElem_cons_succ, List.getElem_cons_zero, List.setIfInBounds_toArray, List.set_cons_zero, List.set_cons_succ]
                                        refine wpAnyX_take (i := 3) (oi := _) (v := ?_) rfl (by kernel_rfl) (by kernel_rfl) (by kernel_rfl) (by kernel_rfl) (by kernel_rfl) (fun _ _ _ h => h) (Or.inl ⟨by rfl, ?_⟩) (by assumption) ?_
                                        rotate_left
                                        · (intro w hSw; go_simp; first | done | (with_reducible rfl))
                                        simp only [Act.put, List.getElem_toArray, List.getElem_cons_succ, List.getElem_cons_zero, List.setIfInBounds_toArray, List.set_cons_zero, List.set_cons_succ]
                                        refine wpAnyX_take (i := 4) (oi := _) (v := ?_) rfl (by kernel_rfl) (by kernel_rfl) (by kernel_rfl) (by kernel_rfl) (by kernel_rfl) (fun _ _ _ h => h) (Or.inl ⟨by rfl, ?_⟩) (by assumption) ?_
                                        rotate_left
                                        · (intro w hSw; go_simp; first | done | (with_reducible rfl))
                                        simp only [Act.put, List.getElem_toArray, List.getElem_cons_succ, List.getElem_cons_zero, List.setIfInBounds_toArray, List.set_cons_zero, List.set_cons_succ]
                                        refine wpAnyX_take (i := 5) (oi := _) (v := ?_) rfl (by kernel_rfl) (by kernel_rfl) (by kernel_rfl) (by kernel_rfl) (by kernel_rfl) (fun _ _ _ h => h) (Or.inl ⟨by rfl, ?_⟩) (by assumption) ?_
                                        rotate_left
                                        · (intro w hSw; go_simp; first | done | (with_reducible rfl))
                                        simp only [Act.put, List.getElem_toArray, List.getElem_cons_succ, List.getElem_cons_zero, List.setIfInBounds_toArray, List.set_cons_zero, List.set_cons_succ]
                                        refine wpAnyX_take (i := 6) (oi := _) (v := .bool false) rfl (by kernel_rfl) (by kernel_rfl) (by kernel_rfl) (by kernel_rfl) (by kernel_rfl) (fun _ _ _ h => h) (Or.inl ⟨by rfl, ?_⟩) (by assumption) ?_
                                        · (intro w hSw; have dd := HD2.out; go_simp; first | done | rfl | (simp; done) | trace_state)
                                        simp only [Act.put, List.getElem_toArray, List.getElem_cons_succ, List.getElem_cons_zero, List.setIfInBounds_toArray, List.set_cons_zero, List.set_cons_succ]
                                        refine wpAnyX_take (i := 7) (oi := _) (v := ?_) rfl (by kernel_rfl) (by kernel_rfl) (by kernel_rfl) (by kernel_rfl) (by kernel_rfl) (fun _ _ _ h => h) (Or.inl ⟨by rfl, ?_⟩) (by assumption) ?_
                                        rotate_left
                                        · (intro w hSw; go_simp; first | done | (with_reducible rfl))
                                        simp only [Act.put, List.getElem_toArray, List.getElem_cons_succ, List.getElem_cons_zero, List.setIfInBounds_toArray, List.set_cons_zero, List.set_cons_succ]
                                        refine wpAnyX_take (i := 8) (oi := _) (v := undef) rfl (by kernel_rfl) (by kernel_rfl) (by kernel_rfl) (by kernel_rfl) (by kernel_rfl) (fun _ _ _ h => h) (Or.inr ⟨by rfl, rfl⟩) (by assumption) ?_
                                        simp only [Act.put, List.getElem_toArray, List.getElem_cons_succ, List.getElem_cons_zero, List.setIfInBounds_toArray, List.set_cons_zero, List.set_cons_succ]
                                        refine wpAnyX_take (i := 9) (oi := _) (v := undef) rfl (by kernel_rfl) (by kernel_rfl) (by kernel_rfl) (by kernel_rfl) (by kernel_rfl) (fun _ _ _ h => h) (Or.inr ⟨by rfl, rfl⟩) (by assumption) ?_
                                        simp only [Act.put, List.getElem_toArray, List.getElem_cons_succ, List.getElem_cons_zero, List.setIfInBounds_toArray, List.set_cons_zero, List.set_cons_succ]
                                        refine wpAnyX_take (i := 10) (oi := _) (v := undef) rfl (by kernel_rfl) (by kernel_rfl) (by kernel_rfl) (by kernel_rfl) (by kernel_rfl) (fun _ _ _ h => h) (Or.inr ⟨by rfl, rfl⟩) (by assumption) ?_
                                        simp only [Act.put, List.getElem_toArray, List.getElem_cons_succ, List.getElem_cons_zero, List.setIfInBounds_toArray, List.set_cons_zero, List.set_cons_succ]
                                        refine wpAnyX_take (i := 11) (oi := _) (v := undef) rfl (by kernel_rfl) (by kernel_rfl) (by kernel_rfl) (by kernel_rfl) (by kernel_rfl) (fun _ _ _ h => h) (Or.inr ⟨by rfl, rfl⟩) (by assumption) ?_
                                        simp only [Act.put, List.getElem_toArray, List.getElem_cons_succ, List.getElem_cons_zero, List.setIfInBounds_toArray, List.set_cons_zero, List.set_cons_succ]
                                        refine wpAnyX_take (i := 12) (oi := _) (v := undef) rfl (by kernel_rfl) (by kernel_rfl) (by kernel_rfl) (by kernel_rfl) (by kernel_rfl) (fun _ _ _ h => h) (Or.inr ⟨by rfl, rfl⟩) (by assumption) ?_
                                        simp only [Act.put, List.getElem_toArray, List.getElem_cons_succ, List.getElem_cons_zero, List.setIfInBounds_toArray, List.set_cons_zero, List.set_cons_succ]
                                        refine wpAnyX_take (i := 13) (oi := _) (v := undef) rfl (by kernel_rfl) (by kernel_rfl) (by kernel_rfl) (by kernel_rfl) (by kernel_rfl) (fun _ _ _ h => h) (Or.inr ⟨by rfl, rfl⟩) (by assumption) ?_
                                        simp only [Act.put, List.getElem_toArray, List.getElem_cons_succ, List.getElem_cons_zero, List.setIfInBounds_toArray, List.set_cons_zero, List.set_cons_succ]
                                        refine wpAnyX_take (i := 14) (oi := _) (v := undef) rfl (by kernel_rfl) (by kernel_rfl) (by kernel_rfl) (by kernel_rfl) (by kernel_rfl) (fun _ _ _ h => h) (Or.inr ⟨by rfl, rfl⟩) (by assumption) ?_
                                        simp only [Act.put, List.getElem_toArray, List.getElem_cons_succ, List.getElem_cons_zero, List.setIfInBounds_toArray, List.set_cons_zero, List.set_cons_succ]
                                        refine wpAnyX_take (i := 15) (oi := _) (v := undef) rfl (by kernel_rfl) (by kernel_rfl) (by kernel_rfl) (by kernel_rfl) (by kernel_rfl) (fun _ _ _ h => h) (Or.inr ⟨by rfl, rfl⟩) (by assumption) ?_
                                        simp only [Act.put, List.getElem_toArray, List.getElem_cons_succ, List.getElem_cons_zero, List.setIfInBounds_toArray, List.set_cons_zero, List.set_cons_succ]
                                        refine wpAnyX_take (i := 16) (oi := _) (v := undef) rfl (by kernel_rfl) (by kernel_rfl) (by kernel_rfl) (by kernel_rfl) (by kernel_rfl) (fun _ _ _ h => h) (Or.inr ⟨by rfl, rfl⟩) (by assumption) ?_
                                        simp only [Act.put, List.getElem_toArray, List.getElem_cons_succ, List.getElem_cons_zero, List.setIfInBounds_toArray, List.set_cons_zero, List.set_cons_succ]
                                        refine wpAnyX_take (i := 17) (oi := _) (v := undef) rfl (by kernel_rfl) (by kernel_rfl) (by kernel_rfl) (by kernel_rfl) (by kernel_rfl) (fun _ _ _ h => h) (Or.inr ⟨by rfl, rfl⟩) (by assumption) ?_
                                        simp only [Act.put, List.getElem_toArray, List.getElem_cons_succ, List.getElem_cons_zero, List.setIfInBounds_toArray, List.set_cons_zero, List.set_cons_succ]
                                        refine wpAnyX_take (i := 18) (oi := _) (v := .bool false) rfl (by kernel_rfl) (by kernel_rfl) (by kernel_rfl) (by kernel_rfl) (by kernel_rfl) (fun _ _ _ h => h) (Or.inl ⟨by rfl, ?_⟩) (by assumption) ?_
                                        · (intro w hSw; go_simp; first | done | rfl | (simp; done) | trace_state)
                                        simp only [Act.put, List.getElem_toArray, List.getElem_cons_succ, List.getElem_cons_zero, List.setIfInBounds_toArray, List.set_cons_zero, List.set_cons_succ]
                                        refine wpAnyX_take (i := 19) (oi := _) (v := .bool false) rfl (by kernel_rfl) (by kernel_rfl) (by kernel_rfl) (by kernel_rfl) (by kernel_rfl) (fun _ _ _ h => h) (Or.inl ⟨by rfl, ?_⟩) (by assumption) ?_
                                        · (intro w hSw; go_simp; first | done | rfl | (simp; done) | trace_state)
                                        simp only [Act.put, List.getElem_toArray, List.getElem_cons_succ, List.getElem_cons_zero, List.setIfInBounds_toArray, List.set_cons_zero, List.set_cons_succ]
                                        refine wpAnyX_done (by kernel_rfl) ?_ _
                                        clear hHeld
                                        go_wp2_with fail
                                        go_roundw
                                        case rel => exact ⟨j + 1, HJ.out, rfl, ⟨HB.out.tail.tail⟩⟩
                                        case measure => simp [intOf]; have := HJ.out; omega
                                · have HIN : Keep (decide ((j : Int) < (n20 : Int)) = false ∧ decide (j < n20) = false ∧ n20 ≤ j) := ⟨⟨decide_eq_false (by omega), decide_eq_false hin, by omega⟩⟩
                                  clear hin
                                  go_wp2_with fail
                                  refine region_X (S := fun w' => Sep W w' (boxA bb [iv p.x, iv p.y] 32 :: [rowV 3 1 (sl g21 n1 c21) n1 (Ka.map iv), rowV 3 1 (.slice a20 n20 c20) n20 (Km.map iv), rowV 3 1 (.slice a1 n1 c1) n1 (K.map iv), boxA ob [iv s.op, iv s.id, iv s.x, iv s.y, iv s.r, iv s.n] 34, rowV 3 1 (.slice a7 n7 c7) n7 (ids.map iv), gridA gb sa M])) [] (by kernel_rfl) (HB.out.grown (gr_drew _ _)) (fun hHeld => ?_)
                                  replace HB := Keep.mk hHeld
                                  obtain ⟨W0, hW0⟩ : ∃ W_, w9.drew = W_ := ⟨_, rfl⟩
                                  rw [hW0] at HB hHeld ⊢
                                  clear hW0
                                  refine wpAnyX_take (i := 0) (oi := _) (v := ?_) rfl (by kernel_rfl) (by kernel_rfl) (by kernel_rfl) (by kernel_rfl) (by kernel_rfl) (fun _ _ _ h => h) (Or.inl ⟨by rfl, ?_⟩) (by assumption) ?_
                                  rotate_left
                                  · (intro w hSw; go_simp; first | done | (with_reducible rfl))
                                  simp only [Act.put, List.getElem_toArray, List.getElem_cons_zero, List.setIfInBounds_toArray, List.set_cons_zero, List.set_cons_succ]
                                  refine wpAnyX_take (i := 1) (oi := _) (v := ?_) rfl (by kernel_rfl) (by kernel_rfl) (by kernel_rfl) (by kernel_rfl) (by kernel_rfl) (fun _ _ _ h => h) (Or.inl ⟨by rfl, ?_⟩) (by assumption) ?_
                                  rotate_left
                                  · (intro w hSw; go_simp; first | done | (with_reducible rfl))
                                  simp only [Act.put, List.getElem_toArray, List.getElem_cons_succ, List.getElem_cons_zero, List.setIfInBounds_toArray, List.set_cons_zero, List.set_cons_succ]
                                  refine wpAnyX_take (i := 2) (oi := _) (v := ?_) rfl (by kernel_rfl) (by kernel_rfl) (by kernel_rfl) (by kernel_rfl) (by kernel_rfl) (fun _ _ _ h => h) (Or.inl ⟨by rfl, ?_⟩) (by assumption) ?_
                                  rotate_left
                                  · (intro w hSw; go_simp; first | done | (with_reducible rfl))
                                  simp only [Act.put, List.getElem_toArray, List.getElem_cons_succ, List.getElem_cons_zero, List.setIfInBounds_toArray, List.set_cons_zero, List.set_cons_succ]
                                  refine wpAnyX_take (i := 3) (oi := _) (v := ?_) rfl (by kernel_rfl) (by kernel_rfl) (by kernel_rfl) (by kernel_rfl) (by kernel_rfl) (fun _ _ _ h => h) (Or.inl ⟨by rfl, ?_⟩) (by assumption) ?_
                                  rotate_left
                                  · (intro w hSw; go_simp; first | done | (with_reducible rfl))
                                  simp only [Act.put, List.getElem_toArray, List.getElem_cons_succ, List.getElem_cons_zero, List.setIfInBounds_toArray, List.set_cons_zero, List.set_cons_succ]
                                  refine wpAnyX_take (i := 4) (oi := _) (v := .agg #[iv s.x, iv s.y]) rfl (by kernel_rfl) (by kernel_rfl) (by kernel_rfl) (by kernel_rfl) (by kernel_rfl) (fun _ _ _ h => h) (Or.inl ⟨by rfl, ?_⟩) (by assumption) ?_
                                  · (intro w hSw; have q2 := (hSw.boxGet k4m).cellv 2 _ rfl; have q3 := (hSw.boxGet k4m).cellv 3 _ rfl; go_simp; first | done | rfl | (simp; done) | trace_state)
                                  simp only [Act.put, List.getElem_toArray, List.getElem_cons_succ, List.getElem_cons_zero, List.setIfInBounds_toArray, List.set_cons_zero, List.set_cons_succ]
                                  refine wpAnyX_take (i := 5) (oi := _) (v := .agg #[iv p.x, iv p.y]) rfl (by kernel_rfl) (by kernel_rfl) (by kernel_rfl) (by kernel_rfl) (by kernel_rfl) (fun _ _ _ h => h) (Or.inl ⟨by rfl, ?_⟩) (by assumption) ?_
                                  · (intro w hSw; have q0 := (hSw.boxGet k0m).cellv 0 _ rfl; have q1 := (hSw.boxGet k0m).cellv 1 _ rfl; go_simp; first | done | rfl | (simp; done) | trace_state)
                                  simp only [Act.put, List.getElem_toArray, List.getElem_cons_succ, List.getElem_cons_zero, List.setIfInBounds_toArray, List.set_cons_zero, List.set_cons_succ]
                                  refine wpAnyX_take (i := 6) (oi := _) (v := ?_) rfl (by kernel_rfl) (by kernel_rfl) (by kernel_rfl) (by kernel_rfl) (by kernel_rfl) (fun _ _ _ h => h) (Or.inl ⟨by rfl, ?_⟩) (by assumption) ?_
                                  rotate_left
                                  · (intro w hSw; go_simp; first | done | (with_reducible rfl))
                                  simp only [Act.put, List.getElem_toArray, List.getElem_cons_succ, List.getElem_cons_zero, List.setIfInBounds_toArray, List.set_cons_zero, List.set_cons_succ]
                                  refine wpAnyX_take (i := 7) (oi := _) (v := ?_) rfl (by kernel_rfl) (by kernel_rfl) (by kernel_rfl) (by kernel_rfl) (by kernel_rfl) (fun _ _ _ h => h) (Or.inl ⟨by rfl, ?_⟩) (by assumption) ?_
                                  rotate_left
                                  · (intro w hSw; have q4 := (hSw.boxGet k4m).cellv 4 _ rfl; go_simp; first | done | (with_reducible rfl))
                                  simp only [Act.put, List.getElem_toArray, List.getElem_cons_succ, List.getElem_cons_zero, List.setIfInBounds_toArray, List.set_cons_zero, List.set_cons_succ]
                                  refine wpAnyX_one (i := 8) (by kernel_rfl) rfl (fun K hK => ?_)
                                  go_simp
                                  refine (HWI.out _).mono ?_
                                  rintro e wg ⟨rfl, hg⟩
                                  replace HB := Keep.mk (HB.out.grown hg.g)
                                  refine hK.out _ _ HB.out (fun hHeld => ?_)
                                  clear hK K hg
                                  refine wpAnyX_take (i := 9) (oi := _) (v := .bool false) rfl (by kernel_rfl) (by kernel_rfl) (by kernel_rfl) (by kernel_rfl) (by kernel_rfl) (fun _ _ _ h => h) (Or.inl ⟨by rfl, ?_⟩) (by assumption) ?_
                                  · (intro w hSw; go_simp; first | done | rfl | (simp; done) | trace_state)
                                  simp only [Act.put, List.getElem_toArray, List.getElem_cons_succ, List.getElem_cons_zero, List.setIfInBounds_toArray, List.set_cons_zero, List.set_cons_succ]
                                  refine wpAnyX_take (i := 10) (oi := _) (v := .bool false) rfl (by kernel_rfl) (by kernel_rfl) (by kernel_rfl) (by kernel_rfl) (by kernel_rfl) (fun _ _ _ h => h) (Or.inl ⟨by rfl, ?_⟩) (by assumption) ?_
                                  · (intro w hSw; go_simp; first | done | rfl | (simp; done) | trace_state)
                                  simp only [Act.put, List.getElem_toArray, List.getElem_cons_succ, List.getElem_cons_zero, List.setIfInBounds_toArray, List.set_cons_zero, List.set_cons_succ]
                                  refine wpAnyX_take (i := 11) (oi := _) (v := ?_) rfl (by kernel_rfl) (by kernel_rfl) (by kernel_rfl) (by kernel_rfl) (by kernel_rfl) (fun _ _ _ h => h) (Or.inl ⟨by rfl, ?_⟩) (by assumption) ?_
                                  rotate_left
                                  · (intro w hSw; go_simp; first | done | (with_reducible rfl))
                                  simp only [Act.put, List.getElem_toArray, List.getElem_cons_succ, List.getElem_cons_zero, List.setIfInBounds_toArray, List.set_cons_zero, List.set_cons_succ]
                                  refine wpAnyX_take (i := 12) (oi := _) (v := ?_) rfl (by kernel_rfl) (by kernel_rfl) (by kernel_rfl) (by kernel_rfl) (by kernel_rfl) (fun _ _ _ h => h) (Or.inl ⟨by rfl, ?_⟩) (by assumption) ?_
                                  rotate_left
                                  · (intro w hSw; go_simp; first | done | (with_reducible rfl))
                                  simp only [Act.put, List.getElem_toArray, List.getElem_cons_succ, List.getElem_cons_zero, List.setIfInBounds_toArray, List.set_cons_zero, List.set_cons_succ]
                                  refine wpAnyX_take (i := 13) (oi := _) (v := ?_) rfl (by kernel_rfl) (by kernel_rfl) (by kernel_rfl) (by kernel_rfl) (by kernel_rfl) (fun _ _ _ h => h) (Or.inl ⟨by rfl, ?_⟩) (by assumption) ?_
                                  rotate_left
                                  · (intro w hSw; go_simp; first | done | (with_reducible rfl))
                                  simp only [Act.put, List.getElem_toArray, List.getElem_cons_succ, List.getElem_cons_zero, List.setIfInBounds_toArray, List.set_cons_zero, List.set_cons_succ]
                                  refine wpAnyX_take (i := 14) (oi := _) (v := ?_) rfl (by kernel_rfl) (by kernel_rfl) (by kernel_rfl) (by kernel_rfl) (by kernel_rfl) (fun _ _ _ h => h) (Or.inl ⟨by rfl, ?_⟩) (by assumption) ?_
                                  rotate_left
                                  · (intro w hSw; go_simp; first | done | (with_reducible rfl))
                                  simp only [Act.put, List.getElem_toArray, List.getElem_cons_succ, List.getElem_cons_zero, List.setIfInBounds_toArray, List.set_cons_zero, List.set_cons_succ]
                                  refine wpAnyX_take (i := 15) (oi := _) (v := .bool false) rfl (by kernel_rfl) (by kernel_rfl) (by kernel_rfl) (by kernel_rfl) (by kernel_rfl) (fun _ _ _ h => h) (Or.inl ⟨by rfl, ?_⟩) (by assumption) ?_
                                  · (intro w hSw; have q5 := HIN.out; go_simp; first | done | rfl | (simp; done) | trace_state)
                                  simp only [Act.put, List.getElem_toArray, List.getElem_cons_succ, List.getElem_cons_zero, List.setIfInBounds_toArray, List.set_cons_zero, List.set_cons_succ]
                                  refine wpAnyX_take (i := 16) (oi := _) (v := ?_) rfl (by kernel_rfl) (by kernel_rfl) (by kernel_rfl) (by kernel_rfl) (by kernel_rfl) (fun _ _ _ h => h) (Or.inl ⟨by rfl, ?_⟩) (by assumption) ?_
                                  rotate_left
                                  · (intro w hSw; go_simp; first | done | (with_reducible rfl))
                                  simp only [Act.put, List.getElem_toArray, List.getElem_cons_succ, List.getElem_cons_zero, List.setIfInBounds_toArray, List.set_cons_zero, List.set_cons_succ]
                                  refine wpAnyX_take (i := 17) (oi := _) (v := undef) rfl (by kernel_rfl) (by kernel_rfl) (by kernel_rfl) (by kernel_rfl) (by kernel_rfl) (fun _ _ _ h => h) (Or.inr ⟨by rfl, rfl⟩) (by assumption) ?_
                                  simp only [Act.put, List.getElem_toArray, List.getElem_cons_succ, List.getElem_cons_zero, List.setIfInBounds_toArray, List.set_cons_zero, List.set_cons_succ]
                                  refine wpAnyX_take (i := 18) (oi := _) (v := undef) rfl (by kernel_rfl) (by kernel_rfl) (by kernel_rfl) (by kernel_rfl) (by kernel_rfl) (fun _ _ _ h => h) (Or.inr ⟨by rfl, rfl⟩) (by assumption) ?_
                                  simp only [Act.put, List.getElem_toArray, List.getElem_cons_succ, List.getElem_cons_zero, List.setIfInBounds_toArray, List.set_cons_zero, List.set_cons_succ]
                                  refine wpAnyX_take (i := 19) (oi := _) (v := undef) rfl (by kernel_rfl) (by kernel_rfl) (by kernel_rfl) (by kernel_rfl) (by kernel_rfl) (fun _ _ _ h => h) (Or.inr ⟨by rfl, rfl⟩) (by assumption) ?_
                                  simp only [Act.put, List.getElem_toArray, List.getElem_cons_succ, List.getElem_cons_zero, List.setIfInBounds_toArray, List.set_cons_zero, List.set_cons_succ]
                                  refine wpAnyX_take (i := 20) (oi := _) (v := undef) rfl (by kernel_rfl) (by kernel_rfl) (by kernel_rfl) (by kernel_rfl) (by kernel_rfl) (fun _ _ _ h => h) (Or.inr ⟨by rfl, rfl⟩) (by assumption) ?_
                                  simp only [Act.put, List.getElem_toArray, List.getElem_cons_succ, List.getElem_cons_zero, List.setIfInBounds_toArray, List.set_cons_zero, List.set_cons_succ]
                                  refine wpAnyX_take (i := 21) (oi := _) (v := undef) rfl (by kernel_rfl) (by kernel_rfl) (by kernel_rfl) (by kernel_rfl) (by kernel_rfl) (fun _ _ _ h => h) (Or.inr ⟨by rfl, rfl⟩) (by assumption) ?_
                                  simp only [Act.put, List.getElem_toArray, List.getElem_cons_succ, List.getElem_cons_zero, List.setIfInBounds_toArray, List.set_cons_zero, List.set_cons_succ]
                                  refine wpAnyX_take (i := 22) (oi := _) (v := undef) rfl (by kernel_rfl) (by kernel_rfl) (by kernel_rfl) (by kernel_rfl) (by kernel_rfl) (fun _ _ _ h => h) (Or.inr ⟨by rfl, rfl⟩) (by assumption) ?_
                                  simp only [Act.put, List.getElem_toArray, List.getElem_cons_succ, List.getElem_cons_zero, List.setIfInBounds_toArray, List.set_cons_zero, List.set_cons_succ]
                                  refine wpAnyX_take (i := 23) (oi := _) (v := undef) rfl (by kernel_rfl) (by kernel_rfl) (by kernel_rfl) (by kernel_rfl) (by kernel_rfl) (fun _ _ _ h => h) (Or.inr ⟨by rfl, rfl⟩) (by assumption) ?_
                                  simp only [Act.put, List.getElem_toArray, List.getElem_cons_succ, List.getElem_cons_zero, List.setIfInBounds_toArray, List.set_cons_zero, List.set_cons_succ]
                                  refine wpAnyX_take (i := 24) (oi := _) (v := undef) rfl (by kernel_rfl) (by kernel_rfl) (by kernel_rfl) (by kernel_rfl) (by kernel_rfl) (fun _ _ _ h => h) (Or.inr ⟨by rfl, rfl⟩) (by assumption) ?_
                                  simp only [Act.put, List.getElem_toArray, List.getElem_cons_succ, List.getElem_cons_zero, List.setIfInBounds_toArray, List.set_cons_zero, List.set_cons_succ]
                                  refine wpAnyX_take (i := 25) (oi := _) (v := undef) rfl (by kernel_rfl) (by kernel_rfl) (by kernel_rfl) (by kernel_rfl) (by kernel_rfl) (fun _ _ _ h => h) (Or.inr ⟨by rfl, rfl⟩) (by assumption) ?_
                                  simp only [Act.put, List.getElem_toArray, List.getElem_cons_succ, List.getElem_cons_zero, List.setIfInBounds_toArray, List.set_cons_zero, List.set_cons_succ]
                                  refine wpAnyX_take (i := 26) (oi := _) (v := .bool false) rfl (by kernel_rfl) (by kernel_rfl) (by kernel_rfl) (by kernel_rfl) (by kernel_rfl) (fun _ _ _ h => h) (Or.inl ⟨by rfl, ?_⟩) (by assumption) ?_
                                  · (intro w hSw; go_simp; first | done | rfl | (simp; done) | trace_state)
                                  simp only [Act.put, List.getElem_toArray, List.getElem_cons_succ, List.getElem_cons_zero, List.setIfInBounds_toArray, List.set_cons_zero, List.set_cons_succ]
                                  refine wpAnyX_take (i := 27) (oi := _) (v := .bool false) rfl (by kernel_rfl) (by kernel_rfl) (by kernel_rfl) (by kernel_rfl) (by kernel_rfl) (fun _ _ _ h => h) (Or.inl ⟨by rfl, ?_⟩) (by assumption) ?_
                                  · (intro w hSw; go_simp; first | done | rfl | (simp; done) | trace_state)
                                  simp only [Act.put, List.getElem_toArray, List.getElem_cons_succ, List.getElem_cons_zero, List.setIfInBounds_toArray, List.set_cons_zero, List.set_cons_succ]
                                  refine wpAnyX_done (by kernel_rfl) ?_ _
                                  as_aux_lemma =>
                                    clear hHeld
                                    by_cases h0 : j = 0
                                    · have hj0' : ¬ (0 : Int) < (j : Int) := by omega
                                      clear h0
                                      go_wp2_with fail
                                      go_roundw
                                      case rel => exact ⟨j + 1, HJ.out, rfl, ⟨HB.out.tail⟩⟩
                                      case measure => simp [intOf]; have := HJ.out; omega
                                    · obtain ⟨j1, hj1⟩ : ∃ j1, j = j1 + 1 := ⟨j - 1, by omega⟩
                                      have hj0' : (0 : Int) < (j : Int) := by omega
                                      have hjw1 : IntKind.i64.wrap ((j : Int) - 1) = ((j1 : Nat) : Int) := by rw [IntKind.wrap_i64]; omega
                                      have HJ1 : Keep (IntKind.i64.wrap ((j : Int) - 1) = ((j1 : Nat) : Int)) := ⟨hjw1⟩
                                      obtain ⟨z1, hz1⟩ : ∃ z, Ka[j1]? = some z := ⟨_, List.getElem?_eq_getElem (by rw [HK21.out]; omega)⟩
                                      have HZ1 := Keep.mk hz1
                                      obtain ⟨p1, hp1M, hp1id, hpl, _⟩ := far_at HPM.out.1 HM5.out (by rw [HKA.out]; exact hz1)
                                      have hp1i : p1 ∈ M ∧ p1.id = z1 := ⟨hp1M, hp1id⟩
                                      have HFT : Keep (d2 s.x s.y p1.x p1.y < d2 s.x s.y p.x p.y ∨ (d2 s.x s.y p1.x p1.y = d2 s.x s.y p.x p.y ∧ z1 < z)) := ⟨far_two HPM.out.1 HM5.out (by rw [HKA.out]; exact hz1) (by rw [HKA.out, ← hj1]; exact HZ.out) hpl HPL.out⟩
                                      have c1' := own_rd HB.out k1m HK21.out j1 z1 hz1
                                      have HAT : Keep (Calls Try.prog 12 #[pt gb, iv z1] wg fun e W' => e = .returned (.tuple #[vv p1.x p1.y, .bool true]) ∧ wg.grownBy W' none) := ⟨by
                                        have q := at_c W wg _ gb sa M z1 (by rw [← hp1i.2]; exact (HPM.out.2 p1 hp1i.1).1) (fr1 [_, _, _, _, _, _] HB.out)
                                        obtain ⟨q1, q2, q3⟩ := at_of hpl
                                        rw [q1, q2, q3] at q
                                        exact q⟩
                                      have HDX := Keep.mk (fun w => dist_c s.x s.y p1.x p1.y HO.out.2.2.1 HO.out.2.2.2.1 (HPM.out.2 p1 hp1M).2.1 (HPM.out.2 p1 hp1M).2.2 w)
                                      have HDY := Keep.mk (fun w => dist_c s.x s.y p.x p.y HO.out.2.2.1 HO.out.2.2.2.1 HPX.out.1 HPX.out.2 w)
                                      obtain ⟨dx, hdx⟩ : ∃ d, d2 s.x s.y p1.x p1.y = d := ⟨_, rfl⟩
                                      obtain ⟨dy, hdy⟩ : ∃ d, d2 s.x s.y p.x p.y = d := ⟨_, rfl⟩
                                      rw [hdx] at HDX HFT
                                      rw [hdy] at HDY HFT
                                      have hj1a : (0 : Int) ≤ (j1 : Int) := by omega
                                      have hj1b : (j1 : Int) < (n1 : Int) := by have := HJ.out; omega
                                      have hj1c : ((j1 : Nat) : Int).toNat = j1 := by omega
                                      clear hz1 hp1M hp1id hpl hp1i hj1 h0 hdx hdy
                                      go_wp2_with fail
                                      refine HAT.out.mono ?_
                                      rintro e w8 ⟨rfl, g8⟩
                                      have S9 := (HB.out.grown g8).newBox #[iv p1.x, iv p1.y] 32
                                      obtain ⟨wa, hwa⟩ : ∃ w, w8.alloc (.cells #[iv p1.x, iv p1.y] 32) = w := ⟨_, rfl⟩
                                      obtain ⟨bb2, hbb2⟩ : ∃ b, w8.heap.size = b := ⟨_, rfl⟩
                                      rw [hwa, hbb2] at S9
                                      replace HB : Keep (Sep W wa (boxA bb2 [iv p1.x, iv p1.y] 32 :: boxA bb [iv p.x, iv p.y] 32 :: [rowV 3 1 (sl g21 n1 c21) n1 (Ka.map iv), rowV 3 1 (.slice a20 n20 c20) n20 (Km.map iv), rowV 3 1 (.slice a1 n1 c1) n1 (K.map iv), boxA ob [iv s.op, iv s.id, iv s.x, iv s.y, iv s.r, iv s.n] 34, rowV 3 1 (.slice a7 n7 c7) n7 (ids.map iv), gridA gb sa M])) := ⟨S9⟩
                                      clear S9 g8 HAT c1'
                                      have b0 := (HB.out.boxGet k0m).cellv 0 _ rfl
                                      have b1 := (HB.out.boxGet k0m).cellv 1 _ rfl
                                      have o2 := (HB.out.boxGet k5m).cellv 2 _ rfl
                                      have o3 := (HB.out.boxGet k5m).cellv 3 _ rfl
                                      go_wp2_with fail
                                      refine (HDX.out _).mono ?_
                                      rintro e wb ⟨rfl, hg⟩
                                      replace HB := Keep.mk (HB.out.grown hg.g)
                                      clear hg b0 b1 o2 o3 hwa hbb2
                                      have b0 := (HB.out.boxGet k1m).cellv 0 _ rfl
                                      have b1 := (HB.out.boxGet k1m).cellv 1 _ rfl
                                      have o2 := (HB.out.boxGet k5m).cellv 2 _ rfl
                                      have o3 := (HB.out.boxGet k5m).cellv 3 _ rfl
                                      go_wp2_with fail
                                      refine (HDY.out _).mono ?_
                                      rintro e wd ⟨rfl, hg⟩
                                      replace HB := Keep.mk (HB.out.grown hg.g)
                                      clear hg b0 b1 o2 o3 HDX HDY
                                      by_cases he : dx = dy
                                      · have HD1 : Keep (decide (dy < dx) = false) := ⟨decide_eq_false (by omega)⟩
                                        have HD2 : Keep ((dx == dy) = true) := ⟨by simp [he]⟩
                                        have HDD : Keep (decide (z ≤ z1) = false) := ⟨decide_eq_false (by have := HFT.out; omega)⟩
                                        clear he HFT
                                        go_wp2_with fail
                                        refine region_X (S := fun w' => Sep W w' (boxA bb2 [iv p1.x, iv p1.y] 32 :: boxA bb [iv p.x, iv p.y] 32 :: [rowV 3 1 (sl g21 n1 c21) n1 (Ka.map iv), rowV 3 1 (.slice a20 n20 c20) n20 (Km.map iv), rowV 3 1 (.slice a1 n1 c1) n1 (K.map iv), boxA ob [iv s.op, iv s.id, iv s.x, iv s.y, iv s.r, iv s.n] 34, rowV 3 1 (.slice a7 n7 c7) n7 (ids.map iv), gridA gb sa M])) [] (by kernel_rfl) (HB.out.grown (gr_drew _ _)) (fun hHeld => ?_)
                                        replace HB := Keep.mk hHeld
                                        obtain ⟨W0, hW0⟩ : ∃ W_, wd.drew = W_ := ⟨_, rfl⟩
                                        rw [hW0] at HB hHeld ⊢
                                        clear hW0
                                        refine wpAnyX_take (i := 0) (oi := _) (v := ?_) rfl (by kernel_rfl) (by kernel_rfl) (by kernel_rfl) (by kernel_rfl) (by kernel_rfl) (fun _ _ _ h => h) (Or.inl ⟨by rfl, ?_⟩) (by assumption) ?_
                                        rotate_left
                                        · (intro w hSw; go_simp; first | done | (with_reducible rfl))
                                        simp only [Act.put, List.getElem_toArray, List.getElem_cons_zero, List.setIfInBounds_toArray, List.set_cons_zero, List.set_cons_succ]
                                        refine wpAnyX_take (i := 1) (oi := _) (v := ?_) rfl (by kernel_rfl) (by kernel_rfl) (by kernel_rfl) (by kernel_rfl) (by kernel_rfl) (fun _ _ _ h => h) (Or.inl ⟨by rfl, ?_⟩) (by assumption) ?_
                                        rotate_left
                                        · (intro w hSw; go_simp; first | done | (with_reducible rfl))
                                        simp only [Act.put, List.getElem_toArray, List.getElem_cons_succ, List.getElem_cons_zero, List.setIfInBounds_toArray, List.set_cons_zero, List.set_cons_succ]
                                        refine wpAnyX_take (i := 2) (oi := _) (v := .bool false) rfl (by kernel_rfl) (by kernel_rfl) (by kernel_rfl) (by kernel_rfl) (by kernel_rfl) (fun _ _ _ h => h) (Or.inl ⟨by rfl, ?_⟩) (by assumption) ?_
                                        · (intro w hSw; have dd := HD1.out; go_simp; first | done | rfl | (simp; done) | trace_state)
                                        simp only [Act.put, List.getElem_toArray, List.getElem_cons_succ, List.getElem_cons_zero, List.setIfInBounds_toArray, List.set_cons_zero, List.set_cons_succ]
                                        refine wpAnyX_take (i := 3) (oi := _) (v := ?_) rfl (by kernel_rfl) (by kernel_rfl) (by kernel_rfl) (by kernel_rfl) (by kernel_rfl) (fun _ _ _ h => h) (Or.inl ⟨by rfl, ?_⟩) (by assumption) ?_
                                        rotate_left
                                        · (intro w hSw; go_simp; first | done | (with_reducible rfl))
                                        simp only [Act.put, List.getElem_toArray, List.getElem_cons_succ, List.getElem_cons_zero, List.setIfInBounds_toArray, List.set_cons_zero, List.set_cons_succ]
                                        refine wpAnyX_take (i := 4) (oi := _) (v := ?_) rfl (by kernel_rfl) (by kernel_rfl) (by kernel_rfl) (by kernel_rfl) (by kernel_rfl) (fun _ _ _ h => h) (Or.inl ⟨by rfl, ?_⟩) (by assumption) ?_
                                        rotate_left
                                        · (intro w hSw; go_simp; first | done | (with_reducible rfl))
                                        simp only [Act.put, List.getElem_toArray, List.getElem_cons_succ, List.getElem_cons_zero, List.setIfInBounds_toArray, List.set_cons_zero, List.set_cons_succ]
                                        refine wpAnyX_take (i := 5) (oi := _) (v := ?_) rfl (by kernel_rfl) (by kernel_rfl) (by kernel_rfl) (by kernel_rfl) (by kernel_rfl) (fun _ _ _ h => h) (Or.inl ⟨by rfl, ?_⟩) (by assumption) ?_
                                        rotate_left
                                        · (intro w hSw; go_simp; first | done | (with_reducible rfl))
                                        simp only [Act.put, List.getElem_toArray, List.getElem_cons_succ, List.getElem_cons_zero, List.setIfInBounds_toArray, List.set_cons_zero, List.set_cons_succ]
                                        refine wpAnyX_take (i := 6) (oi := _) (v := .bool true) rfl (by kernel_rfl) (by kernel_rfl) (by kernel_rfl) (by kernel_rfl) (by kernel_rfl) (fun _ _ _ h => h) (Or.inl ⟨by rfl, ?_⟩) (by assumption) ?_
                                        · (intro w hSw; have dd := HD2.out; go_simp; first | done | rfl | (simp; done) | trace_state)
                                        simp only [Act.put, List.getElem_toArray, List.getElem_cons_succ, List.getElem_cons_zero, List.setIfInBounds_toArray, List.set_cons_zero, List.set_cons_succ]
                                        refine wpAnyX_take (i := 7) (oi := _) (v := ?_) rfl (by kernel_rfl) (by kernel_rfl) (by kernel_rfl) (by kernel_rfl) (by kernel_rfl) (fun _ _ _ h => h) (Or.inl ⟨by rfl, ?_⟩) (by assumption) ?_
                                        rotate_left
                                        · (intro w hSw; go_simp; first | done | (with_reducible rfl))
                                        simp only [Act.put, List.getElem_toArray, List.getElem_cons_succ, List.getElem_cons_zero, List.setIfInBounds_toArray, List.set_cons_zero, List.set_cons_succ]
                                        refine wpAnyX_take (i := 8) (oi := _) (v := ?_) rfl (by kernel_rfl) (by kernel_rfl) (by kernel_rfl) (by kernel_rfl) (by kernel_rfl) (fun _ _ _ h => h) (Or.inl ⟨by rfl, ?_⟩) (by assumption) ?_
                                        rotate_left
                                        · (intro w hSw; go_simp; first | done | (with_reducible rfl))
                                        simp only [Act.put, List.getElem_toArray, List.getElem_cons_succ, List.getElem_cons_zero, List.setIfInBounds_toArray, List.set_cons_zero, List.set_cons_succ]
                                        refine wpAnyX_take (i := 9) (oi := _) (v := ?_) rfl (by kernel_rfl) (by kernel_rfl) (by kernel_rfl) (by kernel_rfl) (by kernel_rfl) (fun _ _ _ h => h) (Or.inl ⟨by rfl, ?_⟩) (by assumption) ?_
                                        rotate_left
                                        · (intro w hSw; go_simp; first | done | (with_reducible rfl))
                                        simp only [Act.put, List.getElem_toArray, List.getElem_cons_succ, List.getElem_cons_zero, List.setIfInBounds_toArray, List.set_cons_zero, List.set_cons_succ]
                                        refine wpAnyX_take (i := 10) (oi := _) (v := ?_) rfl (by kernel_rfl) (by kernel_rfl) (by kernel_rfl) (by kernel_rfl) (by kernel_rfl) (fun _ _ _ h => h) (Or.inl ⟨by rfl, ?_⟩) (by assumption) ?_
                                        rotate_left
                                        · (intro w hSw; have q8 := HJ1.out; go_simp; first | done | (with_reducible rfl))
                                        simp only [Act.put, List.getElem_toArray, List.getElem_cons_succ, List.getElem_cons_zero, List.setIfInBounds_toArray, List.set_cons_zero, List.set_cons_succ]
                                        refine wpAnyX_take (i := 11) (oi := _) (v := ?_) rfl (by kernel_rfl) (by kernel_rfl) (by kernel_rfl) (by kernel_rfl) (by kernel_rfl) (fun _ _ _ h => h) (Or.inl ⟨by rfl, ?_⟩) (by assumption) ?_
                                        rotate_left
                                        · (intro w hSw; go_simp; first | done | (with_reducible rfl))
                                        simp only [Act.put, List.getElem_toArray, List.getElem_cons_succ, List.getElem_cons_zero, List.setIfInBounds_toArray, List.set_cons_zero, List.set_cons_succ]
                                        refine wpAnyX_take (i := 12) (oi := _) (v := ?_) rfl (by kernel_rfl) (by kernel_rfl) (by kernel_rfl) (by kernel_rfl) (by kernel_rfl) (fun _ _ _ h => h) (Or.inl ⟨by rfl, ?_⟩) (by assumption) ?_
                                        rotate_left
                                        · (intro w hSw; have q0 := own_rd hSw k2m HK21.out j1 z1 HZ1.out; go_simp; first | done | (with_reducible rfl))
                                        simp only [Act.put, List.getElem_toArray, List.getElem_cons_succ, List.getElem_cons_zero, List.setIfInBounds_toArray, List.set_cons_zero, List.set_cons_succ]
                                        refine wpAnyX_take (i := 13) (oi := _) (v := ?_) rfl (by kernel_rfl) (by kernel_rfl) (by kernel_rfl) (by kernel_rfl) (by kernel_rfl) (fun _ _ _ h => h) (Or.inl ⟨by rfl, ?_⟩) (by assumption) ?_
                                        rotate_left
                                        · (intro w hSw; go_simp; first | done | (with_reducible rfl))
                                        simp only [Act.put, List.getElem_toArray, List.getElem_cons_succ, List.getElem_cons_zero, List.setIfInBounds_toArray, List.set_cons_zero, List.set_cons_succ]
                                        refine wpAnyX_take (i := 14) (oi := _) (v := ?_) rfl (by kernel_rfl) (by kernel_rfl) (by kernel_rfl) (by kernel_rfl) (by kernel_rfl) (fun _ _ _ h => h) (Or.inl ⟨by rfl, ?_⟩) (by assumption) ?_
                                        rotate_left
                                        · (intro w hSw; go_simp; first | done | (with_reducible rfl))
                                        simp only [Act.put, List.getElem_toArray, List.getElem_cons_succ, List.getElem_cons_zero, List.setIfInBounds_toArray, List.set_cons_zero, List.set_cons_succ]
                                        refine wpAnyX_take (i := 15) (oi := _) (v := ?_) rfl (by kernel_rfl) (by kernel_rfl) (by kernel_rfl) (by kernel_rfl) (by kernel_rfl) (fun _ _ _ h => h) (Or.inl ⟨by rfl, ?_⟩) (by assumption) ?_
                                        rotate_left
                                        · (intro w hSw; go_simp; first | done | (with_reducible rfl))
                                        simp only [Act.put, List.getElem_toArray, List.getElem_cons_succ, List.getElem_cons_zero, List.setIfInBounds_toArray, List.set_cons_zero, List.set_cons_succ]
                                        refine wpAnyX_take (i := 16) (oi := _) (v := ?_) rfl (by kernel_rfl) (by kernel_rfl) (by kernel_rfl) (by kernel_rfl) (by kernel_rfl) (fun _ _ _ h => h) (Or.inl ⟨by rfl, ?_⟩) (by assumption) ?_
                                        rotate_left
                                        · (intro w hSw; have q0 := own_rd hSw k2m HK21.out j z HZ.out; go_simp; first | done | (with_reducible rfl))
                                        simp only [Act.put, List.getElem_toArray, List.getElem_cons_succ, List.getElem_cons_zero, List.setIfInBounds_toArray, List.set_cons_zero, List.set_cons_succ]
                                        refine wpAnyX_take (i := 17) (oi := _) (v := .bool false) rfl (by kernel_rfl) (by kernel_rfl) (by kernel_rfl) (by kernel_rfl) (by kernel_rfl) (fun _ _ _ h => h) (Or.inl ⟨by rfl, ?_⟩) (by assumption) ?_
                                        · (intro w hSw; have dd := HDD.out; go_simp; first | done | rfl | (simp; done) | trace_state)
                                        simp only [Act.put, List.getElem_toArray, List.getElem_cons_succ, List.getElem_cons_zero, List.setIfInBounds_toArray, List.set_cons_zero, List.set_cons_succ]
                                        refine wpAnyX_take (i := 18) (oi := _) (v := .bool false) rfl (by kernel_rfl) (by kernel_rfl) (by kernel_rfl) (by kernel_rfl) (by kernel_rfl) (fun _ _ _ h => h) (Or.inl ⟨by rfl, ?_⟩) (by assumption) ?_
                                        · (intro w hSw; go_simp; first | done | rfl | (simp; done) | trace_state)
                                        simp only [Act.put, List.getElem_toArray, List.getElem_cons_succ, List.getElem_cons_zero, List.setIfInBounds_toArray, List.set_cons_zero, List.set_cons_succ]
                                        refine wpAnyX_take (i := 19) (oi := _) (v := .bool false) rfl (by kernel_rfl) (by kernel_rfl) (by kernel_rfl) (by kernel_rfl) (by kernel_rfl) (fun _ _ _ h => h) (Or.inl ⟨by rfl, ?_⟩) (by assumption) ?_
                                        · (intro w hSw; go_simp; first | done | rfl | (simp; done) | trace_state)
                                        simp only [Act.put, List.getElem_toArray, List.getElem_cons_succ, List.getElem_cons_zero, List.setIfInBounds_toArray, List.set_cons_zero, List.set_cons_succ]
                                        refine wpAnyX_done (by kernel_rfl) ?_ _
                                        clear hHeld
                                        go_wp2_with fail
                                        go_roundw
                                        case rel => exact ⟨j + 1, HJ.out, rfl, ⟨HB.out.tail.tail⟩⟩
                                        case measure => simp [intOf]; have := HJ.out; omega
                                      · have HD1 : Keep (decide (dy < dx) = false) := ⟨decide_eq_false (by have := HFT.out; omega)⟩
                                        have HD2 : Keep ((dx == dy) = false) := ⟨by simp [he]⟩
                                        clear he HFT
                                        go_wp2_with fail
                                        refine region_X (S := fun w' => Sep W w' (boxA bb2 [iv p1.x, iv p1.y] 32 :: boxA bb [iv p.x, iv p.y] 32 :: [rowV 3 1 (sl g21 n1 c21) n1 (Ka.map iv), rowV 3 1 (.slice a20 n20 c20) n20 (Km.map iv), rowV 3 1 (.slice a1 n1 c1) n1 (K.map iv), boxA ob [iv s.op, iv s.id, iv s.x, iv s.y, iv s.r, iv s.n] 34, rowV 3 1 (.slice a7 n7 c7) n7 (ids.map iv), gridA gb sa M])) [] (by kernel_rfl) (HB.out.grown (gr_drew _ _)) (fun hHeld => ?_)
                                        replace HB := Keep.mk hHeld
                                        obtain ⟨W0, hW0⟩ : ∃ W_, wd.drew = W_ := ⟨_, rfl⟩
                                        rw [hW0] at HB hHeld ⊢
                                        clear hW0
                                        refine wpAnyX_take (i := 0) (oi := _) (v := ?_) rfl (by kernel_rfl) (by kernel_rfl) (by kernel_rfl) (by kernel_rfl) (by kernel_rfl) (fun _ _ _ h => h) (Or.inl ⟨by rfl, ?_⟩) (by assumption) ?_
                                        rotate_left
                                        · (intro w hSw; go_simp; first | done | (with_reducible rfl))
                                        simp only [Act.put, List.getElem_toArray, List.getElem_cons_zero, List.setIfInBounds_toArray, List.set_cons_zero, List.set_cons_succ]
                                        refine wpAnyX_take (i := 1) (oi := _) (v := ?_) rfl (by kernel_rfl) (by kernel_rfl) (by kernel_rfl) (by kernel_rfl) (by kernel_rfl) (fun _ _ _ h => h) (Or.inl ⟨by rfl, ?_⟩) (by assumption) ?_
                                        rotate_left
                                        · (intro w hSw; go_simp; first | done | (with_reducible rfl))
                                        simp only [Act.put, List.getElem_toArray, List.getElem_cons_succ, List.getElem_cons_zero, List.setIfInBounds_toArray, List.set_cons_zero, List.set_cons_succ]
                                        refine wpAnyX_take (i := 2) (oi := _) (v := .bool false) rfl (by kernel_rfl) (by kernel_rfl) (by kernel_rfl) (by kernel_rfl) (by kernel_rfl) (fun _ _ _ h => h) (Or.inl ⟨by rfl, ?_⟩) (by assumption) ?_
                                        · (intro w hSw; have dd := HD1.out; go_simp; first | done | rfl | (simp; done) | trace_state)
                                        simp only [Act.put, List.getElem_toArray, List.getElem_cons_succ, List.getElem_cons_zero, List.setIfInBounds_toArray, List.set_cons_zero, List.set_cons_succ]
                                        refine wpAnyX_take (i := 3) (oi := _) (v := ?_) rfl (by kernel_rfl) (by kernel_rfl) (by kernel_rfl) (by kernel_rfl) (by kernel_rfl) (fun _ _ _ h => h) (Or.inl ⟨by rfl, ?_⟩) (by assumption) ?_
                                        rotate_left
                                        · (intro w hSw; go_simp; first | done | (with_reducible rfl))
                                        simp only [Act.put, List.getElem_toArray, List.getElem_cons_succ, List.getElem_cons_zero, List.setIfInBounds_toArray, List.set_cons_zero, List.set_cons_succ]
                                        refine wpAnyX_take (i := 4) (oi := _) (v := ?_) rfl (by kernel_rfl) (by kernel_rfl) (by kernel_rfl) (by kernel_rfl) (by kernel_rfl) (fun _ _ _ h => h) (Or.inl ⟨by rfl, ?_⟩) (by assumption) ?_
                                        rotate_left
                                        · (intro w hSw; go_simp; first | done | (with_reducible rfl))
                                        simp only [Act.put, List.getElem_toArray, List.getElem_cons_succ, List.getElem_cons_zero, List.setIfInBounds_toArray, List.set_cons_zero, List.set_cons_succ]
                                        refine wpAnyX_take (i := 5) (oi := _) (v := ?_) rfl (by kernel_rfl) (by kernel_rfl) (by kernel_rfl) (by kernel_rfl) (by kernel_rfl) (fun _ _ _ h => h) (Or.inl ⟨by rfl, ?_⟩) (by assumption) ?_
                                        rotate_left
                                        · (intro w hSw; go_simp; first | done | (with_reducible rfl))
                                        simp only [Act.put, List.getElem_toArray, List.getElem_cons_succ, List.getElem_cons_zero, List.setIfInBounds_toArray, List.set_cons_zero, List.set_cons_succ]
                                        refine wpAnyX_take (i := 6) (oi := _) (v := .bool false) rfl (by kernel_rfl) (by kernel_rfl) (by kernel_rfl) (by kernel_rfl) (by kernel_rfl) (fun _ _ _ h => h) (Or.inl ⟨by rfl, ?_⟩) (by assumption) ?_
                                        · (intro w hSw; have dd := HD2.out; go_simp; first | done | rfl | (simp; done) | trace_state)
                                        simp only [Act.put, List.getElem_toArray, List.getElem_cons_succ, List.getElem_cons_zero, List.setIfInBounds_toArray, List.set_cons_zero, List.set_cons_succ]
                                        refine wpAnyX_take (i := 7) (oi := _) (v := ?_) rfl (by kernel_rfl) (by kernel_rfl) (by kernel_rfl) (by kernel_rfl) (by kernel_rfl) (fun _ _ _ h => h) (Or.inl ⟨by rfl, ?_⟩) (by assumption) ?_
                                        rotate_left
                                        · (intro w hSw; go_simp; first | done | (with_reducible rfl))
                                        simp only [Act.put, List.getElem_toArray, List.getElem_cons_succ, List.getElem_cons_zero, List.setIfInBounds_toArray, List.set_cons_zero, List.set_cons_succ]
                                        refine wpAnyX_take (i := 8) (oi := _) (v := undef) rfl (by kernel_rfl) (by kernel_rfl) (by kernel_rfl) (by kernel_rfl) (by kernel_rfl) (fun _ _ _ h => h) (Or.inr ⟨by rfl, rfl⟩) (by assumption) ?_
                                        simp only [Act.put, List.getElem_toArray, List.getElem_cons_succ, List.getElem_cons_zero, List.setIfInBounds_toArray, List.set_cons_zero, List.set_cons_succ]
                                        refine wpAnyX_take (i := 9) (oi := _) (v := undef) rfl (by kernel_rfl) (by kernel_rfl) (by kernel_rfl) (by kernel_rfl) (by kernel_rfl) (fun _ _ _ h => h) (Or.inr ⟨by rfl, rfl⟩) (by assumption) ?_
                                        simp only [Act.put, List.getElem_toArray, List.getElem_cons_succ, List.getElem_cons_zero, List.setIfInBounds_toArray, List.set_cons_zero, List.set_cons_succ]
                                        refine wpAnyX_take (i := 10) (oi := _) (v := undef) rfl (by kernel_rfl) (by kernel_rfl) (by kernel_rfl) (by kernel_rfl) (by kernel_rfl) (fun _ _ _ h => h) (Or.inr ⟨by rfl, rfl⟩) (by assumption) ?_
                                        simp only [Act.put, List.getElem_toArray, List.getElem_cons_succ, List.getElem_cons_zero, List.setIfInBounds_toArray, List.set_cons_zero, List.set_cons_succ]
                                        refine wpAnyX_take (i := 11) (oi := _) (v := undef) rfl (by kernel_rfl) (by kernel_rfl) (by kernel_rfl) (by kernel_rfl) (by kernel_rfl) (fun _ _ _ h => h) (Or.inr ⟨by rfl, rfl⟩) (by assumption) ?_
                                        simp only [Act.put, List.getElem_toArray, List.getElem_cons_succ, List.getElem_cons_zero, List.setIfInBounds_toArray, List.set_cons_zero, List.set_cons_succ]
                                        refine wpAnyX_take (i := 12) (oi := _) (v := undef) rfl (by kernel_rfl) (by kernel_rfl) (by kernel_rfl) (by kernel_rfl) (by kernel_rfl) (fun _ _ _ h => h) (Or.inr ⟨by rfl, rfl⟩) (by assumption) ?_
                                        simp only [Act.put, List.getElem_toArray, List.getElem_cons_succ, List.getElem_cons_zero, List.setIfInBounds_toArray, List.set_cons_zero, List.set_cons_succ]
                                        refine wpAnyX_take (i := 13) (oi := _) (v := undef) rfl (by kernel_rfl) (by kernel_rfl) (by kernel_rfl) (by kernel_rfl) (by kernel_rfl) (fun _ _ _ h => h) (Or.inr ⟨by rfl, rfl⟩) (by assumption) ?_
                                        simp only [Act.put, List.getElem_toArray, List.getElem_cons_succ, List.getElem_cons_zero, List.setIfInBounds_toArray, List.set_cons_zero, List.set_cons_succ]
                                        refine wpAnyX_take (i := 14) (oi := _) (v := undef) rfl (by kernel_rfl) (by kernel_rfl) (by kernel_rfl) (by kernel_rfl) (by kernel_rfl) (fun _ _ _ h => h) (Or.inr ⟨by rfl, rfl⟩) (by assumption) ?_
                                        simp only [Act.put, List.getElem_toArray, List.getElem_cons_succ, List.getElem_cons_zero, List.setIfInBounds_toArray, List.set_cons_zero, List.set_cons_succ]
                                        refine wpAnyX_take (i := 15) (oi := _) (v := undef) rfl (by kernel_rfl) (by kernel_rfl) (by kernel_rfl) (by kernel_rfl) (by kernel_rfl) (fun _ _ _ h => h) (Or.inr ⟨by rfl, rfl⟩) (by assumption) ?_
                                        simp only [Act.put, List.getElem_toArray, List.getElem_cons_succ, List.getElem_cons_zero, List.setIfInBounds_toArray, List.set_cons_zero, List.set_cons_succ]
                                        refine wpAnyX_take (i := 16) (oi := _) (v := undef) rfl (by kernel_rfl) (by kernel_rfl) (by kernel_rfl) (by kernel_rfl) (by kernel_rfl) (fun _ _ _ h => h) (Or.inr ⟨by rfl, rfl⟩) (by assumption) ?_
                                        simp only [Act.put, List.getElem_toArray, List.getElem_cons_succ, List.getElem_cons_zero, List.setIfInBounds_toArray, List.set_cons_zero, List.set_cons_succ]
                                        refine wpAnyX_take (i := 17) (oi := _) (v := undef) rfl (by kernel_rfl) (by kernel_rfl) (by kernel_rfl) (by kernel_rfl) (by kernel_rfl) (fun _ _ _ h => h) (Or.inr ⟨by rfl, rfl⟩) (by assumption) ?_
                                        simp only [Act.put, List.getElem_toArray, List.getElem_cons_succ, List.getElem_cons_zero, List.setIfInBounds_toArray, List.set_cons_zero, List.set_cons_succ]
                                        refine wpAnyX_take (i := 18) (oi := _) (v := .bool false) rfl (by kernel_rfl) (by kernel_rfl) (by kernel_rfl) (by kernel_rfl) (by kernel_rfl) (fun _ _ _ h => h) (Or.inl ⟨by rfl, ?_⟩) (by assumption) ?_
                                        · (intro w hSw; go_simp; first | done | rfl | (simp; done) | trace_state)
                                        simp only [Act.put, List.getElem_toArray, List.getElem_cons_succ, List.getElem_cons_zero, List.setIfInBounds_toArray, List.set_cons_zero, List.set_cons_succ]
                                        refine wpAnyX_take (i := 19) (oi := _) (v := .bool false) rfl (by kernel_rfl) (by kernel_rfl) (by kernel_rfl) (by kernel_rfl) (by kernel_rfl) (fun _ _ _ h => h) (Or.inl ⟨by rfl, ?_⟩) (by assumption) ?_
                                        · (intro w hSw; go_simp; first | done | rfl | (simp; done) | trace_state)
                                        simp only [Act.put, List.getElem_toArray, List.getElem_cons_succ, List.getElem_cons_zero, List.setIfInBounds_toArray, List.set_cons_zero, List.set_cons_succ]
                                        refine wpAnyX_done (by kernel_rfl) ?_ _
                                        clear hHeld
                                        go_wp2_with fail
                                        go_roundw
                                        case rel => exact ⟨j + 1, HJ.out, rfl, ⟨HB.out.tail.tail⟩⟩
                                        case measure => simp [intOf]; have := HJ.out; omega
                              · have hj1 : ¬ (j : Int) < (n1 : Int) := by omega
                                have HF : Keep (Sep W wr [rowV 3 1 (.slice a7 n7 c7) n7 (ids.map iv), gridA gb sa M]) := ⟨(HB.out.tail.tail.tail.tail)⟩
                                clear hlt hj HB
                                go_wp2_with fail
                                go_roundw
                                case rel => exact ⟨i + 1, HILT.out, rfl, ⟨by
                                  rw [show nums (.slice a7 n7 c7) ids = rowV 3 1 (.slice a7 n7 c7) n7 (ids.map iv) by show rowV 3 1 _ ids.length _ = _; rw [HK7.out]]
                                  exact HF.out⟩⟩
                                case measure => simp [intOf]; have := HILT.out; omega

end Go.Proofs.Ytidpafmhmhojmaa
