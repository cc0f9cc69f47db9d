/- GateKeeps: the walk. -/
import Derived.Test.YtjoodembmjooaaaG9
import Derived.Test.YtjoodembmjooaaaL1
import Derived.Deep.DeepCutAuto
namespace Go.Proofs.Ytjoodembmjooaaa
open Go Go.RowKit Go.Maps

theorem row_at {W : World} {e : TypeId} {g n c : Nat} {xs : List Value} (h : W.ownsRow 0 e 1 (sl g n c) n xs) (hn : 0 < n) {i : Nat} {u : Value} (hu : xs[i]? = some u) : W.cell? ⟨g, i, none⟩ = some u := by
  obtain ⟨g', c', e, q⟩ := own_any h hn
  injection e with e _ _
  injection e with e
  injection e with e _ _
  subst e
  exact (q _ _ hu).1
set_option maxRecDepth 100000 in
set_option maxHeartbeats 64000000 in
theorem keeps_c (w : World) (sv : Value) (L : List Stp) (hs : SrO w sv L) :
    Calls Try.prog 4 #[sv] w fun e w' => e = .returned (.bool true) ∧ w.grownBy w' none := by
  obtain ⟨a0, cap0, hsv, _⟩ := hs.o
  obtain ⟨n, hnn⟩ : ∃ n, L.length = n := ⟨_, rfl⟩
  rw [hnn] at hsv
  subst hsv
  have HNK := Keep.mk (And.intro hs hnn)
  have HNL : Keep (n * 40 ≤ 140737488351232) := ⟨by rw [← hnn]; exact hs.len⟩
  have HF := Keep.mk (fixed_c sort_c w)
  obtain ⟨du, hdu, hdr⟩ := underS
  clear hs hnn
  go_enter Try.func4, Try.ntmps4
  go_wp2_with fail
  refine HF.out.mono ?_
  rintro e w1 ⟨rfl, g1⟩
  have HN1 := Keep.mk (new_c w w1 [] (Sep.start g1))
  clear HF g1
  go_wp2_with fail
  refine HN1.out.mono ?_
  rintro e w2 ⟨gb, rfl, S2⟩
  have HN2 := Keep.mk (new_c w w2 _ S2)
  clear HN1 S2
  go_wp2_with fail
  refine HN2.out.mono ?_
  rintro e w3 ⟨hb, rfl, S3⟩
  have HS3 : Keep (Sep w w3 (rowV 33 1 (.slice none 0 0) ([] : List Pk).length (([] : List Pk).map Pk.al) :: rowV 33 1 (.slice none 0 0) ([] : List Pk).length (([] : List Pk).map Pk.mo) :: gateA gb [] :: gateA hb [] :: rdsA [] 0)) := ⟨(S3.swap.nilV 33 1).nilV 33 1⟩
  clear HN2 S3
  go_wp2_with fail
  go_loopw [5, 6, 7, 8, 9, 10, 11, 12, 13] (fun u5 u6 u7 _ _ _ _ _ _ wr => ∃ (i : Nat) (M : List Itn) (P : List Pk), i ≤ n ∧ u7 = iv i ∧ Keep (Sep w wr (rowV 33 1 u5 P.length (P.map Pk.al) :: rowV 33 1 u6 P.length (P.map Pk.mo) :: gateA gb M :: gateA hb M :: rdsA P 0)) ∧ Keep (M.length ≤ i ∧ P.length ≤ i ∧ ∀ p ∈ P, p.n ≤ n)) (fun _ _ u7 _ _ _ _ _ _ _ => (n - intOf u7).toNat)
  case atStart => exact ⟨0, [], [], by omega, rfl, HS3, ⟨Nat.le_refl _, Nat.le_refl _, fun p hp => by cases hp⟩⟩
  case round =>
    clear HS3
    obtain ⟨i, M, P, hi, rfl, hS, hL⟩ := hrel
    obtain ⟨t, ht⟩ : ∃ t, P.length = t := ⟨_, rfl⟩
    obtain ⟨a5, c5, h5⟩ := own_slice (hS.out.rowGet k0m)
    obtain ⟨a6, c6, h6⟩ := own_slice (hS.out.rowGet k1m)
    rw [ht] at h5 h6 hS
    subst h5 h6
    have HP : Keep (t ≤ i ∧ P.length = t ∧ ∀ p ∈ P, p.n ≤ n) := ⟨by rw [← ht]; exact hL.out.2.1, ht, hL.out.2.2⟩
    clear ht
    rename World => wr
    by_cases hlt : i < n
    · obtain ⟨b0, o0, x, rfl, hx, hxp, hrg⟩ := HNK.out.1.at HNK.out.2 hS.out.g hlt
      have HRG := Keep.mk hrg
      have HXP := Keep.mk hxp
      have HSO := Keep.mk (stv_one x)
      have hi0 : (0 : Int) ≤ (i : Int) := by omega
      have hi1 : (i : Int) < (n : Nat) := by omega
      have hti : ((i : Nat) : Int).toNat = i := by omega
      have hwi : IntKind.i64.wrap ((i : Int) + 1) = ((i + 1 : Nat) : Int) := by have := HNL.out; rw [wi _ (by omega) (by omega)]; omega
      have HI : Keep (i < n) := ⟨hlt⟩
      clear hrg hxp hx hi hlt
      go_wp2_with (first
        | (show wpList _ _ _ ({ dst := _, op := Op.load 29 _, type := _, pos := _, after := _, guard := _ } :: _) _ _
           refine wpList_load_mid rfl 29 _ rfl _ _ rfl _ _ HRG.out hdu hdr (by exact infoS) ?_)
        | (show wpList _ _ _ ({ dst := _, op := Op.store 29 _ _, type := _, pos := _, after := _, guard := _ } :: _) _ _
           refine store_new _ (stv x) 29 rfl rfl rfl rfl rfl (by exact infoS) HSO.out ?_))
      intro w2 hS2 g2
      have S2 := hS2 w _ hS.out
      generalize wr.heap.size = ob at S2 ⊢
      have HS2 := Keep.mk S2
      clear hS2 g2 S2 hS HRG HSO
      have d0 : w2.cell? ⟨ob, 0, none⟩ = some (iv x.op) := (HS2.out.boxGet k0m).cellv 0 _ rfl
      by_cases e3 : x.op = 3
      · rw [e3] at d0
        have HDR : Keep (∀ (W : World) (l : List As) (b : Nat), Sep w W (gateA b M :: l) → Calls Try.prog 10 #[pt b, iv x.pl] W fun e W' => e = .returned (.bool (look M x.pl).isSome) ∧ Sep w W' (gateA b (rmk M x.pl) :: l)) := ⟨fun W l b q => drop_c w W l b M x.pl HXP.out q⟩
        have HM2 : Keep ((rmk M x.pl).length ≤ i + 1) := ⟨by have := hL.out.1; have := len_rmk M x.pl; omega⟩
        obtain ⟨M2, hM2⟩ : ∃ M2, rmk M x.pl = M2 := ⟨_, rfl⟩
        rw [hM2] at HDR HM2
        generalize (look M x.pl).isSome = lk at HDR
        have hbb : (lk != lk) = false := by simp
        clear hM2 e3 hL
        go_wp2_with fail
        have HB := Keep.mk (HS2.out.grown (gr_drew _ none))
        refine wp_region_held_drew (S := fun w' => Sep w w' [boxA ob (stv x) 29]) (by kernel_rfl) HB.out.only (fun hHeld => ?_)
        clear HS2 d0
        refine wpAnyH_take (i := 0) (oi := _) (v := ?_) rfl (by kernel_rfl) (by kernel_rfl) (by kernel_rfl) (fun _ _ _ h => h) (Or.inl ⟨by rfl, ?_⟩) (by assumption) ?_
        rotate_left
        · (intro w hSw; go_simp; first | done | (with_reducible rfl))
        simp only [Act.put, List.getElem_toArray, List.getElem_cons_zero, List.setIfInBounds_toArray, List.set_cons_zero, List.set_cons_succ]
        refine wpAnyH_take (i := 1) (oi := _) (v := ?_) rfl (by kernel_rfl) (by kernel_rfl) (by kernel_rfl) (fun _ _ _ h => h) (Or.inl ⟨by rfl, ?_⟩) (by assumption) ?_
        rotate_left
        · (intro w hSw; go_simp; first | done | (with_reducible rfl))
        simp only [Act.put, List.getElem_toArray, List.getElem_cons_succ, List.getElem_cons_zero, List.setIfInBounds_toArray, List.set_cons_zero, List.set_cons_succ]
        refine wpAnyH_take (i := 2) (oi := _) (v := ?_) rfl (by kernel_rfl) (by kernel_rfl) (by kernel_rfl) (fun _ _ _ h => h) (Or.inl ⟨by rfl, ?_⟩) (by assumption) ?_
        rotate_left
        · (intro w hSw; have q1 := (hSw.boxGet k0m).cellv 1 _ rfl; go_simp; first | done | (with_reducible rfl))
        simp only [Act.put, List.getElem_toArray, List.getElem_cons_succ, List.getElem_cons_zero, List.setIfInBounds_toArray, List.set_cons_zero, List.set_cons_succ]
        refine wpAnyH_take (i := 4) (oi := _) (v := ?_) rfl (by kernel_rfl) (by kernel_rfl) (by kernel_rfl) (fun _ _ _ h => h) (Or.inl ⟨by rfl, ?_⟩) (by assumption) ?_
        rotate_left
        · (intro w hSw; go_simp; first | done | (with_reducible rfl))
        simp only [Act.put, List.getElem_toArray, List.getElem_cons_succ, List.getElem_cons_zero, List.setIfInBounds_toArray, List.set_cons_zero, List.set_cons_succ]
        refine wpAnyH_take (i := 5) (oi := _) (v := ?_) rfl (by kernel_rfl) (by kernel_rfl) (by kernel_rfl) (fun _ _ _ h => h) (Or.inl ⟨by rfl, ?_⟩) (by assumption) ?_
        rotate_left
        · (intro w hSw; go_simp; first | done | (with_reducible rfl))
        simp only [Act.put, List.getElem_toArray, List.getElem_cons_succ, List.getElem_cons_zero, List.setIfInBounds_toArray, List.set_cons_zero, List.set_cons_succ]
        refine wpAnyH_take (i := 6) (oi := _) (v := ?_) rfl (by kernel_rfl) (by kernel_rfl) (by kernel_rfl) (fun _ _ _ h => h) (Or.inl ⟨by rfl, ?_⟩) (by assumption) ?_
        rotate_left
        · (intro w hSw; have q1 := (hSw.boxGet k0m).cellv 1 _ rfl; go_simp; first | done | (with_reducible rfl))
        simp only [Act.put, List.getElem_toArray, List.getElem_cons_succ, List.getElem_cons_zero, List.setIfInBounds_toArray, List.set_cons_zero, List.set_cons_succ]
        refine wpAnyH_ready (rs := [3]) (by kernel_rfl) (by simp) ?_
        refine AllReadyH.cons (o := _) rfl (fun K hK => ?_) AllReadyH.nil
        go_simp
        refine (HDR.out _ _ gb (fr1 [_, _, _] HB.out)).mono ?_
        rintro e wA ⟨rfl, SA⟩
        have HB2 : Keep (Sep w wA (boxA ob (stv x) 29 :: rowV 33 1 (.slice a5 t c5) t (P.map Pk.al) :: rowV 33 1 (.slice a6 t c6) t (P.map Pk.mo) :: gateA gb M2 :: gateA hb M :: rdsA P 0)) := ⟨bk1 [_, _, _] SA⟩
        clear HB SA
        refine hK.out _ _ HB2.out.only (fun hHeld => ?_)
        clear hK K
        refine wpAnyH_ready (rs := [7]) (by kernel_rfl) (by simp) ?_
        refine AllReadyH.cons (o := _) rfl (fun K hK => ?_) AllReadyH.nil
        go_simp
        refine (HDR.out _ _ hb (fr1 [_, _, _, _] HB2.out)).mono ?_
        rintro e wB ⟨rfl, SB⟩
        have HB3 : Keep (Sep w wB (boxA ob (stv x) 29 :: rowV 33 1 (.slice a5 t c5) t (P.map Pk.al) :: rowV 33 1 (.slice a6 t c6) t (P.map Pk.mo) :: gateA gb M2 :: gateA hb M2 :: rdsA P 0)) := ⟨bk1 [_, _, _, _] SB⟩
        clear HB2 SB
        refine hK.out _ _ HB3.out.only (fun hHeld => ?_)
        clear hK K
        refine wpAnyH_take (i := 8) (oi := _) (v := .bool false) rfl (by kernel_rfl) (by kernel_rfl) (by kernel_rfl) (fun _ _ _ h => h) (Or.inl ⟨by rfl, ?_⟩) (by assumption) ?_
        · (intro w hSw; go_simp; first | done | (simp; done) | trace_state)
        simp only [Act.put, List.getElem_toArray, List.getElem_cons_succ, List.getElem_cons_zero, List.setIfInBounds_toArray, List.set_cons_zero, List.set_cons_succ]
        refine wpAnyH_done (by kernel_rfl) ?_ _

        clear hHeld HDR hbb
        have HSX : Keep (Sep w _ (rowV 33 1 (.slice a5 t c5) P.length (P.map Pk.al) :: rowV 33 1 (.slice a6 t c6) P.length (P.map Pk.mo) :: gateA gb M2 :: gateA hb M2 :: rdsA P 0)) := ⟨by rw [HP.out.2.1]; exact HB3.out.tail⟩
        clear HB3
        go_wp2_with fail
        go_roundw
        case rel => exact ⟨i + 1, M2, P, HI.out, rfl, HSX, ⟨HM2.out, by have := HP.out.1; have := HP.out.2.1; omega, HP.out.2.2⟩⟩
        case measure => simp [intOf]; have := HI.out; omega
      · have n3 : (x.op == 3) = false := by simp [e3]
        have HOF : Keep (∀ (W : World) (l : List As) (b : Nat), Sep w W (gateA b M :: l) → Calls Try.prog 9 #[pt b, iv x.pl, .agg #[iv x.c.th, iv x.c.tu, .bool x.c.fi, .bool x.c.bo]] W fun e W' => e = .returned (iv (ofE M x.pl)) ∧ Sep w W' (gateA b (ofX M x.pl x.c) :: l)) := ⟨fun W l b q => offer_c w W l b M x.pl x.c HXP.out (by have := hL.out.1; have := HNL.out; have := HI.out; omega) q⟩
        have HM2 : Keep ((ofX M x.pl x.c).length ≤ i + 1) := ⟨by have := hL.out.1; have := len_ofX M x.pl x.c; omega⟩
        obtain ⟨M2, hM2⟩ : ∃ M2, ofX M x.pl x.c = M2 := ⟨_, rfl⟩
        rw [hM2] at HOF HM2
        generalize ofE M x.pl = ee at HOF
        clear hM2 e3 hL
        go_wp2_with fail
        have HB := Keep.mk (HS2.out.grown (gr_drew _ none))
        refine wp_region_held_drew (S := fun w' => Sep w w' [boxA ob (stv x) 29]) (by kernel_rfl) HB.out.only (fun hHeld => ?_)
        clear HS2 d0
        refine wpAnyH_take (i := 0) (oi := _) (v := ?_) rfl (by kernel_rfl) (by kernel_rfl) (by kernel_rfl) (fun _ _ _ h => h) (Or.inl ⟨by rfl, ?_⟩) (by assumption) ?_
        rotate_left
        · (intro w hSw; go_simp; first | done | (with_reducible rfl))
        simp only [Act.put, List.getElem_toArray, List.getElem_cons_zero, List.setIfInBounds_toArray, List.set_cons_zero, List.set_cons_succ]
        refine wpAnyH_take (i := 1) (oi := _) (v := ?_) rfl (by kernel_rfl) (by kernel_rfl) (by kernel_rfl) (fun _ _ _ h => h) (Or.inl ⟨by rfl, ?_⟩) (by assumption) ?_
        rotate_left
        · (intro w hSw; go_simp; first | done | (with_reducible rfl))
        simp only [Act.put, List.getElem_toArray, List.getElem_cons_succ, List.getElem_cons_zero, List.setIfInBounds_toArray, List.set_cons_zero, List.set_cons_succ]
        refine wpAnyH_take (i := 2) (oi := _) (v := ?_) rfl (by kernel_rfl) (by kernel_rfl) (by kernel_rfl) (fun _ _ _ h => h) (Or.inl ⟨by rfl, ?_⟩) (by assumption) ?_
        rotate_left
        · (intro w hSw; have q1 := (hSw.boxGet k0m).cellv 1 _ rfl; go_simp; first | done | (with_reducible rfl))
        simp only [Act.put, List.getElem_toArray, List.getElem_cons_succ, List.getElem_cons_zero, List.setIfInBounds_toArray, List.set_cons_zero, List.set_cons_succ]
        refine wpAnyH_take (i := 3) (oi := _) (v := ?_) rfl (by kernel_rfl) (by kernel_rfl) (by kernel_rfl) (fun _ _ _ h => h) (Or.inl ⟨by rfl, ?_⟩) (by assumption) ?_
        rotate_left
        · (intro w hSw; go_simp; first | done | (with_reducible rfl))
        simp only [Act.put, List.getElem_toArray, List.getElem_cons_succ, List.getElem_cons_zero, List.setIfInBounds_toArray, List.set_cons_zero, List.set_cons_succ]
        refine wpAnyH_take (i := 4) (oi := _) (v := ?_) rfl (by kernel_rfl) (by kernel_rfl) (by kernel_rfl) (fun _ _ _ h => h) (Or.inl ⟨by rfl, ?_⟩) (by assumption) ?_
        rotate_left
        · (intro w hSw; have q2 := (hSw.boxGet k0m).cellv 2 _ rfl; have q3 := (hSw.boxGet k0m).cellv 3 _ rfl; have q4 := (hSw.boxGet k0m).cellv 4 _ rfl; have q5 := (hSw.boxGet k0m).cellv 5 _ rfl; go_simp; first | done | (with_reducible rfl))
        simp only [Act.put, List.getElem_toArray, List.getElem_cons_succ, List.getElem_cons_zero, List.setIfInBounds_toArray, List.set_cons_zero, List.set_cons_succ]
        refine wpAnyH_take (i := 6) (oi := _) (v := ?_) rfl (by kernel_rfl) (by kernel_rfl) (by kernel_rfl) (fun _ _ _ h => h) (Or.inl ⟨by rfl, ?_⟩) (by assumption) ?_
        rotate_left
        · (intro w hSw; go_simp; first | done | (with_reducible rfl))
        simp only [Act.put, List.getElem_toArray, List.getElem_cons_succ, List.getElem_cons_zero, List.setIfInBounds_toArray, List.set_cons_zero, List.set_cons_succ]
        refine wpAnyH_take (i := 7) (oi := _) (v := ?_) rfl (by kernel_rfl) (by kernel_rfl) (by kernel_rfl) (fun _ _ _ h => h) (Or.inl ⟨by rfl, ?_⟩) (by assumption) ?_
        rotate_left
        · (intro w hSw; go_simp; first | done | (with_reducible rfl))
        simp only [Act.put, List.getElem_toArray, List.getElem_cons_succ, List.getElem_cons_zero, List.setIfInBounds_toArray, List.set_cons_zero, List.set_cons_succ]
        refine wpAnyH_take (i := 8) (oi := _) (v := ?_) rfl (by kernel_rfl) (by kernel_rfl) (by kernel_rfl) (fun _ _ _ h => h) (Or.inl ⟨by rfl, ?_⟩) (by assumption) ?_
        rotate_left
        · (intro w hSw; have q1 := (hSw.boxGet k0m).cellv 1 _ rfl; go_simp; first | done | (with_reducible rfl))
        simp only [Act.put, List.getElem_toArray, List.getElem_cons_succ, List.getElem_cons_zero, List.setIfInBounds_toArray, List.set_cons_zero, List.set_cons_succ]
        refine wpAnyH_take (i := 9) (oi := _) (v := ?_) rfl (by kernel_rfl) (by kernel_rfl) (by kernel_rfl) (fun _ _ _ h => h) (Or.inl ⟨by rfl, ?_⟩) (by assumption) ?_
        rotate_left
        · (intro w hSw; go_simp; first | done | (with_reducible rfl))
        simp only [Act.put, List.getElem_toArray, List.getElem_cons_succ, List.getElem_cons_zero, List.setIfInBounds_toArray, List.set_cons_zero, List.set_cons_succ]
        refine wpAnyH_take (i := 10) (oi := _) (v := ?_) rfl (by kernel_rfl) (by kernel_rfl) (by kernel_rfl) (fun _ _ _ h => h) (Or.inl ⟨by rfl, ?_⟩) (by assumption) ?_
        rotate_left
        · (intro w hSw; have q2 := (hSw.boxGet k0m).cellv 2 _ rfl; have q3 := (hSw.boxGet k0m).cellv 3 _ rfl; have q4 := (hSw.boxGet k0m).cellv 4 _ rfl; have q5 := (hSw.boxGet k0m).cellv 5 _ rfl; go_simp; first | done | (with_reducible rfl))
        simp only [Act.put, List.getElem_toArray, List.getElem_cons_succ, List.getElem_cons_zero, List.setIfInBounds_toArray, List.set_cons_zero, List.set_cons_succ]
        refine wpAnyH_ready (rs := [5]) (by kernel_rfl) (by simp) ?_
        refine AllReadyH.cons (o := _) rfl (fun K hK => ?_) AllReadyH.nil
        go_simp
        refine (HOF.out _ _ gb (fr1 [_, _, _] HB.out)).mono ?_
        rintro e wA ⟨rfl, SA⟩
        have HB2 : Keep (Sep w wA (boxA ob (stv x) 29 :: rowV 33 1 (.slice a5 t c5) t (P.map Pk.al) :: rowV 33 1 (.slice a6 t c6) t (P.map Pk.mo) :: gateA gb M2 :: gateA hb M :: rdsA P 0)) := ⟨bk1 [_, _, _] SA⟩
        clear HB SA
        refine hK.out _ _ HB2.out.only (fun hHeld => ?_)
        clear hK K
        refine wpAnyH_ready (rs := [11]) (by kernel_rfl) (by simp) ?_
        refine AllReadyH.cons (o := _) rfl (fun K hK => ?_) AllReadyH.nil
        go_simp
        refine (HOF.out _ _ hb (fr1 [_, _, _, _] HB2.out)).mono ?_
        rintro e wB ⟨rfl, SB⟩
        have HB3 : Keep (Sep w wB (boxA ob (stv x) 29 :: rowV 33 1 (.slice a5 t c5) t (P.map Pk.al) :: rowV 33 1 (.slice a6 t c6) t (P.map Pk.mo) :: gateA gb M2 :: gateA hb M2 :: rdsA P 0)) := ⟨bk1 [_, _, _, _] SB⟩
        clear HB2 SB
        refine hK.out _ _ HB3.out.only (fun hHeld => ?_)
        clear hK K
        refine wpAnyH_take (i := 12) (oi := _) (v := .bool false) rfl (by kernel_rfl) (by kernel_rfl) (by kernel_rfl) (fun _ _ _ h => h) (Or.inl ⟨by rfl, ?_⟩) (by assumption) ?_
        · (intro w hSw; go_simp; first | done | (simp; done) | trace_state)
        simp only [Act.put, List.getElem_toArray, List.getElem_cons_succ, List.getElem_cons_zero, List.setIfInBounds_toArray, List.set_cons_zero, List.set_cons_succ]
        refine wpAnyH_done (by kernel_rfl) ?_ _

        clear hHeld HOF
        rename World => wq
        have d0 : wq.cell? ⟨ob, 0, none⟩ = some (iv x.op) := (HB3.out.boxGet k0m).cellv 0 _ rfl
        have hmod : Int.tmod (i : Int) 3 = ((i % 3 : Nat) : Int) := by rw [Int.tmod_eq_emod_of_nonneg (by omega)]; omega
        obtain ⟨bc, hbc⟩ : ∃ bc, (decide (i % 3 = 2) || decide (x.op = 4)) = bc := ⟨_, rfl⟩
        go_upto_region 17 with fail
        go_cut [69] (fun sv wx => sv = .bool bc ∧ Keep (Sep w wx (boxA ob (stv x) 29 :: rowV 33 1 (.slice a5 t c5) t (P.map Pk.al) :: rowV 33 1 (.slice a6 t c6) t (P.map Pk.mo) :: gateA gb M2 :: gateA hb M2 :: rdsA P 0)))
        case first =>
          by_cases h2 : i % 3 = 2
          · have HE : Keep (bc = true) := ⟨by rw [← hbc]; simp [h2]⟩
            obtain ⟨r3, hr3⟩ : ∃ r3, i % 3 = r3 := ⟨_, rfl⟩
            rw [hr3] at hmod
            have nn : ((r3 : Int) == 2) = true := by simp; omega
            clear h2 hbc hr3
            go_wp2_with fail
            go_meet
            exact ⟨by rw [HE.out], HB3⟩
          · obtain ⟨r3, hr3⟩ : ∃ r3, i % 3 = r3 := ⟨_, rfl⟩
            have nn : ((r3 : Int) == 2) = false := by simp; omega
            by_cases h4 : x.op = 4
            · have HE : Keep (bc = true) := ⟨by rw [← hbc]; simp [h4]⟩
              have n4 : (x.op == 4) = true := by simp [h4]
              rw [hr3] at hmod
              clear h2 hbc hr3 h4
              go_wp2_with fail
              go_meet
              exact ⟨by rw [HE.out], HB3⟩
            · have HE : Keep (bc = false) := ⟨by rw [← hbc]; simp [h2, h4]⟩
              have n4 : (x.op == 4) = false := by simp [h4]
              rw [hr3] at hmod
              clear h2 hbc hr3 h4
              go_wp2_with fail
              go_meet
              exact ⟨by rw [HE.out], HB3⟩
        case rest =>
        replace HB3 := hcut.2
        replace hcut := hcut.1
        subst hcut
        rename World => wq
        clear d0 hmod hbc
        cases bc
        · have HM2 := HM2
          have HSX : Keep (Sep w _ (rowV 33 1 (.slice a5 t c5) P.length (P.map Pk.al) :: rowV 33 1 (.slice a6 t c6) P.length (P.map Pk.mo) :: gateA gb M2 :: gateA hb M2 :: rdsA P 0)) := ⟨by rw [HP.out.2.1]; exact HB3.out.tail⟩
          clear HB3
          go_wp2_with fail
          go_roundw
          case rel => exact ⟨i + 1, M2, P, HI.out, rfl, HSX, ⟨HM2.out, by have := HP.out.1; have := HP.out.2.1; omega, HP.out.2.2⟩⟩
          case measure => simp [intOf]; have := HI.out; omega
        · as_aux_lemma =>
            have HGN : Keep (M2.length * 32 ≤ 140737488355328) := ⟨by have := HM2.out; have := HNL.out; have := HI.out; omega⟩
            have HT := Keep.mk (take_c sort_c w wq _ gb M2 HGN.out (fr1 [_, _, _] HB3.out))
            clear HB3
            go_wp2_with fail
            refine HT.out.mono ?_
            rintro e w4 ⟨gl, c1, rfl, S4⟩
            have HT2 := Keep.mk (take_c sort_c w w4 _ hb M2 HGN.out (fr1 [_, _, _, _, _] S4))
            clear HT S4
            go_wp2_with fail
            refine HT2.out.mono ?_
            rintro e w5 ⟨gm, c2, rfl, S5⟩
            have HSM := Keep.mk (same_c w5 _ _ M2 (S5.rdi (M := M2) k2m rfl) (S5.rdi (M := M2) k0m rfl) (by have := HGN.out; omega))
            obtain ⟨m, hm⟩ : ∃ m, M2.length = m := ⟨_, rfl⟩
            rw [hm] at S5 HSM ⊢
            have HML := Keep.mk hm
            clear hm
            have HS5 : Keep (Sep w w5 (rowV 36 5 (sl gl m c1) m (its (wrt M2 t 0)) :: gateA hb [] :: gateA gb [] :: boxA ob (stv x) 29 :: rowV 33 1 (.slice a5 t c5) t (P.map Pk.al) :: rowV 33 1 (.slice a6 t c6) t (P.map Pk.mo) :: rdsA P 0)) := ⟨by
              rw [wrt_zero]
              exact fr1 [_] S5.tail⟩
            clear HT2 S5
            go_wp2_with fail
            refine HSM.out.mono ?_
            rintro e w6 ⟨rfl, g6⟩
            replace HS5 := Keep.mk (HS5.out.grown g6)
            clear HSM g6
            have HMN : Keep (m ≤ n) := ⟨by have := HML.out; have := HM2.out; have := HI.out; omega⟩
            obtain ⟨zt, hzt⟩ : ∃ z, -1000 - (t : Int) = z := ⟨_, rfl⟩
            have HZT := Keep.mk hzt
            have hwt : IntKind.i64.wrap (-1000 - (t : Int)) = zt := by have := HP.out.1; have := HNL.out; have := HI.out; rw [wi _ (by omega) (by omega), hzt]
            have HMK : Keep (itv (mkI t) = [iv zt, iv 0, iv 0, .bool false, .bool false]) := ⟨by rw [← HZT.out]; rfl⟩
            have HMO := Keep.mk (itv_one (mkI t))
            clear hzt
            go_wp2_with fail
            rename World => wo
            go_loopw [11] (fun u11 wz => ∃ k : Nat, k ≤ m ∧ u11 = iv k ∧ Keep (Sep w wz (rowV 36 5 (sl gl m c1) m (its (wrt M2 t k)) :: gateA hb [] :: gateA gb [] :: boxA ob (stv x) 29 :: rowV 33 1 (.slice a5 t c5) t (P.map Pk.al) :: rowV 33 1 (.slice a6 t c6) t (P.map Pk.mo) :: rdsA P 0))) (fun u11 _ => (m - intOf u11).toNat)
            case atStart => exact ⟨0, by omega, rfl, HS5⟩
            case round =>
              clear HS5
              obtain ⟨k, hk, rfl, hS⟩ := hrel
              rename World => wk
              by_cases hlt : k < m
              · have hk0 : (0 : Int) ≤ (k : Int) := by omega
                have hk1 : (k : Int) < (m : Nat) := by omega
                have htk : ((k : Nat) : Int).toNat = k := by omega
                have hwk : IntKind.i64.wrap ((k : Int) + 1) = ((k + 1 : Nat) : Int) := by have := HMN.out; have := HNL.out; rw [wi _ (by omega) (by omega)]; omega
                have HK : Keep (k < m) := ⟨hlt⟩
                have OW := Keep.mk (hS.out.rowGet k0m)
                have HWL : Keep ((wrt M2 t k).length = m) := ⟨by rw [wrt_len M2 t k (by have := HML.out; omega)]; exact HML.out⟩
                have HWS : Keep ((wrt M2 t k).set k (mkI t) = wrt M2 t (k + 1)) := ⟨wrt_set M2 t k (by have := HML.out; omega)⟩
                clear hlt hk
                go_wp2_with (first
                  | (show wpList _ _ _ ({ dst := _, op := Op.store 36 _ _, type := _, pos := _, after := _, guard := _ } :: _) _ _
                     refine store_row itv_len _ gl m c1 k (wrt M2 t k) (mkI t) 36 36 rfl rfl rfl (by rw [HMK.out]; rfl) OW.out HWL.out HK.out infoI HMO.out ?_))
                intro w8 hS8 _
                have S8 := hS8 _ _ hS.out
                rw [HWS.out] at S8
                have HS8 := Keep.mk S8
                clear hS8 S8 hS OW
                go_wp2_with fail
                go_roundw
                case rel => exact ⟨k + 1, HK.out, rfl, HS8⟩
                case measure => simp [intOf]; have := HK.out; omega
              · have hk1 : ¬ (k : Int) < (m : Nat) := by omega
                have S8 : Sep w wk (rowV 36 5 (sl gl m c1) m (its (List.replicate m (mkI t))) :: gateA hb [] :: gateA gb [] :: boxA ob (stv x) 29 :: rowV 33 1 (.slice a5 t c5) t (P.map Pk.al) :: rowV 33 1 (.slice a6 t c6) t (P.map Pk.mo) :: rdsA P 0) := by
                  have q := hS.out
                  rw [show wrt M2 t k = List.replicate m (mkI t) by rw [show k = M2.length by have := HML.out; omega, wrt_end, HML.out]] at q
                  exact q
                have S9 := fr1 [_, _, _, _] (S8.lnStart (by simp))
                obtain ⟨ga, ca, w9, ap, S10⟩ := Sep.app1 gl m c1 S9 (by have := HP.out.1; have := HNL.out; have := HI.out; omega)
                obtain ⟨t1, ht1⟩ : ∃ t1, t + 1 = t1 := ⟨_, rfl⟩
                rw [ht1] at ap S10
                have AP := Keep.mk ap
                have HS10 : Keep (Sep w w9 (lnA gl (List.replicate m (mkI t)) (sl gl (m + 0) c1) (List.replicate (m + 0) (mkI t)) :: gateA hb [] :: gateA gb [] :: boxA ob (stv x) 29 :: rowV 33 1 (sl ga t1 ca) t1 (P.map Pk.al ++ [sl gl m c1]) :: rowV 33 1 (.slice a6 t c6) t (P.map Pk.mo) :: rdsA P 0)) := ⟨bk1 [_, _, _, _] S10⟩
                have HT1 := Keep.mk ht1
                obtain ⟨z1, hz1⟩ : ∃ z, -1000 - (t1 : Int) = z := ⟨_, rfl⟩
                have hw1 : IntKind.i64.wrap (-1000 - (t1 : Int)) = z1 := by have := HP.out.1; have := HNL.out; have := HI.out; rw [wi _ (by omega) (by omega), hz1]
                have hw2 : IntKind.i64.wrap (z1 + 1) = zt := by have := HP.out.1; have := HNL.out; have := HI.out; have := HZT.out; rw [wi _ (by omega) (by omega)]; omega
                clear hS S8 S9 ap S10 ht1 hz1 hlt hk
                go_wp2_with (first
                  | (show wpList _ _ _ ({ dst := _, op := Op.buildSlice 38 _ _, type := _, pos := _, after := _, guard := _ } :: _) _ _
                     refine wpList_bs_run rfl (.tmp 92) 38 rfl _ rfl (bs1_run _ gl m c1) ?_)
                  | (at_builtin; refine wpList_append_run _ rfl (.tmp 91) (.tmp 93) 38 rfl _ _ rfl rfl AP.out ?_))
                clear AP
                rename World => wo2
                go_loopw [12, 13] (fun u12 u13 wz => ∃ (k : Nat) (gx cx : Nat), k ≤ 40 ∧ u13 = iv k ∧ u12 = sl gx (m + k) cx ∧ Keep (Sep w wz (lnA gl (List.replicate m (mkI t)) (sl gx (m + k) cx) (List.replicate (m + k) (mkI t)) :: gateA hb [] :: gateA gb [] :: boxA ob (stv x) 29 :: rowV 33 1 (sl ga t1 ca) t1 (P.map Pk.al ++ [sl gl m c1]) :: rowV 33 1 (.slice a6 t c6) t (P.map Pk.mo) :: rdsA P 0))) (fun _ u13 _ => (40 - intOf u13).toNat)
                case atStart => exact ⟨0, gl, c1, by omega, rfl, rfl, HS10⟩
                case round =>
                  clear HS10
                  obtain ⟨k, gx, cx, hk, rfl, rfl, hS⟩ := hrel
                  rename World => wk
                  by_cases hlt : k < 40
                  · have hk1 : (k : Int) < 40 := by omega
                    have hwk : IntKind.i64.wrap ((k : Int) + 1) = ((k + 1 : Nat) : Int) := by rw [wi _ (by omega) (by omega)]; omega
                    have HK : Keep (k < 40) := ⟨hlt⟩
                    obtain ⟨g9, c9, w9, ap, S9⟩ := Sep.lnApp (mkI t) hS.out (by rw [List.length_replicate]; have := HMN.out; have := HNL.out; omega)
                    rw [List.length_replicate] at ap S9
                    rw [HMK.out] at ap
                    obtain ⟨mk, hmk⟩ : ∃ mk, m + k = mk := ⟨_, rfl⟩
                    rw [hmk] at ap ⊢
                    obtain ⟨mk1, hmk1⟩ : ∃ mk1, mk + 1 = mk1 := ⟨_, rfl⟩
                    rw [hmk1] at ap
                    have AP := Keep.mk ap
                    have HS9 : Keep (Sep w w9 (lnA gl (List.replicate m (mkI t)) (sl g9 (m + (k + 1)) c9) (List.replicate (m + (k + 1)) (mkI t)) :: gateA hb [] :: gateA gb [] :: boxA ob (stv x) 29 :: rowV 33 1 (sl ga t1 ca) t1 (P.map Pk.al ++ [sl gl m c1]) :: rowV 33 1 (.slice a6 t c6) t (P.map Pk.mo) :: rdsA P 0)) := ⟨by
                      have q := S9
                      rw [show List.replicate (m + k) (mkI t) ++ [mkI t] = List.replicate (m + (k + 1)) (mkI t) by rw [← List.replicate_succ']; rfl] at q
                      exact q⟩
                    have HMK1 : Keep (m + (k + 1) = mk1) := ⟨by omega⟩
                    clear hS ap S9 hmk hmk1 hlt hk
                    go_wp2_with (first
                      | (show wpList _ _ _ ({ dst := _, op := Op.buildSlice 33 _ _, type := _, pos := _, after := _, guard := _ } :: _) _ _
                         refine wpList_bs_run rfl (.tmp 105) 33 rfl _ rfl (bs5_run _ [iv zt, iv 0, iv 0, .bool false, .bool false] rfl) ?_)
                      | (at_builtin; refine wpList_append_run _ rfl (.tmp 100) (.tmp 106) 33 rfl _ _ rfl rfl AP.out ?_))
                    go_roundw
                    case rel => exact ⟨k + 1, g9, c9, HK.out, rfl, by rw [HMK1.out], HS9⟩
                    case measure => simp [intOf]; have := HK.out; omega
                  · have hk1 : ¬ (k : Int) < 40 := by omega
                    obtain rfl : k = 40 := by omega
                    obtain ⟨gz, cz, w9, ap, S10⟩ := Sep.app1 gx (m + 40) cx (fr1 [_, _, _, _, _] (hS.out.lnEnd (c := c1))) (by have := HP.out.1; have := HNL.out; have := HI.out; omega)
                    rw [HT1.out] at ap S10
                    obtain ⟨m40, hm40⟩ : ∃ m40, m + 40 = m40 := ⟨_, rfl⟩
                    have S11 : Sep w w9 (rowV 33 1 (sl ga t1 ca) (P ++ [(⟨gl, m, c1, gx, cx⟩ : Pk)]).length ((P ++ [(⟨gl, m, c1, gx, cx⟩ : Pk)]).map Pk.al) :: rowV 33 1 (sl gz t1 cz) (P ++ [(⟨gl, m, c1, gx, cx⟩ : Pk)]).length ((P ++ [(⟨gl, m, c1, gx, cx⟩ : Pk)]).map Pk.mo) :: gateA gb [] :: gateA hb [] :: rdsA (P ++ [⟨gl, m, c1, gx, cx⟩]) 0) := by
                      rw [rdsA_app, List.map_append, List.map_append, List.length_append, List.length_singleton, HP.out.2.1, HT1.out, Nat.zero_add]
                      have q : Sep w w9 (rowV 33 1 (sl gz t1 cz) t1 (P.map Pk.mo ++ [sl gx (m + 40) cx]) :: prA ⟨gl, m, c1, gx, cx⟩ t :: gateA hb [] :: gateA gb [] :: boxA ob (stv x) 29 :: rowV 33 1 (sl ga t1 ca) t1 (P.map Pk.al ++ [sl gl m c1]) :: rdsA P 0) := S10
                      have q2 := fr1 [_, _, _, _, _] q
                      have q3 : Sep w w9 (rowV 33 1 (sl ga t1 ca) t1 (P.map Pk.al ++ [sl gl m c1]) :: rowV 33 1 (sl gz t1 cz) t1 (P.map Pk.mo ++ [sl gx (m + 40) cx]) :: prA ⟨gl, m, c1, gx, cx⟩ t :: gateA hb [] :: gateA gb [] :: boxA ob (stv x) 29 :: rdsA P 0) := q2
                      have q4 : Sep w w9 (rowV 33 1 (sl ga t1 ca) t1 (P.map Pk.al ++ [sl gl m c1]) :: rowV 33 1 (sl gz t1 cz) t1 (P.map Pk.mo ++ [sl gx (m + 40) cx]) :: gateA gb [] :: gateA hb [] :: prA ⟨gl, m, c1, gx, cx⟩ t :: boxA ob (stv x) 29 :: rdsA P 0) := q3.perm (by
                        refine List.Perm.cons _ (List.Perm.cons _ ?_)
                        exact (List.perm_middle (a := gateA gb []) (l₁ := [prA ⟨gl, m, c1, gx, cx⟩ t, gateA hb []])).trans (List.Perm.cons _ (List.Perm.swap _ _ _)))
                      have q5 : Sep w w9 ([rowV 33 1 (sl ga t1 ca) t1 (P.map Pk.al ++ [sl gl m c1]), rowV 33 1 (sl gz t1 cz) t1 (P.map Pk.mo ++ [sl gx (m + 40) cx]), gateA gb [], gateA hb [], prA ⟨gl, m, c1, gx, cx⟩ t] ++ rdsA P 0) := Sep.dropM [_, _, _, _, _] [boxA ob (stv x) 29] q4
                      exact q5.perm (by
                        refine List.Perm.cons _ (List.Perm.cons _ (List.Perm.cons _ (List.Perm.cons _ ?_)))
                        exact (List.perm_append_singleton _ _).symm)
                    have HS11 := Keep.mk S11
                    have HPN : Keep (P.length + 1 ≤ i + 1 ∧ ∀ p ∈ P ++ [(⟨gl, m, c1, gx, cx⟩ : Pk)], p.n ≤ n) := ⟨by have := HP.out.1; have := HP.out.2.1; omega, fun p hp => by
                      rcases List.mem_append.1 hp with hp | hp
                      · exact HP.out.2.2 p hp
                      · rw [List.mem_singleton.1 hp]; exact HMN.out⟩
                    rw [hm40] at ap ⊢
                    have AP := Keep.mk ap
                    clear hS ap S10 S11 hlt hk hm40
                    go_wp2_with (first
                      | (show wpList _ _ _ ({ dst := _, op := Op.buildSlice 38 _ _, type := _, pos := _, after := _, guard := _ } :: _) _ _
                         refine wpList_bs_run rfl (.tmp 109) 38 rfl _ rfl (bs1_run _ gx m40 cx) ?_)
                      | (at_builtin; refine wpList_append_run _ rfl (.tmp 108) (.tmp 110) 38 rfl _ _ rfl rfl AP.out ?_))
                    go_roundw
                    case rel => exact ⟨i + 1, [], _, HI.out, rfl, HS11, ⟨by simp, by rw [List.length_append]; exact HPN.out.1, HPN.out.2⟩⟩
                    case measure => simp [intOf]; have := HI.out; omega
    · have hi1 : ¬ (i : Int) < (n : Nat) := by omega
      have HS8 := hS
      have HIN : Keep (i ≤ n) := ⟨hi⟩
      clear hS hlt hi hL
      go_wp2_with fail
      go_loopw [14, 15, 16] (fun u14 _ _ wz => ∃ q : Nat, q ≤ t ∧ u14 = iv q ∧ Keep (Sep w wz (rowV 33 1 (.slice a5 t c5) t (P.map Pk.al) :: rowV 33 1 (.slice a6 t c6) t (P.map Pk.mo) :: gateA gb M :: gateA hb M :: rdsA P 0))) (fun u14 _ _ _ => (t - intOf u14).toNat)
      case atStart => exact ⟨0, by omega, rfl, HS8⟩
      case round =>
        clear HS8
        obtain ⟨q, hq, rfl, hS⟩ := hrel
        rename World => wz
        by_cases hlt : q < t
        · obtain ⟨p, hp⟩ : ∃ p, P[q]? = some p := ⟨_, List.getElem?_eq_getElem (by rw [HP.out.2.1]; exact hlt)⟩
          obtain ⟨ga, rfl⟩ : ∃ g, a5 = some ⟨g, 0, none⟩ := by
            obtain ⟨g, c, e, _⟩ := own_any (hS.out.rowGet k0m) (by omega)
            injection e with e _ _
            exact ⟨g, e⟩
          obtain ⟨gm, rfl⟩ : ∃ g, a6 = some ⟨g, 0, none⟩ := by
            obtain ⟨g, c, e, _⟩ := own_any (hS.out.rowGet k1m) (by omega)
            injection e with e _ _
            exact ⟨g, e⟩
          have HPN : Keep (p.n ≤ n) := ⟨HP.out.2.2 p (List.mem_of_getElem? hp)⟩
          obtain ⟨m40, hm40⟩ : ∃ m, p.n + 40 = m := ⟨_, rfl⟩
          have ca : wz.cell? ⟨ga, q, none⟩ = some (sl p.g p.n p.c) := row_at (hS.out.rowGet k0m) (by omega) (by rw [List.getElem?_map, hp]; rfl)
          have cm : wz.cell? ⟨gm, q, none⟩ = some (sl p.h m40 p.d) := row_at (hS.out.rowGet k1m) (by omega) (by rw [List.getElem?_map, hp, ← hm40]; rfl)
          obtain ⟨rl, rm⟩ := hS.out.prGet (List.mem_cons_of_mem _ (List.mem_cons_of_mem _ (List.mem_cons_of_mem _ (List.mem_cons_of_mem _ (rdsA_mem P 0 q p hp)))))
          rw [Nat.zero_add] at rl rm
          rw [hm40] at rm
          obtain ⟨z, hz⟩ : ∃ z, -1000 - (q : Int) = z := ⟨_, rfl⟩
          rw [hz] at rl rm
          have HRL := Keep.mk rl
          have HRM := Keep.mk rm
          have hwz : IntKind.i64.wrap (-1000 - (q : Int)) = z := by have := HP.out.1; have := HIN.out; have := HNL.out; rw [wi _ (by omega) (by omega), hz]
          have hw40 : IntKind.i64.wrap ((p.n : Int) + 40) = (m40 : Int) := by have := HPN.out; have := HNL.out; rw [wi _ (by omega) (by omega)]; omega
          have hq0 : (0 : Int) ≤ (q : Int) := by omega
          have hq1 : (q : Int) < (t : Nat) := by omega
          have htq : ((q : Nat) : Int).toNat = q := by omega
          have hwq : IntKind.i64.wrap ((q : Int) + 1) = ((q + 1 : Nat) : Int) := by have := HP.out.1; have := HIN.out; have := HNL.out; rw [wi _ (by omega) (by omega)]; omega
          have HQ : Keep (q < t) := ⟨hlt⟩
          have HM40 : Keep (p.n + 40 = m40) := ⟨hm40⟩
          clear hlt hq hp rl rm hz hm40
          go_wp2_with fail
          go_loopw [16] (fun u16 wy => ∃ k : Nat, k ≤ m40 ∧ u16 = iv k ∧ wy = wz) (fun u16 _ => (m40 - intOf u16).toNat)
          case atStart => exact ⟨0, by omega, rfl, rfl⟩
          case round =>
            obtain ⟨k, hk, rfl, rfl⟩ := hrel
            by_cases hlt : k < m40
            · have hk0 : (0 : Int) ≤ (k : Int) := by omega
              have hk1 : (k : Int) < (m40 : Nat) := by omega
              have htk : ((k : Nat) : Int).toNat = k := by omega
              have hwk : IntKind.i64.wrap ((k : Int) + 1) = ((k + 1 : Nat) : Int) := by have := HPN.out; have := HNL.out; have := HM40.out; rw [wi _ (by omega) (by omega)]; omega
              have cm2 := HRM.out k hlt
              have HK : Keep (k < m40) := ⟨hlt⟩
              clear hlt hk
              by_cases hkn : k < p.n
              · have cl2 := HRL.out k hkn
                have hkn0 : (k : Int) < (p.n : Nat) := by omega
                have hkn1 : decide ((k : Int) < (p.n : Nat)) = true := decide_eq_true hkn0
                have hkn2 : decide (k < p.n) = true := decide_eq_true hkn
                go_wp2_with fail
                go_roundw
                case rel => exact ⟨k + 1, HK.out, rfl, by first | rfl | trivial⟩
                case measure => simp [intOf]; have := HK.out; omega
              · have hkn1 : decide ((k : Int) < (p.n : Nat)) = false := decide_eq_false (by omega)
                have hkn2 : decide (k < p.n) = false := decide_eq_false hkn
                clear hkn
                go_wp2_with fail
                go_roundw
                case rel => exact ⟨k + 1, HK.out, rfl, by first | rfl | trivial⟩
                case measure => simp [intOf]; have := HK.out; omega
            · have hk1 : ¬ (k : Int) < (m40 : Nat) := by omega
              go_wp2_with fail
              go_roundw
              case rel => exact ⟨q + 1, HQ.out, rfl, hS⟩
              case measure => simp [intOf]; have := HQ.out; omega
        · have hq1 : ¬ (q : Int) < (t : Nat) := by omega
          have HG := Keep.mk hS.out.g
          clear hS
          go_wp2_with fail
          go_ret
          exact ⟨rfl, HG.out⟩
end Go.Proofs.Ytjoodembmjooaaa
