/- the reference's Between -/
import Derived.Test.YtfhhneibdmjfgabB2
import Derived.Deep.DeepCutAuto
namespace Go.Proofs.Ytfhhneibdmjfgab
open Go Go.RowKit Go.Maps Sm
set_option maxRecDepth 100000
attribute [local go_sem] run_store_fl
theorem fst1_more {B : List Sn} {k : Nat} {u : Sn} {c : Int × Int} (h : B[k]? = some u) (hn : fst1 (B.take k) c = none) (hd : ¬ (u.k = c.1 ∧ u.i = c.2)) : fst1 (B.take (k + 1)) c = none := by
  obtain ⟨hi, rfl⟩ := List.getElem?_eq_some_iff.1 h
  unfold fst1 at hn ⊢
  rw [List.take_add_one, List.getElem?_eq_getElem hi, List.find?_append, hn]
  simp [hd]
theorem fst1_hit {B : List Sn} {k : Nat} {u : Sn} {c : Int × Int} (h : B[k]? = some u) (hn : fst1 (B.take k) c = none) (hd : u.k = c.1 ∧ u.i = c.2) : fst1 B c = some u := by
  obtain ⟨hi, rfl⟩ := List.getElem?_eq_some_iff.1 h
  unfold fst1 at hn ⊢
  have e : B = B.take k ++ (B[k] :: B.drop (k + 1)) := by rw [List.getElem_cons_drop, List.take_append_drop]
  have q : List.find? (fun s => decide (s.k = c.1 ∧ s.i = c.2)) (B.take k ++ (B[k] :: B.drop (k + 1))) = some B[k] := by
    rw [List.find?_append, hn, List.find?_cons_of_pos (by exact decide_eq_true hd)]
    rfl
  rwa [← e] at q
set_option maxHeartbeats 32000000 in
theorem rbetween_c (W : World) (ta tb : Int) (a b : Cr) (va vb : Value) (A B : List Sn) (t : Nat) (hA : RdS W va A) (hB : RdS W vb B) (hn : (A.length + 1) * 12 ≤ 140737488355328) (hm : B.length ≤ 281474976710656) :
    Calls Try.prog 8 #[.agg (vwA ta a va), .agg (vwA tb b vb), fv t] W fun e W' => ∃ v P, e = .returned v ∧ P.map vP = betV a b A B (V t) ∧ Sep W W' [rowV 42 3 v P.length (pls P)] := by
  obtain ⟨n, hnL⟩ : ∃ n, A.length = n := ⟨_, rfl⟩
  obtain ⟨m, hmL⟩ : ∃ n, B.length = n := ⟨_, rfl⟩
  have HN : Keep (A.length = n ∧ B.length = m) := ⟨hnL, hmL⟩
  have HA : Keep (∃ aa ca, va = .slice aa n ca ∧ (0 < n → ∃ g o, aa = some ⟨g, o, none⟩ ∧ ∀ j x, A[j]? = some x → W.rangeAt g (o + j * 5) (snv x))) := ⟨by rw [← hnL]; exact hA.o⟩
  have HB : Keep (∃ aa ca, vb = .slice aa m ca ∧ (0 < m → ∃ g o, aa = some ⟨g, o, none⟩ ∧ ∀ j x, B[j]? = some x → W.rangeAt g (o + j * 5) (snv x))) := ⟨by rw [← hmL]; exact hB.o⟩
  rw [hnL] at hn
  rw [hmL] at hm
  clear hA hB hnL hmL
  have HS := Keep.mk (((Sep.nil W).newBox (vwA ta a va) 29).newBox (vwA tb b vb) 29)
  simp only [World.size_alloc] at HS
  go_enter Try.func8, Try.ntmps8
  go_upto_region 2 with fail
  obtain ⟨xb, hxb⟩ : ∃ xb, W.heap.size = xb := ⟨_, rfl⟩
  obtain ⟨yb, hyb⟩ : ∃ yb, xb + 1 = yb := ⟨_, rfl⟩
  rw [hxb, hyb] at HS
  try rw [hxb]
  try rw [hyb]
  clear hxb hyb
  have HS2 : Keep (Sep W ((W.alloc (.cells (vwA ta a va) 29)).alloc (.cells (vwA tb b vb) 29)) (rowV 42 3 (.slice none 0 0) 0 [] :: boxA xb (vwL ta a va) 29 :: boxA yb (vwL tb b vb) 29 :: [])) := ⟨HS.out.swap.nilV 42 3⟩
  clear HS
  generalize (W.alloc (.cells (vwA ta a va) 29)).alloc (.cells (vwA tb b vb) 29) = W1 at HS2 ⊢
  go_cut [31] (fun sv wx => ∃ u, u = wx ∧ sv = .bool (decide (a.p = b.p) && (!decide (0 < a.wt)) && (!decide (0 < b.wt))) ∧ Keep (Sep W u (rowV 42 3 (.slice none 0 0) 0 [] :: boxA xb (vwL ta a va) 29 :: boxA yb (vwL tb b vb) 29 :: [])))
  case first =>
    have l0 := (HS2.out.boxGet k1m).cellv 1 _ rfl
    have l1 := (HS2.out.boxGet k2m).cellv 1 _ rfl
    have l2 := (HS2.out.boxGet k1m).cellv 12 _ rfl
    have l3 := (HS2.out.boxGet k2m).cellv 12 _ rfl
    by_cases h1 : a.p = b.p
    · have d1 : (a.p == b.p) = true := by simp [h1]
      have HP := Keep.mk h1
      clear h1
      by_cases h2 : 0 < a.wt
      · have d2 : decide (a.wt ≤ 0) = false := decide_eq_false (by omega)
        have d3 : ¬ a.wt ≤ 0 := by omega
        have H2 := Keep.mk (decide_eq_true h2)
        clear h2
        go_wp2_with fail
        go_meet
        exact ⟨_, rfl, by rw [H2.out]; simp, HS2⟩
      · have d2 : decide (a.wt ≤ 0) = true := decide_eq_true (by omega)
        have d3 : a.wt ≤ 0 := by omega
        have H2 := Keep.mk (decide_eq_false h2)
        clear h2
        have HE : Keep ((!decide (0 < b.wt)) = decide (b.wt ≤ 0)) := ⟨by by_cases h : 0 < b.wt <;> simp [h] <;> omega⟩
        go_wp2_with fail
        go_meet
        exact ⟨_, rfl, by rw [H2.out, decide_eq_true HP.out, HE.out]; simp, HS2⟩
    · have d1 : (a.p == b.p) = false := by simp [h1]
      have HP := Keep.mk h1
      clear h1
      go_wp2_with fail
      go_meet
      exact ⟨_, rfl, by rw [decide_eq_false HP.out]; rfl, HS2⟩
  case rest =>
  clear HS2
  obtain ⟨W1, rfl, rfl, HS⟩ := hcut
  go_upto_if 31 with fail
  have HOW : Keep (ownV a b (V t) = if (decide (a.p = b.p) && (!decide (0 < a.wt)) && (!decide (0 < b.wt))) = true then [mixV (ofV a.x a.y a.h) (ofV b.x b.y b.h) (V t)] else []) := ⟨rfl⟩
  generalize (decide (a.p = b.p) && (!decide (0 < a.wt)) && (!decide (0 < b.wt))) = cc at *
  go_cut [7] (fun sv wx => ∃ u v P, u = wx ∧ sv = v ∧ Keep (P.length ≤ 1 ∧ P.map vP = ownV a b (V t)) ∧ Keep (Sep W u (rowV 42 3 v P.length (pls P) :: boxA xb (vwL ta a va) 29 :: boxA yb (vwL tb b vb) 29 :: [])))
  case first =>
    cases cc
    · go_wp2_with fail
      go_meet
      exact ⟨_, _, [], rfl, rfl, ⟨by simp, by rw [HOW.out]; rfl⟩, HS⟩
    · go_wp2_with fail
      clear HN HA HB
      replace HS : Keep (Sep W W1 (rowV 42 3 (.slice none 0 0) ([] : List Pt).length (pls []) :: boxA xb (vwL ta a va) 29 :: boxA yb (vwL tb b vb) 29 :: [])) := HS
      have HSd := Keep.mk (HS.out.grown (gr_drew W1 none))
      replace HS := HSd
      clear HSd
      refine region_Y (S := fun w => Has w xb (vwL ta a va) 29 ∧ Has w yb (vwL tb b vb) 29) [] (by kernel_rfl) ?_
      have hHeld := (⟨HS.out.boxGet k1m, HS.out.boxGet k2m⟩ : (fun w => Has w xb (vwL ta a va) 29 ∧ Has w yb (vwL tb b vb) 29) W1.drew)
      refine wpAnyY_pure (i := 0) (oi := _) (v := ?_) rfl (by kernel_rfl) (by kernel_rfl) (by kernel_rfl) (by kernel_rfl) (fun _ _ _ h => h) (Or.inl ⟨by rfl, ?_⟩) ?_
      rotate_left
      · (intro w hSw; go_simp; first | done | (with_reducible rfl))
      simp only [Act.put, List.getElem_toArray, List.getElem_cons_zero, List.setIfInBounds_toArray, List.set_cons_zero, List.set_cons_succ]
      refine wpAnyY_pure (i := 1) (oi := _) (v := ?_) rfl (by kernel_rfl) (by kernel_rfl) (by kernel_rfl) (by kernel_rfl) (fun _ _ _ h => h) (Or.inl ⟨by rfl, ?_⟩) ?_
      rotate_left
      · (intro w hSw; go_simp; first | done | (with_reducible rfl))
      simp only [Act.put, List.getElem_toArray, List.getElem_cons_succ, List.getElem_cons_zero, List.setIfInBounds_toArray, List.set_cons_zero, List.set_cons_succ]
      refine wpAnyY_pure (i := 2) (oi := _) (v := ?_) rfl (by kernel_rfl) (by kernel_rfl) (by kernel_rfl) (by kernel_rfl) (fun _ _ _ h => h) (Or.inl ⟨by rfl, ?_⟩) ?_
      rotate_left
      · (intro w hSw; go_simp; first | done | (with_reducible rfl))
      simp only [Act.put, List.getElem_toArray, List.getElem_cons_succ, List.getElem_cons_zero, List.setIfInBounds_toArray, List.set_cons_zero, List.set_cons_succ]
      refine wpAnyY_take (i := 3) (oi := _) (v := ?_) rfl (by kernel_rfl) (by kernel_rfl) (by kernel_rfl) (by kernel_rfl) (by kernel_rfl) (fun _ _ _ h => h) (Or.inl ⟨by rfl, ?_⟩) hHeld ?_
      rotate_left
      · (intro w hSw; have q0 := hSw.1.cellv 3 _ rfl; have q1 := hSw.1.cellv 4 _ rfl; go_simp; first | done | (with_reducible rfl))
      simp only [Act.put, List.getElem_toArray, List.getElem_cons_succ, List.getElem_cons_zero, List.setIfInBounds_toArray, List.set_cons_zero, List.set_cons_succ]
      refine wpAnyY_pure (i := 4) (oi := _) (v := ?_) rfl (by kernel_rfl) (by kernel_rfl) (by kernel_rfl) (by kernel_rfl) (fun _ _ _ h => h) (Or.inl ⟨by rfl, ?_⟩) ?_
      rotate_left
      · (intro w hSw; go_simp; first | done | (with_reducible rfl))
      simp only [Act.put, List.getElem_toArray, List.getElem_cons_succ, List.getElem_cons_zero, List.setIfInBounds_toArray, List.set_cons_zero, List.set_cons_succ]
      refine wpAnyY_pure (i := 5) (oi := _) (v := ?_) rfl (by kernel_rfl) (by kernel_rfl) (by kernel_rfl) (by kernel_rfl) (fun _ _ _ h => h) (Or.inl ⟨by rfl, ?_⟩) ?_
      rotate_left
      · (intro w hSw; go_simp; first | done | (with_reducible rfl))
      simp only [Act.put, List.getElem_toArray, List.getElem_cons_succ, List.getElem_cons_zero, List.setIfInBounds_toArray, List.set_cons_zero, List.set_cons_succ]
      refine wpAnyY_take (i := 6) (oi := _) (v := ?_) rfl (by kernel_rfl) (by kernel_rfl) (by kernel_rfl) (by kernel_rfl) (by kernel_rfl) (fun _ _ _ h => h) (Or.inl ⟨by rfl, ?_⟩) hHeld ?_
      rotate_left
      · (intro w hSw; have q0 := hSw.1.cellv 7 _ rfl; go_simp; first | done | (with_reducible rfl))
      simp only [Act.put, List.getElem_toArray, List.getElem_cons_succ, List.getElem_cons_zero, List.setIfInBounds_toArray, List.set_cons_zero, List.set_cons_succ]
      refine wpAnyY_pure (i := 8) (oi := _) (v := ?_) rfl (by kernel_rfl) (by kernel_rfl) (by kernel_rfl) (by kernel_rfl) (fun _ _ _ h => h) (Or.inl ⟨by rfl, ?_⟩) ?_
      rotate_left
      · (intro w hSw; go_simp; first | done | (with_reducible rfl))
      simp only [Act.put, List.getElem_toArray, List.getElem_cons_succ, List.getElem_cons_zero, List.setIfInBounds_toArray, List.set_cons_zero, List.set_cons_succ]
      refine wpAnyY_pure (i := 9) (oi := _) (v := ?_) rfl (by kernel_rfl) (by kernel_rfl) (by kernel_rfl) (by kernel_rfl) (fun _ _ _ h => h) (Or.inl ⟨by rfl, ?_⟩) ?_
      rotate_left
      · (intro w hSw; go_simp; first | done | (with_reducible rfl))
      simp only [Act.put, List.getElem_toArray, List.getElem_cons_succ, List.getElem_cons_zero, List.setIfInBounds_toArray, List.set_cons_zero, List.set_cons_succ]
      refine wpAnyY_take (i := 10) (oi := _) (v := ?_) rfl (by kernel_rfl) (by kernel_rfl) (by kernel_rfl) (by kernel_rfl) (by kernel_rfl) (fun _ _ _ h => h) (Or.inl ⟨by rfl, ?_⟩) hHeld ?_
      rotate_left
      · (intro w hSw; have q0 := hSw.2.cellv 3 _ rfl; have q1 := hSw.2.cellv 4 _ rfl; go_simp; first | done | (with_reducible rfl))
      simp only [Act.put, List.getElem_toArray, List.getElem_cons_succ, List.getElem_cons_zero, List.setIfInBounds_toArray, List.set_cons_zero, List.set_cons_succ]
      refine wpAnyY_pure (i := 11) (oi := _) (v := ?_) rfl (by kernel_rfl) (by kernel_rfl) (by kernel_rfl) (by kernel_rfl) (fun _ _ _ h => h) (Or.inl ⟨by rfl, ?_⟩) ?_
      rotate_left
      · (intro w hSw; go_simp; first | done | (with_reducible rfl))
      simp only [Act.put, List.getElem_toArray, List.getElem_cons_succ, List.getElem_cons_zero, List.setIfInBounds_toArray, List.set_cons_zero, List.set_cons_succ]
      refine wpAnyY_pure (i := 12) (oi := _) (v := ?_) rfl (by kernel_rfl) (by kernel_rfl) (by kernel_rfl) (by kernel_rfl) (fun _ _ _ h => h) (Or.inl ⟨by rfl, ?_⟩) ?_
      rotate_left
      · (intro w hSw; go_simp; first | done | (with_reducible rfl))
      simp only [Act.put, List.getElem_toArray, List.getElem_cons_succ, List.getElem_cons_zero, List.setIfInBounds_toArray, List.set_cons_zero, List.set_cons_succ]
      refine wpAnyY_take (i := 13) (oi := _) (v := ?_) rfl (by kernel_rfl) (by kernel_rfl) (by kernel_rfl) (by kernel_rfl) (by kernel_rfl) (fun _ _ _ h => h) (Or.inl ⟨by rfl, ?_⟩) hHeld ?_
      rotate_left
      · (intro w hSw; have q0 := hSw.2.cellv 7 _ rfl; go_simp; first | done | (with_reducible rfl))
      simp only [Act.put, List.getElem_toArray, List.getElem_cons_succ, List.getElem_cons_zero, List.setIfInBounds_toArray, List.set_cons_zero, List.set_cons_succ]
      refine wpAnyY_pure (i := 15) (oi := _) (v := ?_) rfl (by kernel_rfl) (by kernel_rfl) (by kernel_rfl) (by kernel_rfl) (fun _ _ _ h => h) (Or.inl ⟨by rfl, ?_⟩) ?_
      rotate_left
      · (intro w hSw; go_simp; first | done | (with_reducible rfl))
      simp only [Act.put, List.getElem_toArray, List.getElem_cons_succ, List.getElem_cons_zero, List.setIfInBounds_toArray, List.set_cons_zero, List.set_cons_succ]
      refine wpAnyY_one (i := 7) (by kernel_rfl) rfl (fun K hK => ?_)
      go_simp
      refine (rof_c a.x a.y a.h _).mono ?_
      rintro e w1 ⟨v, rfl, ⟨p1, p2, p3, rfl, e1, e2, e3⟩, g1⟩
      have HO1 := Keep.mk (And.intro e1 (And.intro e2 e3))
      have HT1 := Keep.mk (HS.out.grown g1)
      clear e1 e2 e3
      refine hK.out _ _ (fun h => ⟨h.1.kept g1 (by simp), h.2.kept g1 (by simp)⟩) ?_
      clear hK K g1
      refine wpAnyY_one (i := 14) (by kernel_rfl) rfl (fun K hK => ?_)
      go_simp
      refine (rof_c b.x b.y b.h _).mono ?_
      rintro e w2 ⟨v, rfl, ⟨q1, q2, q3, rfl, e1, e2, e3⟩, g2⟩
      have HO2 := Keep.mk (And.intro e1 (And.intro e2 e3))
      have HT2 := Keep.mk (HT1.out.grown g2)
      clear e1 e2 e3
      refine hK.out _ _ (fun h => ⟨h.1.kept g2 (by simp), h.2.kept g2 (by simp)⟩) ?_
      clear hK K g2 HT1
      refine wpAnyY_one (i := 16) (by kernel_rfl) rfl (fun K hK => ?_)
      go_simp
      refine (rmix_c p1 p2 p3 q1 q2 q3 t _).mono ?_
      rintro e w3 ⟨v, rfl, ⟨r1, r2, r3, rfl, e1, e2, e3⟩, g3⟩
      have HO3 : Keep (vP ⟨r1, r2, r3⟩ = mixV (ofV a.x a.y a.h) (ofV b.x b.y b.h) (V t)) := ⟨by
        have hA : (⟨V p1, V p2, V p3⟩ : Pl) = ofV a.x a.y a.h := by
          obtain ⟨x1, x2, x3⟩ := HO1.out
          rw [x1, x2, x3]
        have hB : (⟨V q1, V q2, V q3⟩ : Pl) = ofV b.x b.y b.h := by
          obtain ⟨x1, x2, x3⟩ := HO2.out
          rw [x1, x2, x3]
        rw [hA, hB] at e1 e2 e3
        unfold vP
        simp only
        rw [e1, e2, e3]⟩
      have HT3 := Keep.mk (HT2.out.grown g3)
      clear e1 e2 e3
      refine hK.out _ _ (fun h => ⟨h.1.kept g3 (by simp), h.2.kept g3 (by simp)⟩) ?_
      clear hK K g3 HT2 HO1 HO2
      refine wpAnyY_one (i := 17) (by kernel_rfl) rfl (fun K hK => ?_)
      have bs := bsP r1 r2 r3 w3
      have g6 := gr_alloc w3 (.cells #[fv r1, fv r2, fv r3] 42) none
      obtain ⟨g9, c9, w9, ap, S9⟩ := Sep.appP HT3.out ⟨r1, r2, r3⟩ (by show (0 + 1) * 12 ≤ _; omega)
      have AP := Keep.mk ap
      have HS9 := Keep.mk S9
      clear ap S9 HT3
      obtain ⟨w6, hw6⟩ : ∃ w, w3.alloc (.cells #[fv r1, fv r2, fv r3] 42) = w := ⟨_, rfl⟩
      obtain ⟨b6, hb6⟩ : ∃ b, w3.heap.size = b := ⟨_, rfl⟩
      rw [hw6, hb6] at bs
      simp only [] at AP
      rw [hw6, hb6] at AP
      rw [hw6] at g6
      go_simp
      refine hK.out _ _ (fun h => ⟨h.1.kept g6 (by simp), h.2.kept g6 (by simp)⟩) ?_
      clear hK K bs hw6 hb6 g6
      refine wpAnyY_one (i := 18) (by kernel_rfl) rfl (fun K hK => ?_)
      rw [if_pos (show Region.wanted _ _ = true from rfl)]
      refine wp_append_run (.tmp 32) (.tmp 49) 35 rfl _ _ rfl rfl AP.out ?_
      refine hK.out _ _ (fun _ => ⟨HS9.out.boxGet k1m, HS9.out.boxGet k2m⟩) ?_
      clear hK K
      simp only [Act.put, List.getElem_toArray, List.getElem_cons_succ, List.getElem_cons_zero, List.setIfInBounds_toArray, List.set_cons_zero, List.set_cons_succ]
      refine wpAnyY_one (i := 19) (by kernel_rfl) rfl (fun K hK => ?_)
      go_simp
      refine hK.out _ _ (fun h => h) ?_
      clear hK K
      refine wpAnyY_done (by kernel_rfl) ?_ _
      go_wp2_with fail
      go_meet
      exact ⟨_, _, [⟨r1, r2, r3⟩], rfl, rfl, ⟨by simp, by rw [HOW.out, ← HO3.out]; simp⟩, HS9⟩
  case rest =>
  clear HS HOW
  obtain ⟨W1, _, P0, rfl, rfl, HP0, HS⟩ := hcut
  obtain ⟨aa, ca, hva, hqa⟩ := HA.out
  obtain ⟨bb, cb, hvb, hqb⟩ := HB.out
  have HVA := Keep.mk hva
  have HVB := Keep.mk hvb
  clear HA HB
  have HA := Keep.mk hqa
  have HB := Keep.mk hqb
  clear hqa hqb hva hvb
  go_wp2_with fail
  go_loopw [7, 8] (fun v u wr => ∃ (i : Nat) (P : List Pt), i ≤ n ∧ P.length ≤ i + 1 ∧ u = iv i ∧ Keep (P.map vP = ownV a b (V t) ++ (A.take i).filterMap (oneV B (V t))) ∧ Keep (Sep W wr (rowV 42 3 v P.length (pls P) :: boxA xb (vwL ta a va) 29 :: boxA yb (vwL tb b vb) 29 :: []))) (fun _ u _ => (n - intOf u).toNat)
  case atStart => exact ⟨0, P0, by omega, by have := HP0.out.1; omega, rfl, ⟨by rw [HP0.out.2]; simp⟩, HS⟩
  case round =>
    clear HS HP0
    obtain ⟨i, P, hi, hPl, rfl, HP, HS⟩ := hrel
    have lA := (HS.out.boxGet k1m).cellv 15 _ rfl
    rw [HVA.out] at lA
    by_cases hlt : i < n
    · obtain ⟨s, hs⟩ : ∃ s, A[i]? = some s := ⟨_, List.getElem?_eq_getElem (by rw [HN.out.1]; exact hlt)⟩
      obtain ⟨g, o, rfl, hc⟩ := HA.out (by omega)
      have HX := Keep.mk (sn_cells (range_kept (hc i s hs) HS.out.1))
      have hi0 : (0 : Int) ≤ (i : Int) := by omega
      have hi1 : (i : Int) < (n : Nat) := by omega
      have hti : ((i : Nat) : Int).toNat = i := by omega
      have hwi : IntKind.i64.wrap ((i : Int) + 1) = ((i + 1 : Nat) : Int) := by rw [wi _ (by omega) (by omega)]; omega
      obtain ⟨y0, y1, y2, y3, y4⟩ := HX.out
      have HK := Keep.mk hs
      have HS1 := Keep.mk (HS.out.newBox #[iv s.k, iv s.i, iv s.x, iv s.y, iv s.h] 39)
      obtain ⟨sb, hsb⟩ : ∃ b, wr.heap.size = b := ⟨_, rfl⟩
      rw [hsb] at HS1
      clear hc hs HX HS
      go_wp2_with fail
      clear y0 y1 y2 y3 y4 lA
      try rw [hsb]
      clear hsb
      generalize wr.alloc (.cells #[iv s.k, iv s.i, iv s.x, iv s.y, iv s.h] 39) = W3 at HS1 ⊢
      have HS3 : Keep (Sep W W3 (rowV 42 3 u7 P.length (pls P) :: boxA sb (snv s) 39 :: boxA xb (vwL ta a va) 29 :: boxA yb (vwL tb b vb) 29 :: [])) := ⟨HS1.out.swap⟩
      clear HS1
      have HFM := Keep.mk (fm_take (B := B) (t := V t) HK.out)
      have hmz : m ≤ 281474976710656 := hm
      go_loopw [7, 10, 11] (fun v d u wr => ∃ (k : Nat) (dn : Bool) (Q : List Pt), k ≤ m ∧ d = .bool dn ∧ u = iv k ∧ Q.length ≤ i + 1 + (if dn = true then 1 else 0) ∧ Keep (Q.map vP = ownV a b (V t) ++ (A.take (if dn = true then i + 1 else i)).filterMap (oneV B (V t))) ∧ Keep (dn = false → fst1 (B.take k) (s.k, s.i) = none) ∧ Keep (Sep W wr (rowV 42 3 v Q.length (pls Q) :: boxA sb (snv s) 39 :: boxA xb (vwL ta a va) 29 :: boxA yb (vwL tb b vb) 29 :: []))) (fun _ _ u _ => (m - intOf u).toNat)
      case atStart => exact ⟨0, false, P, by omega, rfl, rfl, by simpa using hPl, ⟨by simpa using HP.out⟩, ⟨fun _ => rfl⟩, HS3⟩
      case round =>
        clear HS3 HP hPl
        obtain ⟨k, dn, Q, hk, rfl, rfl, hQl, HQ, HF, HS⟩ := hrel
        have lB := (HS.out.boxGet k3m).cellv 15 _ rfl
        rw [HVB.out] at lB
        cases dn with
        | true =>
          replace HS := Keep.mk (HS.out.dropM [_] [_])
          have HQ2 : Keep (Q.map vP = ownV a b (V t) ++ (A.take (i + 1)).filterMap (oneV B (V t))) := ⟨by simpa using HQ.out⟩
          have hQ2 : Q.length ≤ i + 1 + 1 := by simpa using hQl
          clear HF HFM HQ hQl
          by_cases hlk : k < m
          · have hk1 : (k : Int) < (m : Nat) := by omega
            go_wp2_with fail
            go_roundw
            case rel => exact ⟨i + 1, Q, by omega, hQ2, rfl, HQ2, HS⟩
            case measure => simp [intOf]; omega
          · have hk1 : ¬ (k : Int) < (m : Nat) := by omega
            go_wp2_with fail
            go_roundw
            case rel => exact ⟨i + 1, Q, by omega, hQ2, rfl, HQ2, HS⟩
            case measure => simp [intOf]; omega
        | false =>
          by_cases hlk : k < m
          · obtain ⟨u, hu⟩ : ∃ s, B[k]? = some s := ⟨_, List.getElem?_eq_getElem (by rw [HN.out.2]; exact hlk)⟩
            obtain ⟨gb, ob, rfl, hcb⟩ := HB.out (by omega)
            have HX := Keep.mk (sn_cells (range_kept (hcb k u hu) HS.out.1))
            have hk0 : (0 : Int) ≤ (k : Int) := by omega
            have hk1 : (k : Int) < (m : Nat) := by omega
            have htk : ((k : Nat) : Int).toNat = k := by omega
            have hwk : IntKind.i64.wrap ((k : Int) + 1) = ((k + 1 : Nat) : Int) := by rw [wi _ (by omega) (by omega)]; omega
            obtain ⟨y0, y1, y2, y3, y4⟩ := HX.out
            have HU := Keep.mk hu
            have HS4 := Keep.mk (HS.out.newBox #[iv u.k, iv u.i, iv u.x, iv u.y, iv u.h] 39)
            obtain ⟨ub, hub⟩ : ∃ b, wr.heap.size = b := ⟨_, rfl⟩
            rw [hub] at HS4
            clear hcb hu HX HS
            go_upto_region 13 with fail
            clear y0 y1 y2 y3 y4 lB
            try rw [hub]
            clear hub
            generalize wr.alloc (.cells #[iv u.k, iv u.i, iv u.x, iv u.y, iv u.h] 39) = W5 at HS4 ⊢
            have u0 := (HS4.out.boxGet k0m).cellv 0 _ rfl
            have u1 := (HS4.out.boxGet k0m).cellv 1 _ rfl
            have s0 := (HS4.out.boxGet k2m).cellv 0 _ rfl
            have s1 := (HS4.out.boxGet k2m).cellv 1 _ rfl
            have hQ0 : Q.length ≤ i + 1 := by simpa using hQl
            by_cases e1 : u.k = s.k
            · by_cases e2 : u.i = s.i
              · have d1 : (u.k == s.k) = true := by simp [e1]
                have d2 : (u.i == s.i) = true := by simp [e2]
                have HFF := Keep.mk (fst1_hit HU.out (HF.out rfl) ⟨e1, e2⟩)
                have HQ0 : Keep (Q.map vP = ownV a b (V t) ++ (A.take i).filterMap (oneV B (V t))) := ⟨by simpa using HQ.out⟩
                clear e1 e2 HF HQ hQl
                go_upto_region 14 with fail
                clear u0 u1 s0 s1
                have HS : Keep (Sep W W5.drew (rowV 42 3 u7 Q.length (pls Q) :: boxA ub (snv u) 39 :: boxA sb (snv s) 39 :: boxA xb (vwL ta a va) 29 :: boxA yb (vwL tb b vb) 29 :: [])) := ⟨HS4.out.swap.grown (gr_drew W5 none)⟩
                clear HS4
                refine region_Y (S := fun w => Has w sb (snv s) 39 ∧ Has w ub (snv u) 39) [] (by kernel_rfl) ?_
                have hHeld := (⟨HS.out.boxGet k2m, HS.out.boxGet k1m⟩ : (fun w => Has w sb (snv s) 39 ∧ Has w ub (snv u) 39) W5.drew)
                refine wpAnyY_pure (i := 0) (oi := _) (v := ?_) rfl (by kernel_rfl) (by kernel_rfl) (by kernel_rfl) (by kernel_rfl) (fun _ _ _ h => h) (Or.inl ⟨by rfl, ?_⟩) ?_
                rotate_left
                · (intro w hSw; go_simp; first | done | (with_reducible rfl))
                simp only [Act.put, List.getElem_toArray, List.getElem_cons_zero, List.setIfInBounds_toArray, List.set_cons_zero, List.set_cons_succ]
                refine wpAnyY_pure (i := 1) (oi := _) (v := ?_) rfl (by kernel_rfl) (by kernel_rfl) (by kernel_rfl) (by kernel_rfl) (fun _ _ _ h => h) (Or.inl ⟨by rfl, ?_⟩) ?_
                rotate_left
                · (intro w hSw; go_simp; first | done | (with_reducible rfl))
                simp only [Act.put, List.getElem_toArray, List.getElem_cons_succ, List.getElem_cons_zero, List.setIfInBounds_toArray, List.set_cons_zero, List.set_cons_succ]
                refine wpAnyY_take (i := 2) (oi := _) (v := ?_) rfl (by kernel_rfl) (by kernel_rfl) (by kernel_rfl) (by kernel_rfl) (by kernel_rfl) (fun _ _ _ h => h) (Or.inl ⟨by rfl, ?_⟩) hHeld ?_
                rotate_left
                · (intro w hSw; have q0 := hSw.1.cellv 2 _ rfl; have q1 := hSw.1.cellv 3 _ rfl; go_simp; first | done | (with_reducible rfl))
                simp only [Act.put, List.getElem_toArray, List.getElem_cons_succ, List.getElem_cons_zero, List.setIfInBounds_toArray, List.set_cons_zero, List.set_cons_succ]
                refine wpAnyY_pure (i := 3) (oi := _) (v := ?_) rfl (by kernel_rfl) (by kernel_rfl) (by kernel_rfl) (by kernel_rfl) (fun _ _ _ h => h) (Or.inl ⟨by rfl, ?_⟩) ?_
                rotate_left
                · (intro w hSw; go_simp; first | done | (with_reducible rfl))
                simp only [Act.put, List.getElem_toArray, List.getElem_cons_succ, List.getElem_cons_zero, List.setIfInBounds_toArray, List.set_cons_zero, List.set_cons_succ]
                refine wpAnyY_take (i := 4) (oi := _) (v := ?_) rfl (by kernel_rfl) (by kernel_rfl) (by kernel_rfl) (by kernel_rfl) (by kernel_rfl) (fun _ _ _ h => h) (Or.inl ⟨by rfl, ?_⟩) hHeld ?_
                rotate_left
                · (intro w hSw; have q0 := hSw.1.cellv 4 _ rfl; go_simp; first | done | (with_reducible rfl))
                simp only [Act.put, List.getElem_toArray, List.getElem_cons_succ, List.getElem_cons_zero, List.setIfInBounds_toArray, List.set_cons_zero, List.set_cons_succ]
                refine wpAnyY_pure (i := 6) (oi := _) (v := ?_) rfl (by kernel_rfl) (by kernel_rfl) (by kernel_rfl) (by kernel_rfl) (fun _ _ _ h => h) (Or.inl ⟨by rfl, ?_⟩) ?_
                rotate_left
                · (intro w hSw; go_simp; first | done | (with_reducible rfl))
                simp only [Act.put, List.getElem_toArray, List.getElem_cons_succ, List.getElem_cons_zero, List.setIfInBounds_toArray, List.set_cons_zero, List.set_cons_succ]
                refine wpAnyY_take (i := 7) (oi := _) (v := ?_) rfl (by kernel_rfl) (by kernel_rfl) (by kernel_rfl) (by kernel_rfl) (by kernel_rfl) (fun _ _ _ h => h) (Or.inl ⟨by rfl, ?_⟩) hHeld ?_
                rotate_left
                · (intro w hSw; have q0 := hSw.2.cellv 2 _ rfl; have q1 := hSw.2.cellv 3 _ rfl; go_simp; first | done | (with_reducible rfl))
                simp only [Act.put, List.getElem_toArray, List.getElem_cons_succ, List.getElem_cons_zero, List.setIfInBounds_toArray, List.set_cons_zero, List.set_cons_succ]
                refine wpAnyY_pure (i := 8) (oi := _) (v := ?_) rfl (by kernel_rfl) (by kernel_rfl) (by kernel_rfl) (by kernel_rfl) (fun _ _ _ h => h) (Or.inl ⟨by rfl, ?_⟩) ?_
                rotate_left
                · (intro w hSw; go_simp; first | done | (with_reducible rfl))
                simp only [Act.put, List.getElem_toArray, List.getElem_cons_succ, List.getElem_cons_zero, List.setIfInBounds_toArray, List.set_cons_zero, List.set_cons_succ]
                refine wpAnyY_take (i := 9) (oi := _) (v := ?_) rfl (by kernel_rfl) (by kernel_rfl) (by kernel_rfl) (by kernel_rfl) (by kernel_rfl) (fun _ _ _ h => h) (Or.inl ⟨by rfl, ?_⟩) hHeld ?_
                rotate_left
                · (intro w hSw; have q0 := hSw.2.cellv 4 _ rfl; go_simp; first | done | (with_reducible rfl))
                simp only [Act.put, List.getElem_toArray, List.getElem_cons_succ, List.getElem_cons_zero, List.setIfInBounds_toArray, List.set_cons_zero, List.set_cons_succ]
                refine wpAnyY_pure (i := 11) (oi := _) (v := ?_) rfl (by kernel_rfl) (by kernel_rfl) (by kernel_rfl) (by kernel_rfl) (fun _ _ _ h => h) (Or.inl ⟨by rfl, ?_⟩) ?_
                rotate_left
                · (intro w hSw; go_simp; first | done | (with_reducible rfl))
                simp only [Act.put, List.getElem_toArray, List.getElem_cons_succ, List.getElem_cons_zero, List.setIfInBounds_toArray, List.set_cons_zero, List.set_cons_succ]
                refine wpAnyY_one (i := 5) (by kernel_rfl) rfl (fun K hK => ?_)
                go_simp
                refine (rof_c s.x s.y s.h _).mono ?_
                rintro e w1 ⟨v, rfl, ⟨p1, p2, p3, rfl, e1, e2, e3⟩, g1⟩
                have HO1 := Keep.mk (And.intro e1 (And.intro e2 e3))
                have HT1 := Keep.mk (HS.out.grown g1)
                clear e1 e2 e3
                refine hK.out _ _ (fun h => ⟨h.1.kept g1 (by simp), h.2.kept g1 (by simp)⟩) ?_
                clear hK K g1
                refine wpAnyY_one (i := 10) (by kernel_rfl) rfl (fun K hK => ?_)
                go_simp
                refine (rof_c u.x u.y u.h _).mono ?_
                rintro e w2 ⟨v, rfl, ⟨q1, q2, q3, rfl, e1, e2, e3⟩, g2⟩
                have HO2 := Keep.mk (And.intro e1 (And.intro e2 e3))
                have HT2 := Keep.mk (HT1.out.grown g2)
                clear e1 e2 e3
                refine hK.out _ _ (fun h => ⟨h.1.kept g2 (by simp), h.2.kept g2 (by simp)⟩) ?_
                clear hK K g2 HT1
                refine wpAnyY_one (i := 12) (by kernel_rfl) rfl (fun K hK => ?_)
                go_simp
                refine (rmix_c p1 p2 p3 q1 q2 q3 t _).mono ?_
                rintro e w3 ⟨v, rfl, ⟨r1, r2, r3, rfl, e1, e2, e3⟩, g3⟩
                have HO3 : Keep (vP ⟨r1, r2, r3⟩ = mixV (ofV s.x s.y s.h) (ofV u.x u.y u.h) (V t)) := ⟨by
                  have hA : (⟨V p1, V p2, V p3⟩ : Pl) = ofV s.x s.y s.h := by
                    obtain ⟨x1, x2, x3⟩ := HO1.out
                    rw [x1, x2, x3]
                  have hB : (⟨V q1, V q2, V q3⟩ : Pl) = ofV u.x u.y u.h := by
                    obtain ⟨x1, x2, x3⟩ := HO2.out
                    rw [x1, x2, x3]
                  rw [hA, hB] at e1 e2 e3
                  unfold vP
                  simp only
                  rw [e1, e2, e3]⟩
                have HT3 := Keep.mk (HT2.out.grown g3)
                clear e1 e2 e3
                refine hK.out _ _ (fun h => ⟨h.1.kept g3 (by simp), h.2.kept g3 (by simp)⟩) ?_
                clear hK K g3 HT2 HO1 HO2
                refine wpAnyY_one (i := 13) (by kernel_rfl) rfl (fun K hK => ?_)
                have bs := bsP r1 r2 r3 w3
                have g6 := gr_alloc w3 (.cells #[fv r1, fv r2, fv r3] 42) none
                obtain ⟨g9, c9, w9, ap, S9⟩ := Sep.appP HT3.out ⟨r1, r2, r3⟩ (by omega)
                have AP := Keep.mk ap
                have HS9 := Keep.mk S9
                clear ap S9 HT3
                obtain ⟨w6, hw6⟩ : ∃ w, w3.alloc (.cells #[fv r1, fv r2, fv r3] 42) = w := ⟨_, rfl⟩
                obtain ⟨b6, hb6⟩ : ∃ b, w3.heap.size = b := ⟨_, rfl⟩
                rw [hw6, hb6] at bs
                simp only [] at AP
                rw [hw6, hb6] at AP
                rw [hw6] at g6
                go_simp
                refine hK.out _ _ (fun h => ⟨h.1.kept g6 (by simp), h.2.kept g6 (by simp)⟩) ?_
                clear hK K bs hw6 hb6 g6
                refine wpAnyY_one (i := 14) (by kernel_rfl) rfl (fun K hK => ?_)
                rw [if_pos (show Region.wanted _ _ = true from rfl)]
                refine wp_append_run (.tmp 91) (.tmp 104) 35 rfl _ _ rfl rfl AP.out ?_
                refine hK.out _ _ (fun _ => ⟨HS9.out.boxGet k2m, HS9.out.boxGet k1m⟩) ?_
                clear hK K
                simp only [Act.put, List.getElem_toArray, List.getElem_cons_succ, List.getElem_cons_zero, List.setIfInBounds_toArray, List.set_cons_zero, List.set_cons_succ]
                refine wpAnyY_one (i := 15) (by kernel_rfl) rfl (fun K hK => ?_)
                go_simp
                refine hK.out _ _ (fun h => h) ?_
                clear hK K
                refine wpAnyY_done (by kernel_rfl) ?_ _
                have HP2 : Keep ((Q ++ [(⟨r1, r2, r3⟩ : Pt)]).map vP = ownV a b (V t) ++ (A.take (i + 1)).filterMap (oneV B (V t))) := ⟨by
                  rw [HFM.out, List.map_append, HQ0.out]
                  unfold oneV
                  rw [HFF.out]
                  simp [HO3.out]⟩
                have HS10 := Keep.mk (HS9.out.dropM [_] [_])
                clear HS9 AP HO3 HQ0 HFF
                have hPl2 : (Q ++ [(⟨r1, r2, r3⟩ : Pt)]).length ≤ i + 1 + 1 := by simp; omega
                go_wp2_with fail
                go_roundw
                case rel => exact ⟨k + 1, true, Q ++ [(⟨r1, r2, r3⟩ : Pt)], by omega, rfl, rfl, by simpa using hPl2, ⟨by simpa using HP2.out⟩, ⟨fun h => by cases h⟩, HS10⟩
                case measure => simp [intOf]; omega
              · have d1 : (u.k == s.k) = true := by simp [e1]
                have d2 : (u.i == s.i) = false := by simp [e2]
                have HF2 := Keep.mk (fst1_more HU.out (HF.out rfl) (fun h => e2 h.2))
                have HS5 := Keep.mk HS4.out.tail
                clear e1 e2 HF
                go_wp2_with fail
                go_roundw
                case rel => exact ⟨k + 1, false, Q, by omega, rfl, rfl, hQl, HQ, ⟨fun _ => HF2.out⟩, HS5⟩
                case measure => simp [intOf]; omega
            · have d1 : (u.k == s.k) = false := by simp [e1]
              have HF2 := Keep.mk (fst1_more HU.out (HF.out rfl) (fun h => e1 h.1))
              have HS5 := Keep.mk HS4.out.tail
              clear e1 HF
              go_wp2_with fail
              go_roundw
              case rel => exact ⟨k + 1, false, Q, by omega, rfl, rfl, hQl, HQ, ⟨fun _ => HF2.out⟩, HS5⟩
              case measure => simp [intOf]; omega
          · have hk1 : ¬ (k : Int) < (m : Nat) := by omega
            have hkm : k = m := by omega
            have HF2 := HF.out rfl
            rw [hkm, ← HN.out.2, List.take_length] at HF2
            have HQ2 : Keep (Q.map vP = ownV a b (V t) ++ (A.take (i + 1)).filterMap (oneV B (V t))) := ⟨by
              have h := HQ.out
              simp only [Bool.false_eq_true, if_false] at h
              rw [HFM.out, h]
              unfold oneV
              rw [HF2]
              simp⟩
            replace HS := Keep.mk (HS.out.dropM [_] [_])
            have hQ2 : Q.length ≤ i + 1 + 1 := by have : Q.length ≤ i + 1 := by simpa using hQl
                                                  omega
            clear HF HF2 HFM HQ hQl
            go_wp2_with fail
            go_roundw
            case rel => exact ⟨i + 1, Q, by omega, hQ2, rfl, HQ2, HS⟩
            case measure => simp [intOf]; omega
    · have hi1 : ¬ (i : Int) < (n : Nat) := by omega
      have hin : i = n := by omega
      rw [hin, ← HN.out.1, List.take_length] at HP
      clear hin
      go_wp2_with fail
      go_ret
      exact ⟨_, rfl, P, HP.out, HS.out.dropM [_] [_, _]⟩
end Go.Proofs.Ytfhhneibdmjfgab
