/- PackForm: the walk. -/
import Derived.Test.YtkddfnglonofoaaF0
namespace Go.Proofs.Ytkddfnglonofoaa
open Go Go.RowKit

theorem bs_len (l : List UInt8) : (⟨l.toArray⟩ : ByteArray).size = l.length := by simp [ByteArray.size]
theorem rText_room (R : RS) : (rText R).1.length ≤ R.1.length := by
  have h2 := rTake_room (rNum R 1).2 (rNum R 1).1
  have h4 := rNumL_room R 1
  have h5 : (rNum R 1).2 = (rNumL R 1).2 := rfl
  rw [h5] at h2
  have h6 : rText R = rTake (rNumL R 1).2 (rNum R 1).1 := rfl
  rw [h6]
  omega
theorem FI.left {L : List UInt8} {R : RS} {st : WS} {N : Nat} (h : FI L R st N) (ho : R.ok) : R.1.length ≤ L.length := by
  by_cases h0 : R.2 = 0
  · obtain ⟨p, _, e⟩ := h.g h0
    rw [e, List.length_append]; omega
  · rw [ho h0]; simp
set_option maxRecDepth 100000 in
set_option maxHeartbeats 8000000 in
theorem form_walk (s : ByteArray) (a : Option Addr) (n c : Nat) (xs : List OpT) (w : World) (hx : Scr w a n xs) (hb : s.size + 8 * n ≤ 179999999999968) (hs8 : s.size ≤ 140737488355312) :
    Calls Try.prog 3 #[.string s, .slice a n c] w fun e w' => e = .returned (.bool true) ∧ w.grownBy w' none := by
  have HX : Keep (Scr w a n xs) := ⟨hx⟩
  clear hx
  go_enter Try.func3, Try.ntmps3
  go_wp2_with fail
  refine (alive_c w).mono ?_
  rintro e w1 ⟨rfl, g1⟩
  go_wp2_with fail
  refine (newR_c s w1).mono ?_
  rintro e w2 ⟨rb, B, rfl, a2, g2, hr2, hB2⟩
  have H2 : Keep (Mine w w2 [rO rb B (sl s, 0)]) := ⟨Mine.newR ⟨g1, Sep.nil _ _⟩ a2 g2 hr2 hB2⟩
  clear a2 g2 hr2 hB2 g1
  go_wp2_with fail
  refine (newW_c w2).mono ?_
  rintro e w3 ⟨wb, rfl, a3, g3, hb3⟩
  have H3 : Keep (Mine w w3 ([] ++ wO wb (.slice none 0 0) (some []) :: [rO rb B (sl s, 0)])) := ⟨H2.out.newW a3 g3 (by omega)⟩
  clear a3 g3 hb3 H2
  go_wp2_with fail
  go_loopw [7] (fun t w' => ∃ i : Nat, i ≤ n ∧ t = .int .i64 i ∧ Keep (∃ v R st, FI (sl s) R st (s.size + 8 * i) ∧ Mine w w' ([] ++ wO wb v st :: [rO rb B R]))) (fun t _ => n - (intOf t).toNat)
  case atStart => exact ⟨0, Nat.zero_le _, rfl, ⟨_, _, _, (FI.start (sl s)).up (by rw [sl_len]; omega), H3.out⟩⟩
  case round =>
    obtain ⟨i, hi, rfl, HI⟩ := hrel
    clear H3
    by_cases hlt : i < n
    · have hlt2 : (i : Int) < n := by omega
      obtain ⟨Bx, kx, o, rfl, hoi, hok, hat⟩ := HX.out.get hlt
      obtain ⟨v, R, st, hF, HM⟩ := HI.out
      have HF : Keep (FI (sl s) R st (s.size + 8 * i)) := ⟨hF⟩
      have HRL : Keep (R.1.length ≤ s.size) := ⟨by have := hF.left (Mine.r (A := [_]) HM).ok; rwa [sl_len] at this⟩
      have hbb := hF.b
      obtain ⟨q0, q1, q2, q3, q4⟩ := hat.kept HM.g
      have hwi : IntKind.i64.wrap ((i : Int) + 1) = ((i + 1 : Nat) : Int) := by rw [wi _ (by omega) (by omega)]; omega
      have HM1 : Keep (Mine w (wr.alloc (.cells #[.int .i64 o.kind, .int .u64 o.u, .int .i64 o.i, .int .i64 o.size, .string o.s] 30)) ([hO wr.heap.size (ocs o) 30] ++ wO wb v st :: [rO rb B R])) := ⟨HM.newH _ 30⟩
      clear HI HM hat hok hoi hF
      have HBB : Keep ((st.getD []).length + R.1.length ≤ s.size + 8 * i) := ⟨hbb⟩
      clear hbb
      obtain ⟨kd, hkd⟩ : ∃ q, o.kind = q := ⟨_, rfl⟩
      rw [hkd] at q0
      obtain ⟨w8, hw8⟩ : ∃ q, wr.alloc (.cells #[.int .i64 kd, .int .u64 o.u, .int .i64 o.i, .int .i64 o.size, .string o.s] 30) = q := ⟨_, rfl⟩
      rw [hkd, hw8] at HM1
      obtain ⟨ob, hob⟩ : ∃ q, wr.heap.size = q := ⟨_, rfl⟩
      rw [hob] at HM1
      have hcs : ocs o = [.int .i64 kd, .int .u64 o.u, .int .i64 o.i, .int .i64 o.size, .string o.s] := by rw [← hkd]
      rw [hcs] at HM1
      clear hkd hcs
      have p0 : w8.cell? ⟨ob, 0, none⟩ = some (.int .i64 kd) := (Mine.h (A := []) HM1.out).cellv 0 _ rfl
      by_cases h1 : kd = 1
      · subst h1
        go_wp2_with fail
        have HC : Keep (∀ W : World, Has W ob [.int .i64 1, .int .u64 o.u, .int .i64 o.i, .int .i64 o.size, .string o.s] 30 → W.cell? ⟨ob, 3, none⟩ = some (.int .i64 o.size)) := ⟨fun W h => h.cellv 3 _ rfl⟩
        have HM2 : Keep (Mine w w8.drew ([hO ob [.int .i64 1, .int .u64 o.u, .int .i64 o.i, .int .i64 o.size, .string o.s] 30, wO wb v st] ++ [rO rb B R])) := ⟨HM1.out.grown (gr_drew _ _)⟩
        clear HM1 q0 q1 q2 q3 q4 hw8
        refine wp_region_held_drew (S := fun w' => Has w' ob [.int .i64 1, .int .u64 o.u, .int .i64 o.i, .int .i64 o.size, .string o.s] 30) (by kernel_rfl) (Mine.h (A := []) HM2.out) (fun hHeld => ?_)
        refine wpAnyH_take (i := 0) (oi := _) (v := ?_) rfl (by kernel_rfl) (by kernel_rfl) (by kernel_rfl) (fun _ _ _ h => h) (Or.inl ⟨by rfl, ?_⟩) (by assumption) ?_
        rotate_left
        · (intro w hSw; go_simp; first | done | (with_reducible rfl))
        simp only [Act.put, List.getElem_toArray, List.getElem_cons_zero, List.setIfInBounds_toArray, List.set_cons_zero, List.set_cons_succ]
        refine wpAnyH_take (i := 1) (oi := _) (v := ?_) rfl (by kernel_rfl) (by kernel_rfl) (by kernel_rfl) (fun _ _ _ h => h) (Or.inl ⟨by rfl, ?_⟩) (by assumption) ?_
        rotate_left
        · (intro w hSw; go_simp; first | done | (with_reducible rfl))
        simp only [Act.put, List.getElem_toArray, List.getElem_cons_succ, List.getElem_cons_zero, List.setIfInBounds_toArray, List.set_cons_zero, List.set_cons_succ]
        refine wpAnyH_take (i := 2) (oi := _) (v := ?_) rfl (by kernel_rfl) (by kernel_rfl) (by kernel_rfl) (fun _ _ _ h => h) (Or.inl ⟨by rfl, ?_⟩) (by assumption) ?_
        rotate_left
        · (intro w hSw; go_simp; first | done | (with_reducible rfl))
        simp only [Act.put, List.getElem_toArray, List.getElem_cons_succ, List.getElem_cons_zero, List.setIfInBounds_toArray, List.set_cons_zero, List.set_cons_succ]
        refine wpAnyH_take (i := 3) (oi := _) (v := ?_) rfl (by kernel_rfl) (by kernel_rfl) (by kernel_rfl) (fun _ _ _ h => h) (Or.inl ⟨by rfl, ?_⟩) (by assumption) ?_
        rotate_left
        · (intro w hSw; have x3 := HC.out w hSw; go_simp; first | done | (with_reducible rfl))
        simp only [Act.put, List.getElem_toArray, List.getElem_cons_succ, List.getElem_cons_zero, List.setIfInBounds_toArray, List.set_cons_zero, List.set_cons_succ]
        refine wpAnyH_take (i := 5) (oi := _) (v := ?_) rfl (by kernel_rfl) (by kernel_rfl) (by kernel_rfl) (fun _ _ _ h => h) (Or.inl ⟨by rfl, ?_⟩) (by assumption) ?_
        rotate_left
        · (intro w hSw; go_simp; first | done | (with_reducible rfl))
        simp only [Act.put, List.getElem_toArray, List.getElem_cons_succ, List.getElem_cons_zero, List.setIfInBounds_toArray, List.set_cons_zero, List.set_cons_succ]
        refine wpAnyH_take (i := 6) (oi := _) (v := ?_) rfl (by kernel_rfl) (by kernel_rfl) (by kernel_rfl) (fun _ _ _ h => h) (Or.inl ⟨by rfl, ?_⟩) (by assumption) ?_
        rotate_left
        · (intro w hSw; have x3 := HC.out w hSw; go_simp; first | done | (with_reducible rfl))
        simp only [Act.put, List.getElem_toArray, List.getElem_cons_succ, List.getElem_cons_zero, List.setIfInBounds_toArray, List.set_cons_zero, List.set_cons_succ]
        refine wpAnyH_ready (rs := [4]) (by kernel_rfl) (by simp) ?_
        refine AllReadyH.cons rfl (fun K hK => ?_) AllReadyH.nil
        go_simp
        go_wp2_with (go_at_call 13; refine (rNumber_c rb B R o.size _ (Mine.r (A := [_, _]) HM2.out)).mono ?_; rintro e wa ⟨rfl, da⟩; have HM3 : Keep (Mine w wa ([hO ob [.int .i64 1, .int .u64 o.u, .int .i64 o.i, .int .i64 o.size, .string o.s] 30] ++ wO wb v st :: [rO rb B (rNum R o.size).2])) := ⟨Mine.rdid (A := [_, _]) HM2.out da⟩; clear da HM2)
        refine hK.out _ _ (Mine.h (A := []) HM3.out) (fun hHeld => ?_)
        clear hK K
        refine wpAnyH_ready (rs := [7]) (by kernel_rfl) (by simp) ?_
        refine AllReadyH.cons rfl (fun K hK => ?_) AllReadyH.nil
        go_simp
        go_wp2_with (go_at_call 12; refine (wNumber_c wb v st (rNum R o.size).1 o.size wa (Mine.w (A := [_]) HM3.out) (rNum_lt R o.size) (by have := HBB.out; omega)).mono ?_; rintro e wb2 ⟨rfl, v2, d2⟩; have HM4 : Keep (Mine w wb2 ([hO ob [.int .i64 1, .int .u64 o.u, .int .i64 o.i, .int .i64 o.size, .string o.s] 30] ++ wO wb v2 (wNum st (rNum R o.size).1 o.size) :: [rO rb B (rNum R o.size).2])) := ⟨Mine.wdid (A := [_]) HM3.out d2⟩; clear d2 HM3)
        refine hK.out _ _ (Mine.h (A := []) HM4.out) (fun hHeld => ?_)
        clear hK K
        refine wpAnyH_done (by kernel_rfl) ?_ _
        clear hHeld HC
        have HZ : Keep (∃ v R st, FI (sl s) R st (s.size + 8 * (i + 1)) ∧ Mine w wb2 ([] ++ wO wb v st :: [rO rb B R])) := ⟨v2, _, _, (HF.out.num o.size).up (by omega), HM4.out.sub (List.sublist_cons_self _ _)⟩
        clear HM4 HF HBB
        go_wp2_with fail
        exact ⟨⟨i + 1, by omega, by simp, HZ⟩, by simp only [intOf]; omega⟩
      · skip
        by_cases h2 : kd = 2
        · subst h2
          go_wp2_with fail
          have HC : Keep (∀ W : World, Has W ob [.int .i64 2, .int .u64 o.u, .int .i64 o.i, .int .i64 o.size, .string o.s] 30 → W.cell? ⟨ob, 3, none⟩ = some (.int .i64 o.size)) := ⟨fun W h => h.cellv 3 _ rfl⟩
          have HM2 : Keep (Mine w w8.drew ([hO ob [.int .i64 2, .int .u64 o.u, .int .i64 o.i, .int .i64 o.size, .string o.s] 30, wO wb v st] ++ [rO rb B R])) := ⟨HM1.out.grown (gr_drew _ _)⟩
          clear HM1 q0 q1 q2 q3 q4 hw8
          refine wp_region_held_drew (S := fun w' => Has w' ob [.int .i64 2, .int .u64 o.u, .int .i64 o.i, .int .i64 o.size, .string o.s] 30) (by kernel_rfl) (Mine.h (A := []) HM2.out) (fun hHeld => ?_)
          refine wpAnyH_take (i := 0) (oi := _) (v := ?_) rfl (by kernel_rfl) (by kernel_rfl) (by kernel_rfl) (fun _ _ _ h => h) (Or.inl ⟨by rfl, ?_⟩) (by assumption) ?_
          rotate_left
          · (intro w hSw; go_simp; first | done | (with_reducible rfl))
          simp only [Act.put, List.getElem_toArray, List.getElem_cons_zero, List.setIfInBounds_toArray, List.set_cons_zero, List.set_cons_succ]
          refine wpAnyH_take (i := 1) (oi := _) (v := ?_) rfl (by kernel_rfl) (by kernel_rfl) (by kernel_rfl) (fun _ _ _ h => h) (Or.inl ⟨by rfl, ?_⟩) (by assumption) ?_
          rotate_left
          · (intro w hSw; go_simp; first | done | (with_reducible rfl))
          simp only [Act.put, List.getElem_toArray, List.getElem_cons_succ, List.getElem_cons_zero, List.setIfInBounds_toArray, List.set_cons_zero, List.set_cons_succ]
          refine wpAnyH_take (i := 2) (oi := _) (v := ?_) rfl (by kernel_rfl) (by kernel_rfl) (by kernel_rfl) (fun _ _ _ h => h) (Or.inl ⟨by rfl, ?_⟩) (by assumption) ?_
          rotate_left
          · (intro w hSw; go_simp; first | done | (with_reducible rfl))
          simp only [Act.put, List.getElem_toArray, List.getElem_cons_succ, List.getElem_cons_zero, List.setIfInBounds_toArray, List.set_cons_zero, List.set_cons_succ]
          refine wpAnyH_take (i := 3) (oi := _) (v := ?_) rfl (by kernel_rfl) (by kernel_rfl) (by kernel_rfl) (fun _ _ _ h => h) (Or.inl ⟨by rfl, ?_⟩) (by assumption) ?_
          rotate_left
          · (intro w hSw; have x3 := HC.out w hSw; go_simp; first | done | (with_reducible rfl))
          simp only [Act.put, List.getElem_toArray, List.getElem_cons_succ, List.getElem_cons_zero, List.setIfInBounds_toArray, List.set_cons_zero, List.set_cons_succ]
          refine wpAnyH_take (i := 5) (oi := _) (v := ?_) rfl (by kernel_rfl) (by kernel_rfl) (by kernel_rfl) (fun _ _ _ h => h) (Or.inl ⟨by rfl, ?_⟩) (by assumption) ?_
          rotate_left
          · (intro w hSw; go_simp; first | done | (with_reducible rfl))
          simp only [Act.put, List.getElem_toArray, List.getElem_cons_succ, List.getElem_cons_zero, List.setIfInBounds_toArray, List.set_cons_zero, List.set_cons_succ]
          refine wpAnyH_take (i := 6) (oi := _) (v := ?_) rfl (by kernel_rfl) (by kernel_rfl) (by kernel_rfl) (fun _ _ _ h => h) (Or.inl ⟨by rfl, ?_⟩) (by assumption) ?_
          rotate_left
          · (intro w hSw; have x3 := HC.out w hSw; go_simp; first | done | (with_reducible rfl))
          simp only [Act.put, List.getElem_toArray, List.getElem_cons_succ, List.getElem_cons_zero, List.setIfInBounds_toArray, List.set_cons_zero, List.set_cons_succ]
          refine wpAnyH_ready (rs := [4]) (by kernel_rfl) (by simp) ?_
          refine AllReadyH.cons rfl (fun K hK => ?_) AllReadyH.nil
          go_simp
          go_wp2_with (go_at_call 15; refine (rSigned_c rb B R o.size _ (Mine.r (A := [_, _]) HM2.out)).mono ?_; rintro e wa ⟨rfl, da⟩; have HM3 : Keep (Mine w wa ([hO ob [.int .i64 2, .int .u64 o.u, .int .i64 o.i, .int .i64 o.size, .string o.s] 30] ++ wO wb v st :: [rO rb B (rSig R o.size).2])) := ⟨Mine.rdid (A := [_, _]) HM2.out da⟩; clear da HM2)
          refine hK.out _ _ (Mine.h (A := []) HM3.out) (fun hHeld => ?_)
          clear hK K
          refine wpAnyH_ready (rs := [7]) (by kernel_rfl) (by simp) ?_
          refine AllReadyH.cons rfl (fun K hK => ?_) AllReadyH.nil
          go_simp
          go_wp2_with (go_at_call 14; refine (wSigned_c wb v st (rSig R o.size).1 o.size wa (Mine.w (A := [_]) HM3.out) (sval8 _ (rNumL_len R o.size)) (by have := HBB.out; omega)).mono ?_; rintro e wb2 ⟨rfl, v2, d2⟩; have HM4 : Keep (Mine w wb2 ([hO ob [.int .i64 2, .int .u64 o.u, .int .i64 o.i, .int .i64 o.size, .string o.s] 30] ++ wO wb v2 (wSig st (rSig R o.size).1 o.size) :: [rO rb B (rSig R o.size).2])) := ⟨Mine.wdid (A := [_]) HM3.out d2⟩; clear d2 HM3)
          refine hK.out _ _ (Mine.h (A := []) HM4.out) (fun hHeld => ?_)
          clear hK K
          refine wpAnyH_done (by kernel_rfl) ?_ _
          clear hHeld HC
          have HZ : Keep (∃ v R st, FI (sl s) R st (s.size + 8 * (i + 1)) ∧ Mine w wb2 ([] ++ wO wb v st :: [rO rb B R])) := ⟨v2, _, _, (HF.out.sig o.size).up (by omega), HM4.out.sub (List.sublist_cons_self _ _)⟩
          clear HM4 HF HBB
          go_wp2_with fail
          exact ⟨⟨i + 1, by omega, by simp, HZ⟩, by simp only [intOf]; omega⟩
        · skip
          by_cases h3 : kd = 3
          · subst h3
            have p3 : w8.cell? ⟨ob, 3, none⟩ = some (.int .i64 o.size) := (Mine.h (A := []) HM1.out).cellv 3 _ rfl
            go_wp2_with fail
            refine (rBytes_c rb B R o.size w8 (Mine.r (A := [_, _]) HM1.out)).mono ?_
            rintro e wa ⟨rfl, da⟩
            have HM3 : Keep (Mine w wa ([hO ob [.int .i64 3, .int .u64 o.u, .int .i64 o.i, .int .i64 o.size, .string o.s] 30] ++ wO wb v st :: [rO rb B (rTake R o.size).2])) := ⟨Mine.rdid (A := [_, _]) HM1.out da⟩
            clear da HM1 q0 q1 q2 q3 q4 hw8
            go_wp2_with fail
            refine (wBytesW_c wb v st ⟨(rTake R o.size).1.toArray⟩ wa (Mine.w (A := [_]) HM3.out) (by have h1 := HBB.out; have h2 := rTake_room R o.size; rw [bs_len]; omega) (by have h1 := HRL.out; have h2 := rTake_room R o.size; rw [bs_len]; omega)).mono ?_
            rintro e wb2 ⟨rfl, v2, d2⟩
            rw [sl_mk] at d2
            have HM4 : Keep (Mine w wb2 ([hO ob [.int .i64 3, .int .u64 o.u, .int .i64 o.i, .int .i64 o.size, .string o.s] 30] ++ wO wb v2 (wBytes st (rTake R o.size).1) :: [rO rb B (rTake R o.size).2])) := ⟨Mine.wdid (A := [_]) HM3.out d2⟩
            clear d2 HM3
            have HZ : Keep (∃ v R st, FI (sl s) R st (s.size + 8 * (i + 1)) ∧ Mine w wb2 ([] ++ wO wb v st :: [rO rb B R])) := ⟨v2, _, _, (HF.out.bytes o.size).up (by omega), HM4.out.sub (List.sublist_cons_self _ _)⟩
            clear HM4 HF HBB
            go_wp2_with fail
            exact ⟨⟨i + 1, by omega, by simp, HZ⟩, by simp only [intOf]; omega⟩
          · skip
            by_cases h4 : kd = 4
            · subst h4
              have p3 : w8.cell? ⟨ob, 3, none⟩ = some (.int .i64 o.size) := (Mine.h (A := []) HM1.out).cellv 3 _ rfl
              go_wp2_with fail
              refine (rText_c rb B R w8 (Mine.r (A := [_, _]) HM1.out)).mono ?_
              rintro e wa ⟨rfl, da⟩
              have HM3 : Keep (Mine w wa ([hO ob [.int .i64 4, .int .u64 o.u, .int .i64 o.i, .int .i64 o.size, .string o.s] 30] ++ wO wb v st :: [rO rb B (rText R).2])) := ⟨Mine.rdid (A := [_, _]) HM1.out da⟩
              clear da HM1 q0 q1 q2 q3 q4 hw8
              go_wp2_with fail
              refine (wTextW_c wb v st ⟨(rText R).1.toArray⟩ wa (Mine.w (A := [_]) HM3.out) (by have h1 := HBB.out; have h2 := rText_room R; rw [bs_len]; omega) (by have h1 := HRL.out; have h2 := rText_room R; rw [bs_len]; omega)).mono ?_
              rintro e wb2 ⟨rfl, v2, d2⟩
              rw [sl_mk] at d2
              have HM4 : Keep (Mine w wb2 ([hO ob [.int .i64 4, .int .u64 o.u, .int .i64 o.i, .int .i64 o.size, .string o.s] 30] ++ wO wb v2 (wText st (rText R).1) :: [rO rb B (rText R).2])) := ⟨Mine.wdid (A := [_]) HM3.out d2⟩
              clear d2 HM3
              have HZ : Keep (∃ v R st, FI (sl s) R st (s.size + 8 * (i + 1)) ∧ Mine w wb2 ([] ++ wO wb v st :: [rO rb B R])) := ⟨v2, _, _, (HF.out.text).up (by omega), HM4.out.sub (List.sublist_cons_self _ _)⟩
              clear HM4 HF HBB
              go_wp2_with fail
              exact ⟨⟨i + 1, by omega, by simp, HZ⟩, by simp only [intOf]; omega⟩
            · skip
              have HZ : Keep (∃ v R st, FI (sl s) R st (s.size + 8 * (i + 1)) ∧ Mine w w8 ([] ++ wO wb v st :: [rO rb B R])) := ⟨v, R, st, HF.out.up (by omega), HM1.out.sub (List.sublist_cons_self _ _)⟩
              clear HM1 HF HBB
              go_wp2_with fail
              exact ⟨⟨i + 1, by omega, by simp, HZ⟩, by simp only [intOf]; omega⟩
    · have hlt2 : ¬ ((i : Int) < n) := by omega
      obtain ⟨v, R, st, hF, HM⟩ := HI.out
      have HF : Keep (FI (sl s) R st (s.size + 8 * i)) := ⟨hF⟩
      have HRL : Keep (R.1.length ≤ s.size) := ⟨by have := hF.left (Mine.r (A := [_]) HM).ok; rwa [sl_len] at this⟩
      have HM1 : Keep (Mine w wr ([wO wb v st] ++ [rO rb B R])) := ⟨HM⟩
      clear HI HM hF
      go_wp2_with fail
      refine (rRest_c rb B R wr HM1.out.r).mono ?_
      rintro e w4 ⟨rfl, d4⟩
      have HM2 : Keep (Mine w w4 ([] ++ wO wb v st :: [rO rb B ([], R.2)])) := ⟨HM1.out.rdid d4⟩
      clear d4 HM1
      go_wp2_with fail
      refine (wBytesW_c wb v st ⟨R.1.toArray⟩ w4 HM2.out.w (by have := HF.out.b; rw [bs_len]; omega) (by have := HRL.out; rw [bs_len]; omega)).mono ?_
      rintro e w5 ⟨rfl, v5, d5⟩
      rw [sl_mk] at d5
      have HM3 : Keep (Mine w w5 ([wO wb v5 (wBytes st R.1)] ++ [rO rb B ([], R.2)])) := ⟨HM2.out.wdid d5⟩
      clear d5 HM2
      go_wp2_with fail
      refine (rDone_c rb B _ w5 HM3.out.r).mono ?_
      rintro e w6 ⟨rfl, h6⟩
      subst h6
      have hd : rDone ([], R.2) = R.2 := rfl
      rw [hd]
      clear hd
      rcases HF.out.e with h0 | h0 | h0
      · have HD : Keep (wBytes st R.1 = some (sl s)) := ⟨HF.out.rest h0⟩
        rw [h0] at HM3 ⊢
        rw [HD.out] at HM3
        clear h0 HD HF
        go_wp2_with fail
        refine (wDone_c wb v5 _ w6 (Mine.w (A := []) HM3.out)).mono ?_
        rintro e w7 ⟨rfl, g7⟩
        have HG : Keep (w.grownBy w7 none) := ⟨HM3.out.g.trans g7⟩
        clear g7 HM3
        have e1 : (⟨((some (sl s) : WS).getD []).toArray⟩ : ByteArray) = s := sl_back s
        have e2 : werr (some (sl s)) = 0 := rfl
        rw [e1, e2]
        clear e1 e2
        go_wp2_with fail
        go_ret
        exact ⟨by simp, HG.out⟩
      · rw [h0] at HM3 ⊢
        clear h0 HF
        go_wp2_with fail
        refine (rDone_c rb B _ w6 HM3.out.r).mono ?_
        rintro e w7 ⟨rfl, h7⟩
        subst h7
        have hd : rDone ([], 50) = 50 := rfl
        rw [hd]
        clear hd
        go_wp2_with fail
        go_ret
        exact ⟨rfl, HM3.out.g⟩
      · rw [h0] at HM3 ⊢
        clear h0 HF
        go_wp2_with fail
        refine (rDone_c rb B _ w6 HM3.out.r).mono ?_
        rintro e w7 ⟨rfl, h7⟩
        subst h7
        have hd : rDone ([], 51) = 51 := rfl
        rw [hd]
        clear hd
        go_wp2_with fail
        refine (rDone_c rb B _ _ HM3.out.r).mono ?_
        rintro e w8 ⟨rfl, h8⟩
        subst h8
        have hd : rDone ([], 51) = 51 := rfl
        rw [hd]
        clear hd
        go_wp2_with fail
        go_ret
        exact ⟨rfl, HM3.out.g⟩
end Go.Proofs.Ytkddfnglonofoaa
