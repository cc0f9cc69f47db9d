/- PackBack: the walk. -/
import Derived.Test.YtkddfnglonofoaaE0
namespace Go.Proofs.Ytkddfnglonofoaa
open Go Go.RowKit

theorem bs_eq (s : ByteArray) : (⟨(sl s).toArray⟩ : ByteArray) = s := sl_back s

set_option maxRecDepth 100000 in
set_option maxHeartbeats 8000000 in
theorem back_walk (a : Option Addr) (n c : Nat) (xs : List OpT) (w : World) (hx : Scr w a n xs) (hn : n * 48 ≤ 140737488355328) (hb : bulk xs ≤ 100000000000000) :
    Calls Try.prog 5 #[.slice a n c] w fun e w' => e = .returned (.bool true) ∧ w.grownBy w' none := by
  have HX : Keep (Scr w a n xs) := ⟨hx⟩
  have HBK : Keep (bulk xs ≤ 100000000000000) := ⟨hb⟩
  clear hx hb
  go_enter Try.func5, Try.ntmps5
  go_wp2_with fail
  refine (alive_c w).mono ?_
  rintro e w1 ⟨rfl, g1⟩
  go_wp2_with fail
  refine (newW_c w1).mono ?_
  rintro e w2 ⟨wb, rfl, a2, g2, hb2⟩
  have H2 : Keep (Mine w w2 [wO wb (.slice none 0 0) (some [])]) := ⟨Mine.newW ⟨g1, Sep.nil _ _⟩ a2 g2 (by omega)⟩
  clear a2 g2 hb2 g1
  go_wp2_with fail
  go_loopw [4] (fun t w' => ∃ i : Nat, i ≤ n ∧ t = .int .i64 i ∧ Keep (∃ v, Mine w w' ([] ++ [wO wb v (wLays (some []) (xs.take i))]))) (fun t _ => n - (intOf t).toNat)
  case atStart => exact ⟨0, Nat.zero_le _, rfl, ⟨_, H2.out⟩⟩
  case round =>
    obtain ⟨i, hi, rfl, HI⟩ := hrel
    clear H2
    by_cases hlt : i < n
    · have hlt2 : (i : Int) < n := by omega
      obtain ⟨Bx, kx, o, rfl, hoi, hok, hat⟩ := HX.out.get hlt
      obtain ⟨v, HM⟩ := HI.out
      have HM1 := Keep.mk HM
      have HOK : Keep o.Ok := ⟨hok⟩
      have HRM : Keep (((wLays (some []) (xs.take i)).getD []).length + o.s.size ≤ 140737488355312) := ⟨lays_room xs i o hoi HBK.out⟩
      have HST : Keep (wLays (some []) (xs.take (i + 1)) = wLay (wLays (some []) (xs.take i)) o) := ⟨wLays_step _ _ _ _ hoi⟩
      obtain ⟨q0, q1, q2, q3, q4⟩ := hat.kept HM.g
      have hwi : IntKind.i64.wrap ((i : Int) + 1) = ((i + 1 : Nat) : Int) := by rw [wi _ (by omega) (by omega)]; omega
      clear HI HM hat hok hoi
      go_wp2_with fail
      refine (lay_c wb v _ o wr HM1.out.w HOK.out HRM.out).mono ?_
      rintro e w9 ⟨rfl, v9, d9⟩
      rw [← HST.out] at d9
      have HF : Keep (∃ v, Mine w w9 ([] ++ [wO wb v (wLays (some []) (xs.take (i + 1)))])) := ⟨v9, HM1.out.wdid d9⟩
      clear d9 HM1
      go_wp2_with fail
      exact ⟨⟨i + 1, by omega, by simp, HF⟩, by simp only [intOf]; omega⟩
    · have hlt2 : ¬ ((i : Int) < n) := by omega
      obtain ⟨v, HM⟩ := HI.out
      rw [List.take_of_length_le (by rw [HX.out.len]; omega), wLays_enc] at HM
      have HM1 := Keep.mk HM
      clear HI HM
      go_wp2_with fail
      refine (wDone_c wb v _ wr HM1.out.w).mono ?_
      rintro e w3 ⟨rfl, g3⟩
      have HG : Keep (w.grownBy w3 none) := ⟨HM1.out.g.trans g3⟩
      clear g3 HM1
      cases hE : encAll xs with
      | none =>
        have e1 : (⟨(((none : Option (List UInt8)).map ([] ++ ·) : WS).getD []).toArray⟩ : ByteArray) = ⟨#[]⟩ := rfl
        have e2 : werr ((none : Option (List UInt8)).map ([] ++ ·)) = 51 := rfl
        rw [e1, e2]
        clear e1 e2 hE
        go_wp2_with fail
        go_ret
        exact ⟨rfl, HG.out⟩
      | some L =>
        have e1 : (⟨(((some L : Option (List UInt8)).map ([] ++ ·) : WS).getD []).toArray⟩ : ByteArray) = ⟨L.toArray⟩ := rfl
        have e2 : werr ((some L : Option (List UInt8)).map ([] ++ ·)) = 0 := rfl
        rw [e1, e2]
        clear e1 e2
        have HEA : Keep (encAll (xs.drop 0) = some L) := ⟨hE⟩
        clear hE
        go_wp2_with fail
        refine (newR_c _ w3).mono ?_
        rintro e w4 ⟨rb, B, rfl, a4, g4, hr4, hB4⟩
        rw [sl_mk] at a4
        have H4 : Keep (Mine w w4 ([] ++ [rO rb B (L, 0)])) := ⟨Mine.newR ⟨HG.out, Sep.nil _ _⟩ a4 g4 hr4 hB4⟩
        clear a4 g4 hr4 hB4
        rename World => wo
        go_wp2_with fail
        go_loopw [8] (fun t w' => ∃ i : Nat, i ≤ n ∧ t = .int .i64 i ∧ Keep (∃ R, encAll (xs.drop i) = some R ∧ Mine w w' ([] ++ [rO rb B (R, 0)]))) (fun t _ => n - (intOf t).toNat)
        case atStart => exact ⟨0, Nat.zero_le _, rfl, ⟨L, HEA.out, H4.out⟩⟩
        case round =>
          obtain ⟨j, hj, rfl, HJ⟩ := hrel
          clear H4 HEA HG hi hlt hlt2
          by_cases hjn : j < n
          · have hjn2 : (j : Int) < n := by omega
            obtain ⟨Bx, kx, o, rfl, hoi, hok, hat⟩ := HX.out.get hjn
            obtain ⟨R, hR, HM⟩ := HJ.out
            obtain ⟨A, r, hA, rfl, hr⟩ := encAll_drop hR hoi
            have HA : Keep (enc o = some A ∧ encAll (xs.drop (j + 1)) = some r) := ⟨hA, hr⟩
            obtain ⟨q0, q1, q2, q3, q4⟩ := hat.kept HM.g
            have hwj : IntKind.i64.wrap ((j : Int) + 1) = ((j + 1 : Nat) : Int) := by rw [wi _ (by omega) (by omega)]; omega
            have HM1 : Keep (Mine w (wr.alloc (.cells #[.int .i64 o.kind, .int .u64 o.u, .int .i64 o.i, .int .i64 o.size, .string o.s] 30)) ([hO wr.heap.size (ocs o) 30] ++ [rO rb B (A ++ r, 0)])) := ⟨HM.newH _ 30⟩
            clear HJ HM hat hok hoi hR hA hr
            obtain ⟨kd, hkd⟩ : ∃ q, o.kind = q := ⟨_, rfl⟩
            rw [hkd] at q0
            have HKD : Keep (o.kind = kd) := ⟨hkd⟩
            obtain ⟨w8, hw8⟩ : ∃ q, wr.alloc (.cells #[.int .i64 kd, .int .u64 o.u, .int .i64 o.i, .int .i64 o.size, .string o.s] 30) = q := ⟨_, rfl⟩
            rw [hkd, hw8] at HM1
            obtain ⟨ob, hob⟩ : ∃ q, wr.heap.size = q := ⟨_, rfl⟩
            rw [hob] at HM1
            have hcs : ocs o = [.int .i64 kd, .int .u64 o.u, .int .i64 o.i, .int .i64 o.size, .string o.s] := by rw [← hkd]
            rw [hcs] at HM1
            clear hkd hcs
            have p0 : w8.cell? ⟨ob, 0, none⟩ = some (.int .i64 kd) := (Mine.h (A := []) HM1.out).cellv 0 _ rfl
            by_cases h1 : kd = 1
            · subst h1
              go_wp2_with fail
              have HC : Keep (∀ W : World, Has W ob [.int .i64 1, .int .u64 o.u, .int .i64 o.i, .int .i64 o.size, .string o.s] 30 → W.cell? ⟨ob, 1, none⟩ = some (.int .u64 o.u) ∧ W.cell? ⟨ob, 2, none⟩ = some (.int .i64 o.i) ∧ W.cell? ⟨ob, 3, none⟩ = some (.int .i64 o.size) ∧ W.cell? ⟨ob, 4, none⟩ = some (.string o.s)) := ⟨fun W h => ⟨h.cellv 1 _ rfl, h.cellv 2 _ rfl, h.cellv 3 _ rfl, h.cellv 4 _ rfl⟩⟩
              have HM2 : Keep (Mine w w8.drew ([hO ob [.int .i64 1, .int .u64 o.u, .int .i64 o.i, .int .i64 o.size, .string o.s] 30] ++ [rO rb B (A ++ r, 0)])) := ⟨HM1.out.grown (gr_drew _ _)⟩
              clear HM1 q0 q1 q2 q3 q4 hw8
              refine wp_region_held_drew (S := fun w' => Has w' ob [.int .i64 1, .int .u64 o.u, .int .i64 o.i, .int .i64 o.size, .string o.s] 30) (by kernel_rfl) (Mine.h (A := []) HM2.out) (fun hHeld => ?_)
              refine wpAnyH_take (i := 0) (oi := _) (v := ?_) rfl (by kernel_rfl) (by kernel_rfl) (by kernel_rfl) (fun _ _ _ h => h) (Or.inl ⟨by rfl, ?_⟩) (by assumption) ?_
              rotate_left
              · (intro w hSw; go_simp; first | done | (with_reducible rfl))
              simp only [Act.put, List.getElem_toArray, List.getElem_cons_zero, List.setIfInBounds_toArray, List.set_cons_zero, List.set_cons_succ]
              refine wpAnyH_take (i := 1) (oi := _) (v := ?_) rfl (by kernel_rfl) (by kernel_rfl) (by kernel_rfl) (fun _ _ _ h => h) (Or.inl ⟨by rfl, ?_⟩) (by assumption) ?_
              rotate_left
              · (intro w hSw; go_simp; first | done | (with_reducible rfl))
              simp only [Act.put, List.getElem_toArray, List.getElem_cons_succ, List.getElem_cons_zero, List.setIfInBounds_toArray, List.set_cons_zero, List.set_cons_succ]
              refine wpAnyH_take (i := 2) (oi := _) (v := ?_) rfl (by kernel_rfl) (by kernel_rfl) (by kernel_rfl) (fun _ _ _ h => h) (Or.inl ⟨by rfl, ?_⟩) (by assumption) ?_
              rotate_left
              · (intro w hSw; obtain ⟨x1, x2, x3, x4⟩ := HC.out w hSw; go_simp; first | done | (with_reducible rfl))
              simp only [Act.put, List.getElem_toArray, List.getElem_cons_succ, List.getElem_cons_zero, List.setIfInBounds_toArray, List.set_cons_zero, List.set_cons_succ]
              refine wpAnyH_take (i := 4) (oi := _) (v := ?_) rfl (by kernel_rfl) (by kernel_rfl) (by kernel_rfl) (fun _ _ _ h => h) (Or.inl ⟨by rfl, ?_⟩) (by assumption) ?_
              rotate_left
              · (intro w hSw; go_simp; first | done | (with_reducible rfl))
              simp only [Act.put, List.getElem_toArray, List.getElem_cons_succ, List.getElem_cons_zero, List.setIfInBounds_toArray, List.set_cons_zero, List.set_cons_succ]
              refine wpAnyH_take (i := 5) (oi := _) (v := ?_) rfl (by kernel_rfl) (by kernel_rfl) (by kernel_rfl) (fun _ _ _ h => h) (Or.inl ⟨by rfl, ?_⟩) (by assumption) ?_
              rotate_left
              · (intro w hSw; obtain ⟨x1, x2, x3, x4⟩ := HC.out w hSw; go_simp; first | done | (with_reducible rfl))
              simp only [Act.put, List.getElem_toArray, List.getElem_cons_succ, List.getElem_cons_zero, List.setIfInBounds_toArray, List.set_cons_zero, List.set_cons_succ]
              refine wpAnyH_ready (rs := [3]) (by kernel_rfl) (by simp) ?_
              refine AllReadyH.cons rfl (fun K hK => ?_) AllReadyH.nil
              go_simp
              go_wp2_with (go_at_call 13; refine (rNumber_c rb B _ o.size _ (Mine.r (A := [_]) HM2.out)).mono ?_; rintro e wa ⟨rfl, da⟩; rw [take1 HKD.out HA.out.1 r] at da ⊢; have HM3 : Keep (Mine w wa ([hO ob [.int .i64 1, .int .u64 o.u, .int .i64 o.i, .int .i64 o.size, .string o.s] 30] ++ [rO rb B (r, 0)])) := ⟨Mine.rdid (A := [_]) HM2.out da⟩; clear da HM2)
              refine hK.out _ _ (Mine.h (A := []) HM3.out) (fun hHeld => ?_)
              clear hK K
              refine wpAnyH_take (i := 6) (oi := _) (v := ?_) rfl (by kernel_rfl) (by kernel_rfl) (by kernel_rfl) (fun _ _ _ h => h) (Or.inl ⟨by rfl, ?_⟩) (by assumption) ?_
              rotate_left
              · (intro w hSw; go_simp; first | done | (with_reducible rfl))
              simp only [Act.put, List.getElem_toArray, List.getElem_cons_succ, List.getElem_cons_zero, List.setIfInBounds_toArray, List.set_cons_zero, List.set_cons_succ]
              refine wpAnyH_take (i := 7) (oi := _) (v := ?_) rfl (by kernel_rfl) (by kernel_rfl) (by kernel_rfl) (fun _ _ _ h => h) (Or.inl ⟨by rfl, ?_⟩) (by assumption) ?_
              rotate_left
              · (intro w hSw; go_simp; first | done | (with_reducible rfl))
              simp only [Act.put, List.getElem_toArray, List.getElem_cons_succ, List.getElem_cons_zero, List.setIfInBounds_toArray, List.set_cons_zero, List.set_cons_succ]
              refine wpAnyH_done (by kernel_rfl) ?_ _
              clear hHeld HC
              have HF : Keep (∃ R, encAll (xs.drop (j + 1)) = some R ∧ Mine w wa ([] ++ [rO rb B (R, 0)])) := ⟨r, HA.out.2, HM3.out.sub (List.sublist_cons_self _ _)⟩
              clear HM3 HA
              go_wp2_with fail
              exact ⟨⟨j + 1, by omega, by simp, HF⟩, by simp only [intOf]; omega⟩
            · skip
              by_cases h2 : kd = 2
              · subst h2
                go_wp2_with fail
                have HC : Keep (∀ W : World, Has W ob [.int .i64 2, .int .u64 o.u, .int .i64 o.i, .int .i64 o.size, .string o.s] 30 → W.cell? ⟨ob, 1, none⟩ = some (.int .u64 o.u) ∧ W.cell? ⟨ob, 2, none⟩ = some (.int .i64 o.i) ∧ W.cell? ⟨ob, 3, none⟩ = some (.int .i64 o.size) ∧ W.cell? ⟨ob, 4, none⟩ = some (.string o.s)) := ⟨fun W h => ⟨h.cellv 1 _ rfl, h.cellv 2 _ rfl, h.cellv 3 _ rfl, h.cellv 4 _ rfl⟩⟩
                have HM2 : Keep (Mine w w8.drew ([hO ob [.int .i64 2, .int .u64 o.u, .int .i64 o.i, .int .i64 o.size, .string o.s] 30] ++ [rO rb B (A ++ r, 0)])) := ⟨HM1.out.grown (gr_drew _ _)⟩
                clear HM1 q0 q1 q2 q3 q4 hw8
                refine wp_region_held_drew (S := fun w' => Has w' ob [.int .i64 2, .int .u64 o.u, .int .i64 o.i, .int .i64 o.size, .string o.s] 30) (by kernel_rfl) (Mine.h (A := []) HM2.out) (fun hHeld => ?_)
                refine wpAnyH_take (i := 0) (oi := _) (v := ?_) rfl (by kernel_rfl) (by kernel_rfl) (by kernel_rfl) (fun _ _ _ h => h) (Or.inl ⟨by rfl, ?_⟩) (by assumption) ?_
                rotate_left
                · (intro w hSw; go_simp; first | done | (with_reducible rfl))
                simp only [Act.put, List.getElem_toArray, List.getElem_cons_zero, List.setIfInBounds_toArray, List.set_cons_zero, List.set_cons_succ]
                refine wpAnyH_take (i := 1) (oi := _) (v := ?_) rfl (by kernel_rfl) (by kernel_rfl) (by kernel_rfl) (fun _ _ _ h => h) (Or.inl ⟨by rfl, ?_⟩) (by assumption) ?_
                rotate_left
                · (intro w hSw; go_simp; first | done | (with_reducible rfl))
                simp only [Act.put, List.getElem_toArray, List.getElem_cons_succ, List.getElem_cons_zero, List.setIfInBounds_toArray, List.set_cons_zero, List.set_cons_succ]
                refine wpAnyH_take (i := 2) (oi := _) (v := ?_) rfl (by kernel_rfl) (by kernel_rfl) (by kernel_rfl) (fun _ _ _ h => h) (Or.inl ⟨by rfl, ?_⟩) (by assumption) ?_
                rotate_left
                · (intro w hSw; obtain ⟨x1, x2, x3, x4⟩ := HC.out w hSw; go_simp; first | done | (with_reducible rfl))
                simp only [Act.put, List.getElem_toArray, List.getElem_cons_succ, List.getElem_cons_zero, List.setIfInBounds_toArray, List.set_cons_zero, List.set_cons_succ]
                refine wpAnyH_take (i := 4) (oi := _) (v := ?_) rfl (by kernel_rfl) (by kernel_rfl) (by kernel_rfl) (fun _ _ _ h => h) (Or.inl ⟨by rfl, ?_⟩) (by assumption) ?_
                rotate_left
                · (intro w hSw; go_simp; first | done | (with_reducible rfl))
                simp only [Act.put, List.getElem_toArray, List.getElem_cons_succ, List.getElem_cons_zero, List.setIfInBounds_toArray, List.set_cons_zero, List.set_cons_succ]
                refine wpAnyH_take (i := 5) (oi := _) (v := ?_) rfl (by kernel_rfl) (by kernel_rfl) (by kernel_rfl) (fun _ _ _ h => h) (Or.inl ⟨by rfl, ?_⟩) (by assumption) ?_
                rotate_left
                · (intro w hSw; obtain ⟨x1, x2, x3, x4⟩ := HC.out w hSw; go_simp; first | done | (with_reducible rfl))
                simp only [Act.put, List.getElem_toArray, List.getElem_cons_succ, List.getElem_cons_zero, List.setIfInBounds_toArray, List.set_cons_zero, List.set_cons_succ]
                refine wpAnyH_ready (rs := [3]) (by kernel_rfl) (by simp) ?_
                refine AllReadyH.cons rfl (fun K hK => ?_) AllReadyH.nil
                go_simp
                go_wp2_with (go_at_call 15; refine (rSigned_c rb B _ o.size _ (Mine.r (A := [_]) HM2.out)).mono ?_; rintro e wa ⟨rfl, da⟩; rw [take2 HKD.out HA.out.1 r] at da ⊢; have HM3 : Keep (Mine w wa ([hO ob [.int .i64 2, .int .u64 o.u, .int .i64 o.i, .int .i64 o.size, .string o.s] 30] ++ [rO rb B (r, 0)])) := ⟨Mine.rdid (A := [_]) HM2.out da⟩; clear da HM2)
                refine hK.out _ _ (Mine.h (A := []) HM3.out) (fun hHeld => ?_)
                clear hK K
                refine wpAnyH_take (i := 6) (oi := _) (v := ?_) rfl (by kernel_rfl) (by kernel_rfl) (by kernel_rfl) (fun _ _ _ h => h) (Or.inl ⟨by rfl, ?_⟩) (by assumption) ?_
                rotate_left
                · (intro w hSw; go_simp; first | done | (with_reducible rfl))
                simp only [Act.put, List.getElem_toArray, List.getElem_cons_succ, List.getElem_cons_zero, List.setIfInBounds_toArray, List.set_cons_zero, List.set_cons_succ]
                refine wpAnyH_take (i := 7) (oi := _) (v := ?_) rfl (by kernel_rfl) (by kernel_rfl) (by kernel_rfl) (fun _ _ _ h => h) (Or.inl ⟨by rfl, ?_⟩) (by assumption) ?_
                rotate_left
                · (intro w hSw; go_simp; first | done | (with_reducible rfl))
                simp only [Act.put, List.getElem_toArray, List.getElem_cons_succ, List.getElem_cons_zero, List.setIfInBounds_toArray, List.set_cons_zero, List.set_cons_succ]
                refine wpAnyH_done (by kernel_rfl) ?_ _
                clear hHeld HC
                have HF : Keep (∃ R, encAll (xs.drop (j + 1)) = some R ∧ Mine w wa ([] ++ [rO rb B (R, 0)])) := ⟨r, HA.out.2, HM3.out.sub (List.sublist_cons_self _ _)⟩
                clear HM3 HA
                go_wp2_with fail
                exact ⟨⟨j + 1, by omega, by simp, HF⟩, by simp only [intOf]; omega⟩
              · skip
                by_cases h3 : kd = 3
                · subst h3
                  go_wp2_with fail
                  have HC : Keep (∀ W : World, Has W ob [.int .i64 3, .int .u64 o.u, .int .i64 o.i, .int .i64 o.size, .string o.s] 30 → W.cell? ⟨ob, 1, none⟩ = some (.int .u64 o.u) ∧ W.cell? ⟨ob, 2, none⟩ = some (.int .i64 o.i) ∧ W.cell? ⟨ob, 3, none⟩ = some (.int .i64 o.size) ∧ W.cell? ⟨ob, 4, none⟩ = some (.string o.s)) := ⟨fun W h => ⟨h.cellv 1 _ rfl, h.cellv 2 _ rfl, h.cellv 3 _ rfl, h.cellv 4 _ rfl⟩⟩
                  have HM2 : Keep (Mine w w8.drew ([hO ob [.int .i64 3, .int .u64 o.u, .int .i64 o.i, .int .i64 o.size, .string o.s] 30] ++ [rO rb B (A ++ r, 0)])) := ⟨HM1.out.grown (gr_drew _ _)⟩
                  clear HM1 q0 q1 q2 q3 q4 hw8
                  refine wp_region_held_drew (S := fun w' => Has w' ob [.int .i64 3, .int .u64 o.u, .int .i64 o.i, .int .i64 o.size, .string o.s] 30) (by kernel_rfl) (Mine.h (A := []) HM2.out) (fun hHeld => ?_)
                  refine wpAnyH_take (i := 0) (oi := _) (v := ?_) rfl (by kernel_rfl) (by kernel_rfl) (by kernel_rfl) (fun _ _ _ h => h) (Or.inl ⟨by rfl, ?_⟩) (by assumption) ?_
                  rotate_left
                  · (intro w hSw; go_simp; first | done | (with_reducible rfl))
                  simp only [Act.put, List.getElem_toArray, List.getElem_cons_zero, List.setIfInBounds_toArray, List.set_cons_zero, List.set_cons_succ]
                  refine wpAnyH_take (i := 1) (oi := _) (v := ?_) rfl (by kernel_rfl) (by kernel_rfl) (by kernel_rfl) (fun _ _ _ h => h) (Or.inl ⟨by rfl, ?_⟩) (by assumption) ?_
                  rotate_left
                  · (intro w hSw; go_simp; first | done | (with_reducible rfl))
                  simp only [Act.put, List.getElem_toArray, List.getElem_cons_succ, List.getElem_cons_zero, List.setIfInBounds_toArray, List.set_cons_zero, List.set_cons_succ]
                  refine wpAnyH_take (i := 2) (oi := _) (v := ?_) rfl (by kernel_rfl) (by kernel_rfl) (by kernel_rfl) (fun _ _ _ h => h) (Or.inl ⟨by rfl, ?_⟩) (by assumption) ?_
                  rotate_left
                  · (intro w hSw; obtain ⟨x1, x2, x3, x4⟩ := HC.out w hSw; go_simp; first | done | (with_reducible rfl))
                  simp only [Act.put, List.getElem_toArray, List.getElem_cons_succ, List.getElem_cons_zero, List.setIfInBounds_toArray, List.set_cons_zero, List.set_cons_succ]
                  refine wpAnyH_take (i := 3) (oi := _) (v := ?_) rfl (by kernel_rfl) (by kernel_rfl) (by kernel_rfl) (fun _ _ _ h => h) (Or.inl ⟨by rfl, ?_⟩) (by assumption) ?_
                  rotate_left
                  · (intro w hSw; go_simp; first | done | (with_reducible rfl))
                  simp only [Act.put, List.getElem_toArray, List.getElem_cons_succ, List.getElem_cons_zero, List.setIfInBounds_toArray, List.set_cons_zero, List.set_cons_succ]
                  refine wpAnyH_take (i := 5) (oi := _) (v := ?_) rfl (by kernel_rfl) (by kernel_rfl) (by kernel_rfl) (fun _ _ _ h => h) (Or.inl ⟨by rfl, ?_⟩) (by assumption) ?_
                  rotate_left
                  · (intro w hSw; go_simp; first | done | (with_reducible rfl))
                  simp only [Act.put, List.getElem_toArray, List.getElem_cons_succ, List.getElem_cons_zero, List.setIfInBounds_toArray, List.set_cons_zero, List.set_cons_succ]
                  refine wpAnyH_take (i := 6) (oi := _) (v := ?_) rfl (by kernel_rfl) (by kernel_rfl) (by kernel_rfl) (fun _ _ _ h => h) (Or.inl ⟨by rfl, ?_⟩) (by assumption) ?_
                  rotate_left
                  · (intro w hSw; obtain ⟨x1, x2, x3, x4⟩ := HC.out w hSw; go_simp; first | done | (with_reducible rfl))
                  simp only [Act.put, List.getElem_toArray, List.getElem_cons_succ, List.getElem_cons_zero, List.setIfInBounds_toArray, List.set_cons_zero, List.set_cons_succ]
                  refine wpAnyH_ready (rs := [4]) (by kernel_rfl) (by simp) ?_
                  refine AllReadyH.cons rfl (fun K hK => ?_) AllReadyH.nil
                  go_simp
                  go_wp2_with (go_at_call 17; refine (rBytes_c rb B _ o.s.size _ (Mine.r (A := [_]) HM2.out)).mono ?_; rintro e wa ⟨rfl, da⟩; rw [take3 HKD.out HA.out.1 r] at da ⊢; have HM3 : Keep (Mine w wa ([hO ob [.int .i64 3, .int .u64 o.u, .int .i64 o.i, .int .i64 o.size, .string o.s] 30] ++ [rO rb B (r, 0)])) := ⟨Mine.rdid (A := [_]) HM2.out da⟩; clear da HM2)
                  refine hK.out _ _ (Mine.h (A := []) HM3.out) (fun hHeld => ?_)
                  clear hK K
                  rw [bs_eq]
                  refine wpAnyH_take (i := 7) (oi := _) (v := ?_) rfl (by kernel_rfl) (by kernel_rfl) (by kernel_rfl) (fun _ _ _ h => h) (Or.inl ⟨by rfl, ?_⟩) (by assumption) ?_
                  rotate_left
                  · (intro w hSw; go_simp; first | done | (with_reducible rfl))
                  simp only [Act.put, List.getElem_toArray, List.getElem_cons_succ, List.getElem_cons_zero, List.setIfInBounds_toArray, List.set_cons_zero, List.set_cons_succ]
                  refine wpAnyH_take (i := 8) (oi := _) (v := ?_) rfl (by kernel_rfl) (by kernel_rfl) (by kernel_rfl) (fun _ _ _ h => h) (Or.inl ⟨by rfl, ?_⟩) (by assumption) ?_
                  rotate_left
                  · (intro w hSw; go_simp; first | done | (with_reducible rfl))
                  simp only [Act.put, List.getElem_toArray, List.getElem_cons_succ, List.getElem_cons_zero, List.setIfInBounds_toArray, List.set_cons_zero, List.set_cons_succ]
                  refine wpAnyH_done (by kernel_rfl) ?_ _
                  clear hHeld HC
                  have HF : Keep (∃ R, encAll (xs.drop (j + 1)) = some R ∧ Mine w wa ([] ++ [rO rb B (R, 0)])) := ⟨r, HA.out.2, HM3.out.sub (List.sublist_cons_self _ _)⟩
                  clear HM3 HA
                  go_wp2_with fail
                  exact ⟨⟨j + 1, by omega, by simp, HF⟩, by simp only [intOf]; omega⟩
                · skip
                  by_cases h4 : kd = 4
                  · subst h4
                    go_wp2_with fail
                    have HC : Keep (∀ W : World, Has W ob [.int .i64 4, .int .u64 o.u, .int .i64 o.i, .int .i64 o.size, .string o.s] 30 → W.cell? ⟨ob, 1, none⟩ = some (.int .u64 o.u) ∧ W.cell? ⟨ob, 2, none⟩ = some (.int .i64 o.i) ∧ W.cell? ⟨ob, 3, none⟩ = some (.int .i64 o.size) ∧ W.cell? ⟨ob, 4, none⟩ = some (.string o.s)) := ⟨fun W h => ⟨h.cellv 1 _ rfl, h.cellv 2 _ rfl, h.cellv 3 _ rfl, h.cellv 4 _ rfl⟩⟩
                    have HM2 : Keep (Mine w w8.drew ([hO ob [.int .i64 4, .int .u64 o.u, .int .i64 o.i, .int .i64 o.size, .string o.s] 30] ++ [rO rb B (A ++ r, 0)])) := ⟨HM1.out.grown (gr_drew _ _)⟩
                    clear HM1 q0 q1 q2 q3 q4 hw8
                    refine wp_region_held_drew (S := fun w' => Has w' ob [.int .i64 4, .int .u64 o.u, .int .i64 o.i, .int .i64 o.size, .string o.s] 30) (by kernel_rfl) (Mine.h (A := []) HM2.out) (fun hHeld => ?_)
                    refine wpAnyH_take (i := 0) (oi := _) (v := ?_) rfl (by kernel_rfl) (by kernel_rfl) (by kernel_rfl) (fun _ _ _ h => h) (Or.inl ⟨by rfl, ?_⟩) (by assumption) ?_
                    rotate_left
                    · (intro w hSw; go_simp; first | done | (with_reducible rfl))
                    simp only [Act.put, List.getElem_toArray, List.getElem_cons_zero, List.setIfInBounds_toArray, List.set_cons_zero, List.set_cons_succ]
                    refine wpAnyH_take (i := 2) (oi := _) (v := ?_) rfl (by kernel_rfl) (by kernel_rfl) (by kernel_rfl) (fun _ _ _ h => h) (Or.inl ⟨by rfl, ?_⟩) (by assumption) ?_
                    rotate_left
                    · (intro w hSw; go_simp; first | done | (with_reducible rfl))
                    simp only [Act.put, List.getElem_toArray, List.getElem_cons_succ, List.getElem_cons_zero, List.setIfInBounds_toArray, List.set_cons_zero, List.set_cons_succ]
                    refine wpAnyH_take (i := 3) (oi := _) (v := ?_) rfl (by kernel_rfl) (by kernel_rfl) (by kernel_rfl) (fun _ _ _ h => h) (Or.inl ⟨by rfl, ?_⟩) (by assumption) ?_
                    rotate_left
                    · (intro w hSw; obtain ⟨x1, x2, x3, x4⟩ := HC.out w hSw; go_simp; first | done | (with_reducible rfl))
                    simp only [Act.put, List.getElem_toArray, List.getElem_cons_succ, List.getElem_cons_zero, List.setIfInBounds_toArray, List.set_cons_zero, List.set_cons_succ]
                    refine wpAnyH_ready (rs := [1]) (by kernel_rfl) (by simp) ?_
                    refine AllReadyH.cons rfl (fun K hK => ?_) AllReadyH.nil
                    go_simp
                    go_wp2_with (go_at_call 19; refine (rText_c rb B _ _ (Mine.r (A := [_]) HM2.out)).mono ?_; rintro e wa ⟨rfl, da⟩; rw [take4 HKD.out HA.out.1 r] at da ⊢; have HM3 : Keep (Mine w wa ([hO ob [.int .i64 4, .int .u64 o.u, .int .i64 o.i, .int .i64 o.size, .string o.s] 30] ++ [rO rb B (r, 0)])) := ⟨Mine.rdid (A := [_]) HM2.out da⟩; clear da HM2)
                    refine hK.out _ _ (Mine.h (A := []) HM3.out) (fun hHeld => ?_)
                    clear hK K
                    rw [bs_eq]
                    refine wpAnyH_take (i := 4) (oi := _) (v := ?_) rfl (by kernel_rfl) (by kernel_rfl) (by kernel_rfl) (fun _ _ _ h => h) (Or.inl ⟨by rfl, ?_⟩) (by assumption) ?_
                    rotate_left
                    · (intro w hSw; go_simp; first | done | (with_reducible rfl))
                    simp only [Act.put, List.getElem_toArray, List.getElem_cons_succ, List.getElem_cons_zero, List.setIfInBounds_toArray, List.set_cons_zero, List.set_cons_succ]
                    refine wpAnyH_take (i := 5) (oi := _) (v := ?_) rfl (by kernel_rfl) (by kernel_rfl) (by kernel_rfl) (fun _ _ _ h => h) (Or.inl ⟨by rfl, ?_⟩) (by assumption) ?_
                    rotate_left
                    · (intro w hSw; go_simp; first | done | (with_reducible rfl))
                    simp only [Act.put, List.getElem_toArray, List.getElem_cons_succ, List.getElem_cons_zero, List.setIfInBounds_toArray, List.set_cons_zero, List.set_cons_succ]
                    refine wpAnyH_done (by kernel_rfl) ?_ _
                    clear hHeld HC
                    have HF : Keep (∃ R, encAll (xs.drop (j + 1)) = some R ∧ Mine w wa ([] ++ [rO rb B (R, 0)])) := ⟨r, HA.out.2, HM3.out.sub (List.sublist_cons_self _ _)⟩
                    clear HM3 HA
                    go_wp2_with fail
                    exact ⟨⟨j + 1, by omega, by simp, HF⟩, by simp only [intOf]; omega⟩
                  · skip
                    obtain rfl : A = [] := take0 (by rw [HKD.out]; exact h1) (by rw [HKD.out]; exact h2) (by rw [HKD.out]; exact h3) (by rw [HKD.out]; exact h4) HA.out.1
                    have HF : Keep (∃ R, encAll (xs.drop (j + 1)) = some R ∧ Mine w w8 ([] ++ [rO rb B (R, 0)])) := ⟨r, HA.out.2, HM1.out.sub (List.sublist_cons_self _ _)⟩
                    clear HM1 HA
                    go_wp2_with fail
                    exact ⟨⟨j + 1, by omega, by simp, HF⟩, by simp only [intOf]; omega⟩
          · have hjn2 : ¬ ((j : Int) < n) := by omega
            obtain ⟨R, hR, HM⟩ := HJ.out
            rw [List.drop_of_length_le (by rw [HX.out.len]; omega)] at hR
            obtain rfl : [] = R := Option.some.inj hR
            have HM1 := Keep.mk HM
            clear HJ HM hR
            go_wp2_with fail
            refine (rDone_c rb B _ wr HM1.out.r).mono ?_
            rintro e w5 ⟨rfl, h5⟩
            subst h5
            have hd : rDone ([], 0) = 0 := rfl
            rw [hd]
            clear hd
            go_wp2_with fail
            refine (rLeft_c rb B _ _ HM1.out.r).mono ?_
            rintro e w6 ⟨rfl, h6⟩
            subst h6
            have hl0 : (([] : List UInt8).length : Nat) = 0 := rfl
            simp only [hl0]
            go_wp2_with fail
            go_ret
            exact ⟨rfl, HM1.out.g⟩
end Go.Proofs.Ytkddfnglonofoaa
