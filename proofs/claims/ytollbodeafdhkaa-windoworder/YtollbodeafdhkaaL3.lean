/- WindowOrder's walk. -/
import Derived.Test.YtollbodeafdhkaaA4
import Derived.Test.YtollbodeafdhkaaR1
namespace Go.Proofs.Ytollbodeafdhkaa
open Go Go.RowKit
theorem pick_mem {h B base s : Nat} {M : List Nat} (v : Inv h B M) (h1 : base ≤ h) (h2 : h ≤ base + 63) (s1 : base < s) (s2 : s ≤ base + 63) : (∀ x, x ∈ mkM h B s M ↔ x ∈ M ∨ x = s) ∧ base ≤ mkH h B s ∧ mkH h B s ≤ base + 63 := by
  refine ⟨fun x => ?_, ?_⟩
  · unfold mkM
    by_cases hc : chk h B s = 0
    · rw [if_pos hc, List.mem_cons]; exact or_comm
    · rw [if_neg hc]
      have hM : s ∈ M := Classical.byContradiction fun q => hc ((v.chk_zero s).2 ⟨by omega, q⟩)
      constructor
      · exact .inl
      · rintro (q | rfl)
        · exact q
        · exact hM
  · unfold mkH
    split <;> omega
set_option maxRecDepth 100000 in
set_option maxHeartbeats 16000000 in
theorem order_law (a : Option Addr) (n c : Nat) (xs : List Nat) (a2 : Option Addr) (n2 c2 : Nat) (ys : List Nat) (a3 : Option Addr) (n3 c3 : Nat) (zs : List Nat) (w : World) (hs : Ns .u8 w a n xs) (hs2 : Ns .u8 w a2 n2 ys) (hs3 : Ns .u64 w a3 n3 zs) (_hn : n ≤ 9223372036854775807) (hn2 : n2 ≤ 9223372036854775807) (hn3 : n3 ≤ 9223372036854775807) :
    Calls Try.prog 4 #[.slice a n c, .slice a2 n2 c2, .slice a3 n3 c3] w fun e w' => e = .returned (.bool true) ∧ w.grownBy w' none := by
  have HX : Keep (Ns .u8 w a n xs ∧ Ns .u8 w a2 n2 ys ∧ Ns .u64 w a3 n3 zs) := ⟨hs, hs2, hs3⟩
  clear hs hs2 hs3
  go_enter Try.func4, Try.ntmps4
  go_wp2_with fail
  refine (alive_c _).mono ?_
  rintro e w1 ⟨rfl, g⟩
  by_cases hn : 200 < n
  · have hni : (200 : Int) < (n : Int) := by omega
    go_wp2_with fail
    go_ret
    exact ⟨rfl, g.trans (World.grownBy_alloc _ _ _)⟩
  have hni : ¬ (200 : Int) < (n : Int) := by omega
  have HM : Keep (MW w (w1.alloc (.cells #[.int .u64 0, .int .u64 0] 26)) w1.heap.size 0 0 []) := ⟨MW.new g⟩
  clear g
  go_wp2_with fail
  generalize w1.alloc _ = w2 at *
  generalize w1.heap.size = b at *
  refine (walk_c HM.out a n c xs HX.out.1 (by omega) (by omega)).mono ?_
  rintro e w3 ⟨rfl, ⟨base, B0, M0, hh, hm⟩, -⟩
  replace HM := Keep.mk hm
  clear hm
  have hb2 : base ≤ 12800 := by omega
  clear hh
  have z0 := HM.out.k.has.cellv 0 _ rfl
  have z1 := HM.out.k.has.cellv 1 _ rfl
  have HV : Keep (MW w (w3.alloc (.cells #[uv base, uv B0] 26)) w3.heap.size base B0 M0 ∧ b ≠ w3.heap.size) := ⟨HM.out.copy, by have := HM.out.k.has.lt; omega⟩
  replace HM := Keep.mk (HM.out.kept (World.grownBy_alloc w3 (.cells #[uv base, uv B0] 26) none))
  have y0 := HM.out.k.has.cellv 0 _ rfl
  have y1 := HM.out.k.has.cellv 1 _ rfl
  go_wp2_with fail
  generalize w3.alloc _ = w4 at *
  generalize w3.heap.size = vb at *
  clear z0 z1 y0 y1
  refine (high_c base B0 _).mono ?_
  rintro e w5 ⟨rfl, g⟩
  replace HM := Keep.mk (HM.out.kept g)
  replace HV := Keep.mk (And.intro (HV.out.1.kept g) HV.out.2)
  clear g
  have HSe : Keep (∃ S : Nat → Nat, S = fun j => base + (1 + ys.getD j 0 % 63)) := ⟨_, rfl⟩
  obtain ⟨S, hS⟩ := HSe.out
  have HS := Keep.mk hS
  clear HSe hS
  go_wp2_with fail
  go_loopw [10] (fun s w' => ∃ (i h B : Nat) (M : List Nat), i ≤ n2 ∧ i ≤ 64 ∧ s = .int .i64 (i : Nat) ∧ Keep (MW w w' b h B M ∧ MW w w' vb base B0 M0 ∧ b ≠ vb ∧ base ≤ h ∧ h ≤ base + 63 ∧ ∀ x, x ∈ M ↔ x ∈ M0 ∨ ∃ j, j < i ∧ x = S j)) (fun s _ => 64 - (intOf s).toNat)
  case atStart => exact ⟨0, base, B0, M0, by omega, by omega, rfl, ⟨HM.out, HV.out.1, HV.out.2, by omega, by omega, fun x => by simp⟩⟩
  case round =>
    clear HM HV
    obtain ⟨i, h, B, M, i1, i2, rfl, HM⟩ := hrel
    by_cases hi : i < n2 ∧ i < 64
    · obtain ⟨hi, hi64⟩ := hi
      have hia : (i : Int) < (n2 : Int) := by omega
      have hib : (i : Int) < 64 := by omega
      obtain ⟨sb, so, x, rfl, hxi, hx, hcc⟩ := HX.out.2.1.step hi
      have hx256 : (x : Int) < 256 := by simpa [IntKind.bits] using hx
      have c1 := hcc wr HM.out.1.g
      have HSi : Keep (S i = base + (1 + x % 63)) := ⟨by rw [HS.out]; simp [List.getD, hxi]⟩
      clear hcc hxi hx
      have hwi : IntKind.i64.wrap ((i : Int) + 1) = ((i + 1 : Nat) : Int) := wi _ (by omega) (by omega)
      have hx8 : IntKind.u64.wrap (x : Int) = (x : Int) := wu _ (by omega) (by omega)
      have hmod : (x : Int).tmod 63 = ((x % 63 : Nat) : Int) := by rw [Int.tmod_eq_emod_of_nonneg (by omega)]; omega
      have hwm : IntKind.u64.wrap ((x % 63 : Nat) : Int) = ((x % 63 : Nat) : Int) := wu _ (by omega) (by omega)
      have hy : x % 63 < 63 := by omega
      generalize x % 63 = y at *
      have hw1 : IntKind.u64.wrap ((base : Int) + 1) = ((base + 1 : Nat) : Int) := by rw [wu _ (by omega) (by omega)]; omega
      have hw2 : IntKind.u64.wrap (((base + 1 : Nat) : Int) + (y : Int)) = ((base + (1 + y) : Nat) : Int) := by rw [wu _ (by omega) (by omega)]; omega
      obtain ⟨H1, hH1⟩ : ∃ H1, base + 1 = H1 := ⟨_, rfl⟩
      obtain ⟨q, hq⟩ : ∃ q, base + (1 + y) = q := ⟨_, rfl⟩
      rw [hH1] at hw1 hw2
      rw [hq] at hw2 HSi
      have hq1 : base < q := by omega
      have hq2 : q ≤ base + 63 := by omega
      clear hH1 hq
      go_wp2_with fail
      have cm := my_mark HM.out.1 q (by omega)
      have HP := Keep.mk (pick_mem HM.out.1.v HM.out.2.2.2.1 HM.out.2.2.2.2.1 hq1 hq2)
      refine cm.mono ?_
      rintro e w6 ⟨rfl, hm, g⟩
      have HM2 : Keep (MW w w6 b (mkH h B q) (mkB h B q) (mkM h B q M) ∧ MW w w6 vb base B0 M0 ∧ b ≠ vb ∧ base ≤ mkH h B q ∧ mkH h B q ≤ base + 63 ∧ ∀ x, x ∈ mkM h B q M ↔ x ∈ M0 ∨ ∃ j, j < i + 1 ∧ x = S j) := ⟨hm, HM.out.2.1.other g HM.out.1.lo (Ne.symm HM.out.2.2.1), HM.out.2.2.1, HP.out.2.1, HP.out.2.2, fun x => by
        rw [HP.out.1, HM.out.2.2.2.2.2 x]
        constructor
        · rintro ((q1 | ⟨j, q1, q2⟩) | q1)
          · exact .inl q1
          · exact .inr ⟨j, by omega, q2⟩
          · exact .inr ⟨i, by omega, by rw [HSi.out]; exact q1⟩
        · rintro (q1 | ⟨j, q1, q2⟩)
          · exact .inl (.inl q1)
          · by_cases hj : j = i
            · subst hj; exact .inr (by rw [q2]; exact HSi.out)
            · exact .inl (.inr ⟨j, by omega, q2⟩)⟩
      clear cm hm g HM HP c1
      generalize chk h B q = k at *
      go_wp2_with fail
      refine ⟨⟨i + 1, _, _, _, by omega, by omega, rfl, HM2⟩, ?_⟩
      simp only [intOf]; omega
    · have hk : i = min n2 64 := by omega
      have hk64 : i ≤ 64 := i2
      have hcase : (¬ (i : Int) < (n2 : Int) ∧ ¬ (64 : Int) < (n2 : Int) ∧ i = n2) ∨ ((i : Int) < (n2 : Int) ∧ ¬ (i : Int) < 64 ∧ (64 : Int) < (n2 : Int) ∧ i = 64) := by omega
      have hwk : IntKind.i64.wrap ((i : Int) - 1) = (i : Int) - 1 := wi _ (by omega) (by omega)
      clear hi hk
      have HL : Keep (MW w wr b h B M ∧ MW w wr vb base B0 M0 ∧ b ≠ vb ∧ base ≤ base ∧ base ≤ base + 63 ∧ (∀ x, x ∈ M ↔ x ∈ M0 ∨ ∃ j, j < i ∧ x = S j) ∧ ∀ x, x ∈ M0 ↔ x ∈ M0 ∨ ∃ j, i ≤ j ∧ j < i ∧ x = S j) := ⟨HM.out.1, HM.out.2.1, HM.out.2.2.1, by omega, by omega, HM.out.2.2.2.2.2, fun x => by
        constructor
        · exact .inl
        · rintro (q | ⟨j, q1, q2, _⟩)
          · exact q
          · omega⟩
      clear HM
      rcases hcase with ⟨hc1, hc2, hc3⟩ | ⟨hc1, hc2, hc3, hc4⟩
      · subst hc3
        go_wp2_with fail
        go_loopw [12] (fun s w' => ∃ (q : Int) (j h' B' : Nat) (M' : List Nat), j ≤ i ∧ q = (j : Int) - 1 ∧ s = .int .i64 q ∧ Keep (MW w w' b h B M ∧ MW w w' vb h' B' M' ∧ base ≤ h' ∧ h' ≤ base + 63 ∧ ∀ x, x ∈ M' ↔ x ∈ M0 ∨ ∃ l, j ≤ l ∧ l < i ∧ x = S l)) (fun s _ => (intOf s + 1).toNat)
        case atStart => exact ⟨_, i, base, B0, M0, by omega, by omega, rfl, ⟨HL.out.1, HL.out.2.1, by omega, by omega, HL.out.2.2.2.2.2.2⟩⟩
        case round =>
          have HMM : Keep (b ≠ vb ∧ ∀ x, x ∈ M ↔ x ∈ M0 ∨ ∃ j, j < i ∧ x = S j) := ⟨HL.out.2.2.1, HL.out.2.2.2.2.2.1⟩
          clear HL
          obtain ⟨q, j, h', B', M', j1, hq, rfl, HL⟩ := hrel
          by_cases hj : j = 0
          · have hq0 : ¬ (0 : Int) ≤ q := by omega
            have HE : Keep (h' = h ∧ B' = B) := ⟨HL.out.2.1.v.same HL.out.1.v (fun x => by
              rw [HL.out.2.2.2.2 x, HMM.out.2 x]
              constructor
              · rintro (q1 | ⟨l, _, q1, q2⟩)
                · exact .inl q1
                · exact .inr ⟨l, q1, q2⟩
              · rintro (q1 | ⟨l, q1, q2⟩)
                · exact .inl q1
                · exact .inr ⟨l, by omega, q1, q2⟩)⟩
            obtain ⟨rfl, rfl⟩ := HE.out
            have HH : Keep (MW w wr b h' B' M ∧ MW w wr vb h' B' M' ∧ b ≠ vb) := ⟨HL.out.1, HL.out.2.1, HMM.out.1⟩
            clear HE HL HMM hj hq
            go_wp2_with fail
            have HHd : Keep (MW w wr.drew b h' B' M ∧ MW w wr.drew vb h' B' M') := ⟨HH.out.1.kept (gr_drew _ _), HH.out.2.1.kept (gr_drew _ _)⟩
            have HN : Keep (b ≠ vb) := ⟨HH.out.2.2⟩
            clear HH
            refine wp_region_held_drew (S := fun w' => MW w w' b h' B' M ∧ MW w w' vb h' B' M') (by kernel_rfl) HHd.out (fun hHeld => ?_)
            clear HHd
            generalize wr.drew = w10 at *
            refine wpAnyH_take (i := 0) (oi := _) (v := ?_) rfl (by kernel_rfl) (by kernel_rfl) (by kernel_rfl) (fun _ _ _ h => h) (Or.inl ⟨by rfl, ?_⟩) (by assumption) ?_
            rotate_left
            · (intro w hSw; have x0 := hSw.1.k.has.cellv 0 _ rfl; have x1 := hSw.1.k.has.cellv 1 _ rfl; have x2 := hSw.2.k.has.cellv 0 _ rfl; have x3 := hSw.2.k.has.cellv 1 _ rfl; clear hSw; go_simp; first | done | (with_reducible rfl))
            simp only [Act.put, List.getElem_toArray, List.getElem_cons_zero, List.setIfInBounds_toArray, List.set_cons_zero, List.set_cons_succ]
            refine wpAnyH_take (i := 2) (oi := _) (v := ?_) rfl (by kernel_rfl) (by kernel_rfl) (by kernel_rfl) (fun _ _ _ h => h) (Or.inl ⟨by rfl, ?_⟩) (by assumption) ?_
            rotate_left
            · (intro w hSw; have x0 := hSw.1.k.has.cellv 0 _ rfl; have x1 := hSw.1.k.has.cellv 1 _ rfl; have x2 := hSw.2.k.has.cellv 0 _ rfl; have x3 := hSw.2.k.has.cellv 1 _ rfl; clear hSw; go_simp; first | done | (with_reducible rfl))
            simp only [Act.put, List.getElem_toArray, List.getElem_cons_succ, List.getElem_cons_zero, List.setIfInBounds_toArray, List.set_cons_zero, List.set_cons_succ]
            refine wpAnyH_ready (rs := [1]) (by kernel_rfl) (by simp) ?_
            refine AllReadyH.cons rfl (fun K hK => ?_) AllReadyH.nil
            go_simp
            refine (high_c h' B' _).mono ?_
            rintro e wq ⟨rfl, g⟩
            refine hK.out _ _ ⟨hHeld.1.kept g, hHeld.2.kept g⟩ (fun hHeld => ?_)
            clear hK K g
            refine wpAnyH_ready (rs := [3]) (by kernel_rfl) (by simp) ?_
            refine AllReadyH.cons rfl (fun K hK => ?_) AllReadyH.nil
            go_simp
            refine (high_c h' B' _).mono ?_
            rintro e wq ⟨rfl, g⟩
            refine hK.out _ _ ⟨hHeld.1.kept g, hHeld.2.kept g⟩ (fun hHeld => ?_)
            clear hK K g
            refine wpAnyH_take (i := 4) (oi := _) (v := ?_) rfl (by kernel_rfl) (by kernel_rfl) (by kernel_rfl) (fun _ _ _ h => h) (Or.inl ⟨by rfl, ?_⟩) (by assumption) ?_
            rotate_left
            · (intro w hSw; go_simp; first | done | (with_reducible rfl))
            simp only [Act.put, List.getElem_toArray, List.getElem_cons_succ, List.getElem_cons_zero, List.setIfInBounds_toArray, List.set_cons_zero, List.set_cons_succ]
            refine wpAnyH_take (i := 5) (oi := _) (v := ?_) rfl (by kernel_rfl) (by kernel_rfl) (by kernel_rfl) (fun _ _ _ h => h) (Or.inl ⟨by rfl, ?_⟩) (by assumption) ?_
            rotate_left
            · (intro w hSw; go_simp; first | done | (with_reducible rfl))
            simp only [Act.put, List.getElem_toArray, List.getElem_cons_succ, List.getElem_cons_zero, List.setIfInBounds_toArray, List.set_cons_zero, List.set_cons_succ]
            refine wpAnyH_take (i := 6) (oi := _) (v := ?_) rfl (by kernel_rfl) (by kernel_rfl) (by kernel_rfl) (fun _ _ _ h => h) (Or.inl ⟨by rfl, ?_⟩) (by assumption) ?_
            rotate_left
            · (intro w hSw; have x0 := hSw.1.k.has.cellv 0 _ rfl; have x1 := hSw.1.k.has.cellv 1 _ rfl; have x2 := hSw.2.k.has.cellv 0 _ rfl; have x3 := hSw.2.k.has.cellv 1 _ rfl; clear hSw; go_simp; first | done | (with_reducible rfl))
            simp only [Act.put, List.getElem_toArray, List.getElem_cons_succ, List.getElem_cons_zero, List.setIfInBounds_toArray, List.set_cons_zero, List.set_cons_succ]
            refine wpAnyH_take (i := 8) (oi := _) (v := ?_) rfl (by kernel_rfl) (by kernel_rfl) (by kernel_rfl) (fun _ _ _ h => h) (Or.inl ⟨by rfl, ?_⟩) (by assumption) ?_
            rotate_left
            · (intro w hSw; have x0 := hSw.1.k.has.cellv 0 _ rfl; have x1 := hSw.1.k.has.cellv 1 _ rfl; have x2 := hSw.2.k.has.cellv 0 _ rfl; have x3 := hSw.2.k.has.cellv 1 _ rfl; clear hSw; go_simp; first | done | (with_reducible rfl))
            simp only [Act.put, List.getElem_toArray, List.getElem_cons_succ, List.getElem_cons_zero, List.setIfInBounds_toArray, List.set_cons_zero, List.set_cons_succ]
            refine wpAnyH_ready (rs := [7]) (by kernel_rfl) (by simp) ?_
            refine AllReadyH.cons rfl (fun K hK => ?_) AllReadyH.nil
            go_simp
            refine (bits_c h' B' _).mono ?_
            rintro e wq ⟨rfl, g⟩
            refine hK.out _ _ ⟨hHeld.1.kept g, hHeld.2.kept g⟩ (fun hHeld => ?_)
            clear hK K g
            refine wpAnyH_ready (rs := [9]) (by kernel_rfl) (by simp) ?_
            refine AllReadyH.cons rfl (fun K hK => ?_) AllReadyH.nil
            go_simp
            refine (bits_c h' B' _).mono ?_
            rintro e wq ⟨rfl, g⟩
            refine hK.out _ _ ⟨hHeld.1.kept g, hHeld.2.kept g⟩ (fun hHeld => ?_)
            clear hK K g
            refine wpAnyH_take (i := 10) (oi := _) (v := ?_) rfl (by kernel_rfl) (by kernel_rfl) (by kernel_rfl) (fun _ _ _ h => h) (Or.inl ⟨by rfl, ?_⟩) (by assumption) ?_
            rotate_left
            · (intro w hSw; go_simp; first | done | (with_reducible rfl))
            simp only [Act.put, List.getElem_toArray, List.getElem_cons_succ, List.getElem_cons_zero, List.setIfInBounds_toArray, List.set_cons_zero, List.set_cons_succ]
            refine wpAnyH_take (i := 11) (oi := _) (v := ?_) rfl (by kernel_rfl) (by kernel_rfl) (by kernel_rfl) (fun _ _ _ h => h) (Or.inl ⟨by rfl, ?_⟩) (by assumption) ?_
            rotate_left
            · (intro w hSw; go_simp; first | done | (with_reducible rfl))
            simp only [Act.put, List.getElem_toArray, List.getElem_cons_succ, List.getElem_cons_zero, List.setIfInBounds_toArray, List.set_cons_zero, List.set_cons_succ]
            refine wpAnyH_done (by kernel_rfl) ?_ _
            have HW := Keep.mk hHeld
            clear hHeld
            go_wp2_with fail
            have HZ := Keep.mk HX.out.2.2
            clear HX
            go_loopw [13] (fun s w' => ∃ (i h B : Nat) (M M' : List Nat), i ≤ n3 ∧ s = .int .i64 (i : Nat) ∧ Keep (MW w w' b h B M ∧ MW w w' vb h B M' ∧ b ≠ vb)) (fun s _ => n3 - (intOf s).toNat)
            case atStart => exact ⟨0, h', B', M, M', by omega, rfl, ⟨HW.out.1, HW.out.2, HN.out⟩⟩
            case round =>
              clear HW HN
              obtain ⟨i, h, B, M, M', i1, rfl, HH⟩ := hrel
              by_cases hi : i < n3
              · have hia : (i : Int) < (n3 : Int) := by omega
                obtain ⟨zb, zo, f, rfl, hxi, hx, hcc⟩ := HZ.out.step hi
                have hf64 : f < 18446744073709551616 := by
                  have : (f : Int) < 18446744073709551616 := by simpa [IntKind.bits] using hx
                  omega
                have hZ := hcc
                have c1 := hcc wr.drew (HH.out.1.kept (gr_drew _ _)).g
                clear hcc hxi hx
                have hwi : IntKind.i64.wrap ((i : Int) + 1) = ((i + 1 : Nat) : Int) := wi _ (by omega) (by omega)
                go_wp2_with fail
                refine wp_region_held_drew (S := fun w' => w'.cell? ⟨zb, zo + i, none⟩ = some (uv f)) (by kernel_rfl) c1 (fun hHeld => ?_)
                replace HH : Keep (MW w wr.drew b h B M ∧ MW w wr.drew vb h B M' ∧ b ≠ vb) := ⟨HH.out.1.kept (gr_drew _ _), HH.out.2.1.kept (gr_drew _ _), HH.out.2.2⟩
                clear c1
                generalize wr.drew = wq at *
                refine wpAnyH_take (i := 1) (oi := _) (v := ?_) rfl (by kernel_rfl) (by kernel_rfl) (by kernel_rfl) (fun _ _ _ h => h) (Or.inl ⟨by rfl, ?_⟩) (by assumption) ?_
                rotate_left
                · (intro w hSw; go_simp; first | done | (with_reducible rfl))
                simp only [Act.put, List.getElem_toArray, List.getElem_cons_succ, List.getElem_cons_zero, List.setIfInBounds_toArray, List.set_cons_zero, List.set_cons_succ]
                refine wpAnyH_take (i := 2) (oi := _) (v := ?_) rfl (by kernel_rfl) (by kernel_rfl) (by kernel_rfl) (fun _ _ _ h => h) (Or.inl ⟨by rfl, ?_⟩) (by assumption) ?_
                rotate_left
                · (intro w hSw; go_simp; first | done | (with_reducible rfl))
                simp only [Act.put, List.getElem_toArray, List.getElem_cons_succ, List.getElem_cons_zero, List.setIfInBounds_toArray, List.set_cons_zero, List.set_cons_succ]
                refine wpAnyH_take (i := 3) (oi := _) (v := ?_) rfl (by kernel_rfl) (by kernel_rfl) (by kernel_rfl) (fun _ _ _ h => h) (Or.inl ⟨by rfl, ?_⟩) (by assumption) ?_
                rotate_left
                · (intro w hSw; go_simp; first | done | (with_reducible rfl))
                simp only [Act.put, List.getElem_toArray, List.getElem_cons_succ, List.getElem_cons_zero, List.setIfInBounds_toArray, List.set_cons_zero, List.set_cons_succ]
                refine wpAnyH_take (i := 4) (oi := _) (v := ?_) rfl (by kernel_rfl) (by kernel_rfl) (by kernel_rfl) (fun _ _ _ h => h) (Or.inl ⟨by rfl, ?_⟩) (by assumption) ?_
                rotate_left
                · (intro w hSw; have hq := hSw; clear hSw; go_simp; first | done | (with_reducible rfl))
                simp only [Act.put, List.getElem_toArray, List.getElem_cons_succ, List.getElem_cons_zero, List.setIfInBounds_toArray, List.set_cons_zero, List.set_cons_succ]
                refine wpAnyH_take (i := 8) (oi := _) (v := ?_) rfl (by kernel_rfl) (by kernel_rfl) (by kernel_rfl) (fun _ _ _ h => h) (Or.inl ⟨by rfl, ?_⟩) (by assumption) ?_
                rotate_left
                · (intro w hSw; go_simp; first | done | (with_reducible rfl))
                simp only [Act.put, List.getElem_toArray, List.getElem_cons_succ, List.getElem_cons_zero, List.setIfInBounds_toArray, List.set_cons_zero, List.set_cons_succ]
                refine wpAnyH_take (i := 9) (oi := _) (v := ?_) rfl (by kernel_rfl) (by kernel_rfl) (by kernel_rfl) (fun _ _ _ h => h) (Or.inl ⟨by rfl, ?_⟩) (by assumption) ?_
                rotate_left
                · (intro w hSw; go_simp; first | done | (with_reducible rfl))
                simp only [Act.put, List.getElem_toArray, List.getElem_cons_succ, List.getElem_cons_zero, List.setIfInBounds_toArray, List.set_cons_zero, List.set_cons_succ]
                refine wpAnyH_take (i := 10) (oi := _) (v := ?_) rfl (by kernel_rfl) (by kernel_rfl) (by kernel_rfl) (fun _ _ _ h => h) (Or.inl ⟨by rfl, ?_⟩) (by assumption) ?_
                rotate_left
                · (intro w hSw; go_simp; first | done | (with_reducible rfl))
                simp only [Act.put, List.getElem_toArray, List.getElem_cons_succ, List.getElem_cons_zero, List.setIfInBounds_toArray, List.set_cons_zero, List.set_cons_succ]
                refine wpAnyH_take (i := 11) (oi := _) (v := ?_) rfl (by kernel_rfl) (by kernel_rfl) (by kernel_rfl) (fun _ _ _ h => h) (Or.inl ⟨by rfl, ?_⟩) (by assumption) ?_
                rotate_left
                · (intro w hSw; have hq := hSw; clear hSw; go_simp; first | done | (with_reducible rfl))
                simp only [Act.put, List.getElem_toArray, List.getElem_cons_succ, List.getElem_cons_zero, List.setIfInBounds_toArray, List.set_cons_zero, List.set_cons_succ]
                have x0 := HH.out.1.k.has.cellv 0 _ rfl
                have x1 := HH.out.1.k.has.cellv 1 _ rfl
                have x2 := HH.out.2.1.k.has.cellv 0 _ rfl
                have x3 := HH.out.2.1.k.has.cellv 1 _ rfl
                refine wpAnyH_ready (rs := [0, 7]) (by kernel_rfl) (by simp) ?_
                refine AllReadyH.cons rfl (fun K hK => ?_) (AllReadyH.cons rfl (fun K hK => ?_) AllReadyH.nil)
                · go_simp
                  refine hK.out _ _ hHeld (fun hHeld => ?_)
                  clear hK K x0 x1 x2 x3
                  have x0 := HH.out.1.k.has.cellv 0 _ rfl
                  have x1 := HH.out.1.k.has.cellv 1 _ rfl
                  have x2 := HH.out.2.1.k.has.cellv 0 _ rfl
                  have x3 := HH.out.2.1.k.has.cellv 1 _ rfl
                  refine wpAnyH_ready (rs := [5, 7]) (by kernel_rfl) (by simp) ?_
                  refine AllReadyH.cons rfl (fun K hK => ?_) (AllReadyH.cons rfl (fun K hK => ?_) AllReadyH.nil)
                  · clear x0 x1 x2 x3
                    go_simp
                    refine (check_c h B f _ HH.out.1.k.h1 HH.out.1.k.b1 hf64).mono ?_
                    rintro e wq ⟨rfl, g⟩
                    replace HH : Keep (MW w wq b h B M ∧ MW w wq vb h B M' ∧ b ≠ vb) := ⟨HH.out.1.kept g, HH.out.2.1.kept g, HH.out.2.2⟩
                    refine hK.out _ _ (cell_kept g hHeld) (fun hHeld => ?_)
                    clear hK K g
                    refine wpAnyH_call (i := 6) (oi := _) (v := .int .i64 ((chk h B f : Nat) : Int)) rfl (by kernel_rfl) (by kernel_rfl) (by kernel_rfl) (fun _ _ _ h => h) ⟨by rfl, 8, #[.int .i64 ((chk h B f : Nat) : Int)], fun w => ?_, fun w _ => num_c _ w⟩ (by assumption) ?_
                    · (go_simp; first | done | (with_reducible rfl))
                    simp only [Act.put, List.getElem_toArray, List.getElem_cons_succ, List.getElem_cons_zero, List.setIfInBounds_toArray, List.set_cons_zero, List.set_cons_succ]
                    refine wpAnyH_ready (rs := [7]) (by kernel_rfl) (by simp) ?_
                    refine AllReadyH.cons rfl (fun K hK => ?_) AllReadyH.nil
                    have x0 := HH.out.1.k.has.cellv 0 _ rfl
                    have x1 := HH.out.1.k.has.cellv 1 _ rfl
                    have x2 := HH.out.2.1.k.has.cellv 0 _ rfl
                    have x3 := HH.out.2.1.k.has.cellv 1 _ rfl
                    go_simp
                    refine hK.out _ _ hHeld (fun hHeld => ?_)
                    clear hK K x0 x1 x2 x3
                    refine wpAnyH_ready (rs := [12]) (by kernel_rfl) (by simp) ?_
                    refine AllReadyH.cons rfl (fun K hK => ?_) AllReadyH.nil
                    go_simp
                    refine (check_c h B f _ HH.out.1.k.h1 HH.out.1.k.b1 hf64).mono ?_
                    rintro e wq ⟨rfl, g⟩
                    replace HH : Keep (MW w wq b h B M ∧ MW w wq vb h B M' ∧ b ≠ vb) := ⟨HH.out.1.kept g, HH.out.2.1.kept g, HH.out.2.2⟩
                    refine hK.out _ _ (cell_kept g hHeld) (fun hHeld => ?_)
                    clear hK K g
                    refine wpAnyH_call (i := 13) (oi := _) (v := .int .i64 ((chk h B f : Nat) : Int)) rfl (by kernel_rfl) (by kernel_rfl) (by kernel_rfl) (fun _ _ _ h => h) ⟨by rfl, 8, #[.int .i64 ((chk h B f : Nat) : Int)], fun w => ?_, fun w _ => num_c _ w⟩ (by assumption) ?_
                    · (go_simp; first | done | (with_reducible rfl))
                    simp only [Act.put, List.getElem_toArray, List.getElem_cons_succ, List.getElem_cons_zero, List.setIfInBounds_toArray, List.set_cons_zero, List.set_cons_succ]
                    refine wpAnyH_take (i := 14) (oi := _) (v := ?_) rfl (by kernel_rfl) (by kernel_rfl) (by kernel_rfl) (fun _ _ _ h => h) (Or.inl ⟨by rfl, ?_⟩) (by assumption) ?_
                    rotate_left
                    · (intro w hSw; go_simp; first | done | (with_reducible rfl))
                    simp only [Act.put, List.getElem_toArray, List.getElem_cons_succ, List.getElem_cons_zero, List.setIfInBounds_toArray, List.set_cons_zero, List.set_cons_succ]
                    refine wpAnyH_take (i := 15) (oi := _) (v := ?_) rfl (by kernel_rfl) (by kernel_rfl) (by kernel_rfl) (fun _ _ _ h => h) (Or.inl ⟨by rfl, ?_⟩) (by assumption) ?_
                    rotate_left
                    · (intro w hSw; go_simp; first | done | (with_reducible rfl))
                    simp only [Act.put, List.getElem_toArray, List.getElem_cons_succ, List.getElem_cons_zero, List.setIfInBounds_toArray, List.set_cons_zero, List.set_cons_succ]
                    refine wpAnyH_take (i := 16) (oi := _) (v := ?_) rfl (by kernel_rfl) (by kernel_rfl) (by kernel_rfl) (fun _ _ _ h => h) (Or.inl ⟨by rfl, ?_⟩) (by assumption) ?_
                    rotate_left
                    · (intro w hSw; go_simp; first | done | (with_reducible rfl))
                    simp only [Act.put, List.getElem_toArray, List.getElem_cons_succ, List.getElem_cons_zero, List.setIfInBounds_toArray, List.set_cons_zero, List.set_cons_succ]
                    refine wpAnyH_take (i := 17) (oi := _) (v := ?_) rfl (by kernel_rfl) (by kernel_rfl) (by kernel_rfl) (fun _ _ _ h => h) (Or.inl ⟨by rfl, ?_⟩) (by assumption) ?_
                    rotate_left
                    · (intro w hSw; go_simp; first | done | (with_reducible rfl))
                    simp only [Act.put, List.getElem_toArray, List.getElem_cons_succ, List.getElem_cons_zero, List.setIfInBounds_toArray, List.set_cons_zero, List.set_cons_succ]
                    refine wpAnyH_take (i := 18) (oi := _) (v := ?_) rfl (by kernel_rfl) (by kernel_rfl) (by kernel_rfl) (fun _ _ _ h => h) (Or.inl ⟨by rfl, ?_⟩) (by assumption) ?_
                    rotate_left
                    · (intro w hSw; go_simp; first | done | (with_reducible rfl))
                    simp only [Act.put, List.getElem_toArray, List.getElem_cons_succ, List.getElem_cons_zero, List.setIfInBounds_toArray, List.set_cons_zero, List.set_cons_succ]
                    refine wpAnyH_take (i := 19) (oi := _) (v := ?_) rfl (by kernel_rfl) (by kernel_rfl) (by kernel_rfl) (fun _ _ _ h => h) (Or.inl ⟨by rfl, ?_⟩) (by assumption) ?_
                    rotate_left
                    · (intro w hSw; have hq := hSw; clear hSw; go_simp; first | done | (with_reducible rfl))
                    simp only [Act.put, List.getElem_toArray, List.getElem_cons_succ, List.getElem_cons_zero, List.setIfInBounds_toArray, List.set_cons_zero, List.set_cons_succ]
                    refine wpAnyH_take (i := 22) (oi := _) (v := ?_) rfl (by kernel_rfl) (by kernel_rfl) (by kernel_rfl) (fun _ _ _ h => h) (Or.inl ⟨by rfl, ?_⟩) (by assumption) ?_
                    rotate_left
                    · (intro w hSw; go_simp; first | done | (with_reducible rfl))
                    simp only [Act.put, List.getElem_toArray, List.getElem_cons_succ, List.getElem_cons_zero, List.setIfInBounds_toArray, List.set_cons_zero, List.set_cons_succ]
                    refine wpAnyH_take (i := 23) (oi := _) (v := ?_) rfl (by kernel_rfl) (by kernel_rfl) (by kernel_rfl) (fun _ _ _ h => h) (Or.inl ⟨by rfl, ?_⟩) (by assumption) ?_
                    rotate_left
                    · (intro w hSw; go_simp; first | done | (with_reducible rfl))
                    simp only [Act.put, List.getElem_toArray, List.getElem_cons_succ, List.getElem_cons_zero, List.setIfInBounds_toArray, List.set_cons_zero, List.set_cons_succ]
                    refine wpAnyH_take (i := 24) (oi := _) (v := ?_) rfl (by kernel_rfl) (by kernel_rfl) (by kernel_rfl) (fun _ _ _ h => h) (Or.inl ⟨by rfl, ?_⟩) (by assumption) ?_
                    rotate_left
                    · (intro w hSw; go_simp; first | done | (with_reducible rfl))
                    simp only [Act.put, List.getElem_toArray, List.getElem_cons_succ, List.getElem_cons_zero, List.setIfInBounds_toArray, List.set_cons_zero, List.set_cons_succ]
                    refine wpAnyH_take (i := 25) (oi := _) (v := ?_) rfl (by kernel_rfl) (by kernel_rfl) (by kernel_rfl) (fun _ _ _ h => h) (Or.inl ⟨by rfl, ?_⟩) (by assumption) ?_
                    rotate_left
                    · (intro w hSw; have hq := hSw; clear hSw; go_simp; first | done | (with_reducible rfl))
                    simp only [Act.put, List.getElem_toArray, List.getElem_cons_succ, List.getElem_cons_zero, List.setIfInBounds_toArray, List.set_cons_zero, List.set_cons_succ]
                    refine wpAnyH_ready (rs := [20]) (by kernel_rfl) (by simp) ?_
                    refine AllReadyH.cons rfl (fun K hK => ?_) AllReadyH.nil
                    go_simp
                    have cm := my_mark HH.out.1 f hf64
                    refine cm.mono ?_
                    rintro e w12 ⟨rfl, hm, g⟩
                    have HH2 : Keep (MW w w12 b (mkH h B f) (mkB h B f) (mkM h B f M) ∧ MW w w12 vb h B M' ∧ b ≠ vb) := ⟨hm, HH.out.2.1.other g HH.out.1.lo (Ne.symm HH.out.2.2), HH.out.2.2⟩
                    have hc2 : w12.cell? ⟨zb, zo + i, none⟩ = some (uv f) := hZ w12 hm.g
                    clear cm hm g HH
                    refine hK.out _ _ hc2 (fun hHeld => ?_)
                    clear hK K hc2
                    refine wpAnyH_call (i := 21) (oi := _) (v := .int .i64 ((chk h B f : Nat) : Int)) rfl (by kernel_rfl) (by kernel_rfl) (by kernel_rfl) (fun _ _ _ h => h) ⟨by rfl, 8, #[.int .i64 ((chk h B f : Nat) : Int)], fun w => ?_, fun w _ => num_c _ w⟩ (by assumption) ?_
                    · (go_simp; first | done | (with_reducible rfl))
                    simp only [Act.put, List.getElem_toArray, List.getElem_cons_succ, List.getElem_cons_zero, List.setIfInBounds_toArray, List.set_cons_zero, List.set_cons_succ]
                    refine wpAnyH_ready (rs := [26]) (by kernel_rfl) (by simp) ?_
                    refine AllReadyH.cons rfl (fun K hK => ?_) AllReadyH.nil
                    go_simp
                    have cm := my_mark HH2.out.2.1 f hf64
                    refine cm.mono ?_
                    rintro e w13 ⟨rfl, hm, g⟩
                    have HH3 : Keep (MW w w13 b (mkH h B f) (mkB h B f) (mkM h B f M) ∧ MW w w13 vb (mkH h B f) (mkB h B f) (mkM h B f M') ∧ b ≠ vb) := ⟨HH2.out.1.other g HH2.out.2.1.lo HH2.out.2.2, hm, HH2.out.2.2⟩
                    have hc2 : w13.cell? ⟨zb, zo + i, none⟩ = some (uv f) := hZ w13 hm.g
                    clear cm hm g HH2
                    refine hK.out _ _ hc2 (fun hHeld => ?_)
                    clear hK K hc2
                    refine wpAnyH_call (i := 27) (oi := _) (v := .int .i64 ((chk h B f : Nat) : Int)) rfl (by kernel_rfl) (by kernel_rfl) (by kernel_rfl) (fun _ _ _ h => h) ⟨by rfl, 8, #[.int .i64 ((chk h B f : Nat) : Int)], fun w => ?_, fun w _ => num_c _ w⟩ (by assumption) ?_
                    · (go_simp; first | done | (with_reducible rfl))
                    simp only [Act.put, List.getElem_toArray, List.getElem_cons_succ, List.getElem_cons_zero, List.setIfInBounds_toArray, List.set_cons_zero, List.set_cons_succ]
                    refine wpAnyH_take (i := 28) (oi := _) (v := ?_) rfl (by kernel_rfl) (by kernel_rfl) (by kernel_rfl) (fun _ _ _ h => h) (Or.inl ⟨by rfl, ?_⟩) (by assumption) ?_
                    rotate_left
                    · (intro w hSw; go_simp; first | done | (with_reducible rfl))
                    simp only [Act.put, List.getElem_toArray, List.getElem_cons_succ, List.getElem_cons_zero, List.setIfInBounds_toArray, List.set_cons_zero, List.set_cons_succ]
                    refine wpAnyH_take (i := 29) (oi := _) (v := ?_) rfl (by kernel_rfl) (by kernel_rfl) (by kernel_rfl) (fun _ _ _ h => h) (Or.inl ⟨by rfl, ?_⟩) (by assumption) ?_
                    rotate_left
                    · (intro w hSw; go_simp; first | done | (with_reducible rfl))
                    simp only [Act.put, List.getElem_toArray, List.getElem_cons_succ, List.getElem_cons_zero, List.setIfInBounds_toArray, List.set_cons_zero, List.set_cons_succ]
                    refine wpAnyH_done (by kernel_rfl) ?_ _
                    clear hHeld hZ
                    generalize chk h B f = k at *
                    go_wp2_with fail
                    refine ⟨⟨i + 1, _, _, _, _, by omega, rfl, HH3⟩, ?_⟩
                    simp only [intOf]; omega
                  · go_simp
                    refine hK.out _ _ hHeld (fun hHeld => ?_)
                    clear hK K x0 x1 x2 x3
                    refine wpAnyH_ready (rs := [5]) (by kernel_rfl) (by simp) ?_
                    refine AllReadyH.cons rfl (fun K hK => ?_) AllReadyH.nil
                    go_simp
                    refine (check_c h B f _ HH.out.1.k.h1 HH.out.1.k.b1 hf64).mono ?_
                    rintro e wq ⟨rfl, g⟩
                    replace HH : Keep (MW w wq b h B M ∧ MW w wq vb h B M' ∧ b ≠ vb) := ⟨HH.out.1.kept g, HH.out.2.1.kept g, HH.out.2.2⟩
                    refine hK.out _ _ (cell_kept g hHeld) (fun hHeld => ?_)
                    clear hK K g
                    refine wpAnyH_call (i := 6) (oi := _) (v := .int .i64 ((chk h B f : Nat) : Int)) rfl (by kernel_rfl) (by kernel_rfl) (by kernel_rfl) (fun _ _ _ h => h) ⟨by rfl, 8, #[.int .i64 ((chk h B f : Nat) : Int)], fun w => ?_, fun w _ => num_c _ w⟩ (by assumption) ?_
                    · (go_simp; first | done | (with_reducible rfl))
                    simp only [Act.put, List.getElem_toArray, List.getElem_cons_succ, List.getElem_cons_zero, List.setIfInBounds_toArray, List.set_cons_zero, List.set_cons_succ]
                    refine wpAnyH_ready (rs := [12]) (by kernel_rfl) (by simp) ?_
                    refine AllReadyH.cons rfl (fun K hK => ?_) AllReadyH.nil
                    go_simp
                    refine (check_c h B f _ HH.out.1.k.h1 HH.out.1.k.b1 hf64).mono ?_
                    rintro e wq ⟨rfl, g⟩
                    replace HH : Keep (MW w wq b h B M ∧ MW w wq vb h B M' ∧ b ≠ vb) := ⟨HH.out.1.kept g, HH.out.2.1.kept g, HH.out.2.2⟩
                    refine hK.out _ _ (cell_kept g hHeld) (fun hHeld => ?_)
                    clear hK K g
                    refine wpAnyH_call (i := 13) (oi := _) (v := .int .i64 ((chk h B f : Nat) : Int)) rfl (by kernel_rfl) (by kernel_rfl) (by kernel_rfl) (fun _ _ _ h => h) ⟨by rfl, 8, #[.int .i64 ((chk h B f : Nat) : Int)], fun w => ?_, fun w _ => num_c _ w⟩ (by assumption) ?_
                    · (go_simp; first | done | (with_reducible rfl))
                    simp only [Act.put, List.getElem_toArray, List.getElem_cons_succ, List.getElem_cons_zero, List.setIfInBounds_toArray, List.set_cons_zero, List.set_cons_succ]
                    refine wpAnyH_take (i := 14) (oi := _) (v := ?_) rfl (by kernel_rfl) (by kernel_rfl) (by kernel_rfl) (fun _ _ _ h => h) (Or.inl ⟨by rfl, ?_⟩) (by assumption) ?_
                    rotate_left
                    · (intro w hSw; go_simp; first | done | (with_reducible rfl))
                    simp only [Act.put, List.getElem_toArray, List.getElem_cons_succ, List.getElem_cons_zero, List.setIfInBounds_toArray, List.set_cons_zero, List.set_cons_succ]
                    refine wpAnyH_take (i := 15) (oi := _) (v := ?_) rfl (by kernel_rfl) (by kernel_rfl) (by kernel_rfl) (fun _ _ _ h => h) (Or.inl ⟨by rfl, ?_⟩) (by assumption) ?_
                    rotate_left
                    · (intro w hSw; go_simp; first | done | (with_reducible rfl))
                    simp only [Act.put, List.getElem_toArray, List.getElem_cons_succ, List.getElem_cons_zero, List.setIfInBounds_toArray, List.set_cons_zero, List.set_cons_succ]
                    refine wpAnyH_take (i := 16) (oi := _) (v := ?_) rfl (by kernel_rfl) (by kernel_rfl) (by kernel_rfl) (fun _ _ _ h => h) (Or.inl ⟨by rfl, ?_⟩) (by assumption) ?_
                    rotate_left
                    · (intro w hSw; go_simp; first | done | (with_reducible rfl))
                    simp only [Act.put, List.getElem_toArray, List.getElem_cons_succ, List.getElem_cons_zero, List.setIfInBounds_toArray, List.set_cons_zero, List.set_cons_succ]
                    refine wpAnyH_take (i := 17) (oi := _) (v := ?_) rfl (by kernel_rfl) (by kernel_rfl) (by kernel_rfl) (fun _ _ _ h => h) (Or.inl ⟨by rfl, ?_⟩) (by assumption) ?_
                    rotate_left
                    · (intro w hSw; go_simp; first | done | (with_reducible rfl))
                    simp only [Act.put, List.getElem_toArray, List.getElem_cons_succ, List.getElem_cons_zero, List.setIfInBounds_toArray, List.set_cons_zero, List.set_cons_succ]
                    refine wpAnyH_take (i := 18) (oi := _) (v := ?_) rfl (by kernel_rfl) (by kernel_rfl) (by kernel_rfl) (fun _ _ _ h => h) (Or.inl ⟨by rfl, ?_⟩) (by assumption) ?_
                    rotate_left
                    · (intro w hSw; go_simp; first | done | (with_reducible rfl))
                    simp only [Act.put, List.getElem_toArray, List.getElem_cons_succ, List.getElem_cons_zero, List.setIfInBounds_toArray, List.set_cons_zero, List.set_cons_succ]
                    refine wpAnyH_take (i := 19) (oi := _) (v := ?_) rfl (by kernel_rfl) (by kernel_rfl) (by kernel_rfl) (fun _ _ _ h => h) (Or.inl ⟨by rfl, ?_⟩) (by assumption) ?_
                    rotate_left
                    · (intro w hSw; have hq := hSw; clear hSw; go_simp; first | done | (with_reducible rfl))
                    simp only [Act.put, List.getElem_toArray, List.getElem_cons_succ, List.getElem_cons_zero, List.setIfInBounds_toArray, List.set_cons_zero, List.set_cons_succ]
                    refine wpAnyH_take (i := 22) (oi := _) (v := ?_) rfl (by kernel_rfl) (by kernel_rfl) (by kernel_rfl) (fun _ _ _ h => h) (Or.inl ⟨by rfl, ?_⟩) (by assumption) ?_
                    rotate_left
                    · (intro w hSw; go_simp; first | done | (with_reducible rfl))
                    simp only [Act.put, List.getElem_toArray, List.getElem_cons_succ, List.getElem_cons_zero, List.setIfInBounds_toArray, List.set_cons_zero, List.set_cons_succ]
                    refine wpAnyH_take (i := 23) (oi := _) (v := ?_) rfl (by kernel_rfl) (by kernel_rfl) (by kernel_rfl) (fun _ _ _ h => h) (Or.inl ⟨by rfl, ?_⟩) (by assumption) ?_
                    rotate_left
                    · (intro w hSw; go_simp; first | done | (with_reducible rfl))
                    simp only [Act.put, List.getElem_toArray, List.getElem_cons_succ, List.getElem_cons_zero, List.setIfInBounds_toArray, List.set_cons_zero, List.set_cons_succ]
                    refine wpAnyH_take (i := 24) (oi := _) (v := ?_) rfl (by kernel_rfl) (by kernel_rfl) (by kernel_rfl) (fun _ _ _ h => h) (Or.inl ⟨by rfl, ?_⟩) (by assumption) ?_
                    rotate_left
                    · (intro w hSw; go_simp; first | done | (with_reducible rfl))
                    simp only [Act.put, List.getElem_toArray, List.getElem_cons_succ, List.getElem_cons_zero, List.setIfInBounds_toArray, List.set_cons_zero, List.set_cons_succ]
                    refine wpAnyH_take (i := 25) (oi := _) (v := ?_) rfl (by kernel_rfl) (by kernel_rfl) (by kernel_rfl) (fun _ _ _ h => h) (Or.inl ⟨by rfl, ?_⟩) (by assumption) ?_
                    rotate_left
                    · (intro w hSw; have hq := hSw; clear hSw; go_simp; first | done | (with_reducible rfl))
                    simp only [Act.put, List.getElem_toArray, List.getElem_cons_succ, List.getElem_cons_zero, List.setIfInBounds_toArray, List.set_cons_zero, List.set_cons_succ]
                    refine wpAnyH_ready (rs := [20]) (by kernel_rfl) (by simp) ?_
                    refine AllReadyH.cons rfl (fun K hK => ?_) AllReadyH.nil
                    go_simp
                    have cm := my_mark HH.out.1 f hf64
                    refine cm.mono ?_
                    rintro e w12 ⟨rfl, hm, g⟩
                    have HH2 : Keep (MW w w12 b (mkH h B f) (mkB h B f) (mkM h B f M) ∧ MW w w12 vb h B M' ∧ b ≠ vb) := ⟨hm, HH.out.2.1.other g HH.out.1.lo (Ne.symm HH.out.2.2), HH.out.2.2⟩
                    have hc2 : w12.cell? ⟨zb, zo + i, none⟩ = some (uv f) := hZ w12 hm.g
                    clear cm hm g HH
                    refine hK.out _ _ hc2 (fun hHeld => ?_)
                    clear hK K hc2
                    refine wpAnyH_call (i := 21) (oi := _) (v := .int .i64 ((chk h B f : Nat) : Int)) rfl (by kernel_rfl) (by kernel_rfl) (by kernel_rfl) (fun _ _ _ h => h) ⟨by rfl, 8, #[.int .i64 ((chk h B f : Nat) : Int)], fun w => ?_, fun w _ => num_c _ w⟩ (by assumption) ?_
                    · (go_simp; first | done | (with_reducible rfl))
                    simp only [Act.put, List.getElem_toArray, List.getElem_cons_succ, List.getElem_cons_zero, List.setIfInBounds_toArray, List.set_cons_zero, List.set_cons_succ]
                    refine wpAnyH_ready (rs := [26]) (by kernel_rfl) (by simp) ?_
                    refine AllReadyH.cons rfl (fun K hK => ?_) AllReadyH.nil
                    go_simp
                    have cm := my_mark HH2.out.2.1 f hf64
                    refine cm.mono ?_
                    rintro e w13 ⟨rfl, hm, g⟩
                    have HH3 : Keep (MW w w13 b (mkH h B f) (mkB h B f) (mkM h B f M) ∧ MW w w13 vb (mkH h B f) (mkB h B f) (mkM h B f M') ∧ b ≠ vb) := ⟨HH2.out.1.other g HH2.out.2.1.lo HH2.out.2.2, hm, HH2.out.2.2⟩
                    have hc2 : w13.cell? ⟨zb, zo + i, none⟩ = some (uv f) := hZ w13 hm.g
                    clear cm hm g HH2
                    refine hK.out _ _ hc2 (fun hHeld => ?_)
                    clear hK K hc2
                    refine wpAnyH_call (i := 27) (oi := _) (v := .int .i64 ((chk h B f : Nat) : Int)) rfl (by kernel_rfl) (by kernel_rfl) (by kernel_rfl) (fun _ _ _ h => h) ⟨by rfl, 8, #[.int .i64 ((chk h B f : Nat) : Int)], fun w => ?_, fun w _ => num_c _ w⟩ (by assumption) ?_
                    · (go_simp; first | done | (with_reducible rfl))
                    simp only [Act.put, List.getElem_toArray, List.getElem_cons_succ, List.getElem_cons_zero, List.setIfInBounds_toArray, List.set_cons_zero, List.set_cons_succ]
                    refine wpAnyH_take (i := 28) (oi := _) (v := ?_) rfl (by kernel_rfl) (by kernel_rfl) (by kernel_rfl) (fun _ _ _ h => h) (Or.inl ⟨by rfl, ?_⟩) (by assumption) ?_
                    rotate_left
                    · (intro w hSw; go_simp; first | done | (with_reducible rfl))
                    simp only [Act.put, List.getElem_toArray, List.getElem_cons_succ, List.getElem_cons_zero, List.setIfInBounds_toArray, List.set_cons_zero, List.set_cons_succ]
                    refine wpAnyH_take (i := 29) (oi := _) (v := ?_) rfl (by kernel_rfl) (by kernel_rfl) (by kernel_rfl) (fun _ _ _ h => h) (Or.inl ⟨by rfl, ?_⟩) (by assumption) ?_
                    rotate_left
                    · (intro w hSw; go_simp; first | done | (with_reducible rfl))
                    simp only [Act.put, List.getElem_toArray, List.getElem_cons_succ, List.getElem_cons_zero, List.setIfInBounds_toArray, List.set_cons_zero, List.set_cons_succ]
                    refine wpAnyH_done (by kernel_rfl) ?_ _
                    clear hHeld hZ
                    generalize chk h B f = k at *
                    go_wp2_with fail
                    refine ⟨⟨i + 1, _, _, _, _, by omega, rfl, HH3⟩, ?_⟩
                    simp only [intOf]; omega
                · go_simp
                  refine hK.out _ _ hHeld (fun hHeld => ?_)
                  clear hK K x0 x1 x2 x3
                  refine wpAnyH_ready (rs := [0]) (by kernel_rfl) (by simp) ?_
                  refine AllReadyH.cons rfl (fun K hK => ?_) AllReadyH.nil
                  have x0 := HH.out.1.k.has.cellv 0 _ rfl
                  have x1 := HH.out.1.k.has.cellv 1 _ rfl
                  have x2 := HH.out.2.1.k.has.cellv 0 _ rfl
                  have x3 := HH.out.2.1.k.has.cellv 1 _ rfl
                  go_simp
                  refine hK.out _ _ hHeld (fun hHeld => ?_)
                  clear hK K x0 x1 x2 x3
                  refine wpAnyH_ready (rs := [5]) (by kernel_rfl) (by simp) ?_
                  refine AllReadyH.cons rfl (fun K hK => ?_) AllReadyH.nil
                  go_simp
                  refine (check_c h B f _ HH.out.1.k.h1 HH.out.1.k.b1 hf64).mono ?_
                  rintro e wq ⟨rfl, g⟩
                  replace HH : Keep (MW w wq b h B M ∧ MW w wq vb h B M' ∧ b ≠ vb) := ⟨HH.out.1.kept g, HH.out.2.1.kept g, HH.out.2.2⟩
                  refine hK.out _ _ (cell_kept g hHeld) (fun hHeld => ?_)
                  clear hK K g
                  refine wpAnyH_call (i := 6) (oi := _) (v := .int .i64 ((chk h B f : Nat) : Int)) rfl (by kernel_rfl) (by kernel_rfl) (by kernel_rfl) (fun _ _ _ h => h) ⟨by rfl, 8, #[.int .i64 ((chk h B f : Nat) : Int)], fun w => ?_, fun w _ => num_c _ w⟩ (by assumption) ?_
                  · (go_simp; first | done | (with_reducible rfl))
                  simp only [Act.put, List.getElem_toArray, List.getElem_cons_succ, List.getElem_cons_zero, List.setIfInBounds_toArray, List.set_cons_zero, List.set_cons_succ]
                  refine wpAnyH_ready (rs := [12]) (by kernel_rfl) (by simp) ?_
                  refine AllReadyH.cons rfl (fun K hK => ?_) AllReadyH.nil
                  go_simp
                  refine (check_c h B f _ HH.out.1.k.h1 HH.out.1.k.b1 hf64).mono ?_
                  rintro e wq ⟨rfl, g⟩
                  replace HH : Keep (MW w wq b h B M ∧ MW w wq vb h B M' ∧ b ≠ vb) := ⟨HH.out.1.kept g, HH.out.2.1.kept g, HH.out.2.2⟩
                  refine hK.out _ _ (cell_kept g hHeld) (fun hHeld => ?_)
                  clear hK K g
                  refine wpAnyH_call (i := 13) (oi := _) (v := .int .i64 ((chk h B f : Nat) : Int)) rfl (by kernel_rfl) (by kernel_rfl) (by kernel_rfl) (fun _ _ _ h => h) ⟨by rfl, 8, #[.int .i64 ((chk h B f : Nat) : Int)], fun w => ?_, fun w _ => num_c _ w⟩ (by assumption) ?_
                  · (go_simp; first | done | (with_reducible rfl))
                  simp only [Act.put, List.getElem_toArray, List.getElem_cons_succ, List.getElem_cons_zero, List.setIfInBounds_toArray, List.set_cons_zero, List.set_cons_succ]
                  refine wpAnyH_take (i := 14) (oi := _) (v := ?_) rfl (by kernel_rfl) (by kernel_rfl) (by kernel_rfl) (fun _ _ _ h => h) (Or.inl ⟨by rfl, ?_⟩) (by assumption) ?_
                  rotate_left
                  · (intro w hSw; go_simp; first | done | (with_reducible rfl))
                  simp only [Act.put, List.getElem_toArray, List.getElem_cons_succ, List.getElem_cons_zero, List.setIfInBounds_toArray, List.set_cons_zero, List.set_cons_succ]
                  refine wpAnyH_take (i := 15) (oi := _) (v := ?_) rfl (by kernel_rfl) (by kernel_rfl) (by kernel_rfl) (fun _ _ _ h => h) (Or.inl ⟨by rfl, ?_⟩) (by assumption) ?_
                  rotate_left
                  · (intro w hSw; go_simp; first | done | (with_reducible rfl))
                  simp only [Act.put, List.getElem_toArray, List.getElem_cons_succ, List.getElem_cons_zero, List.setIfInBounds_toArray, List.set_cons_zero, List.set_cons_succ]
                  refine wpAnyH_take (i := 16) (oi := _) (v := ?_) rfl (by kernel_rfl) (by kernel_rfl) (by kernel_rfl) (fun _ _ _ h => h) (Or.inl ⟨by rfl, ?_⟩) (by assumption) ?_
                  rotate_left
                  · (intro w hSw; go_simp; first | done | (with_reducible rfl))
                  simp only [Act.put, List.getElem_toArray, List.getElem_cons_succ, List.getElem_cons_zero, List.setIfInBounds_toArray, List.set_cons_zero, List.set_cons_succ]
                  refine wpAnyH_take (i := 17) (oi := _) (v := ?_) rfl (by kernel_rfl) (by kernel_rfl) (by kernel_rfl) (fun _ _ _ h => h) (Or.inl ⟨by rfl, ?_⟩) (by assumption) ?_
                  rotate_left
                  · (intro w hSw; go_simp; first | done | (with_reducible rfl))
                  simp only [Act.put, List.getElem_toArray, List.getElem_cons_succ, List.getElem_cons_zero, List.setIfInBounds_toArray, List.set_cons_zero, List.set_cons_succ]
                  refine wpAnyH_take (i := 18) (oi := _) (v := ?_) rfl (by kernel_rfl) (by kernel_rfl) (by kernel_rfl) (fun _ _ _ h => h) (Or.inl ⟨by rfl, ?_⟩) (by assumption) ?_
                  rotate_left
                  · (intro w hSw; go_simp; first | done | (with_reducible rfl))
                  simp only [Act.put, List.getElem_toArray, List.getElem_cons_succ, List.getElem_cons_zero, List.setIfInBounds_toArray, List.set_cons_zero, List.set_cons_succ]
                  refine wpAnyH_take (i := 19) (oi := _) (v := ?_) rfl (by kernel_rfl) (by kernel_rfl) (by kernel_rfl) (fun _ _ _ h => h) (Or.inl ⟨by rfl, ?_⟩) (by assumption) ?_
                  rotate_left
                  · (intro w hSw; have hq := hSw; clear hSw; go_simp; first | done | (with_reducible rfl))
                  simp only [Act.put, List.getElem_toArray, List.getElem_cons_succ, List.getElem_cons_zero, List.setIfInBounds_toArray, List.set_cons_zero, List.set_cons_succ]
                  refine wpAnyH_take (i := 22) (oi := _) (v := ?_) rfl (by kernel_rfl) (by kernel_rfl) (by kernel_rfl) (fun _ _ _ h => h) (Or.inl ⟨by rfl, ?_⟩) (by assumption) ?_
                  rotate_left
                  · (intro w hSw; go_simp; first | done | (with_reducible rfl))
                  simp only [Act.put, List.getElem_toArray, List.getElem_cons_succ, List.getElem_cons_zero, List.setIfInBounds_toArray, List.set_cons_zero, List.set_cons_succ]
                  refine wpAnyH_take (i := 23) (oi := _) (v := ?_) rfl (by kernel_rfl) (by kernel_rfl) (by kernel_rfl) (fun _ _ _ h => h) (Or.inl ⟨by rfl, ?_⟩) (by assumption) ?_
                  rotate_left
                  · (intro w hSw; go_simp; first | done | (with_reducible rfl))
                  simp only [Act.put, List.getElem_toArray, List.getElem_cons_succ, List.getElem_cons_zero, List.setIfInBounds_toArray, List.set_cons_zero, List.set_cons_succ]
                  refine wpAnyH_take (i := 24) (oi := _) (v := ?_) rfl (by kernel_rfl) (by kernel_rfl) (by kernel_rfl) (fun _ _ _ h => h) (Or.inl ⟨by rfl, ?_⟩) (by assumption) ?_
                  rotate_left
                  · (intro w hSw; go_simp; first | done | (with_reducible rfl))
                  simp only [Act.put, List.getElem_toArray, List.getElem_cons_succ, List.getElem_cons_zero, List.setIfInBounds_toArray, List.set_cons_zero, List.set_cons_succ]
                  refine wpAnyH_take (i := 25) (oi := _) (v := ?_) rfl (by kernel_rfl) (by kernel_rfl) (by kernel_rfl) (fun _ _ _ h => h) (Or.inl ⟨by rfl, ?_⟩) (by assumption) ?_
                  rotate_left
                  · (intro w hSw; have hq := hSw; clear hSw; go_simp; first | done | (with_reducible rfl))
                  simp only [Act.put, List.getElem_toArray, List.getElem_cons_succ, List.getElem_cons_zero, List.setIfInBounds_toArray, List.set_cons_zero, List.set_cons_succ]
                  refine wpAnyH_ready (rs := [20]) (by kernel_rfl) (by simp) ?_
                  refine AllReadyH.cons rfl (fun K hK => ?_) AllReadyH.nil
                  go_simp
                  have cm := my_mark HH.out.1 f hf64
                  refine cm.mono ?_
                  rintro e w12 ⟨rfl, hm, g⟩
                  have HH2 : Keep (MW w w12 b (mkH h B f) (mkB h B f) (mkM h B f M) ∧ MW w w12 vb h B M' ∧ b ≠ vb) := ⟨hm, HH.out.2.1.other g HH.out.1.lo (Ne.symm HH.out.2.2), HH.out.2.2⟩
                  have hc2 : w12.cell? ⟨zb, zo + i, none⟩ = some (uv f) := hZ w12 hm.g
                  clear cm hm g HH
                  refine hK.out _ _ hc2 (fun hHeld => ?_)
                  clear hK K hc2
                  refine wpAnyH_call (i := 21) (oi := _) (v := .int .i64 ((chk h B f : Nat) : Int)) rfl (by kernel_rfl) (by kernel_rfl) (by kernel_rfl) (fun _ _ _ h => h) ⟨by rfl, 8, #[.int .i64 ((chk h B f : Nat) : Int)], fun w => ?_, fun w _ => num_c _ w⟩ (by assumption) ?_
                  · (go_simp; first | done | (with_reducible rfl))
                  simp only [Act.put, List.getElem_toArray, List.getElem_cons_succ, List.getElem_cons_zero, List.setIfInBounds_toArray, List.set_cons_zero, List.set_cons_succ]
                  refine wpAnyH_ready (rs := [26]) (by kernel_rfl) (by simp) ?_
                  refine AllReadyH.cons rfl (fun K hK => ?_) AllReadyH.nil
                  go_simp
                  have cm := my_mark HH2.out.2.1 f hf64
                  refine cm.mono ?_
                  rintro e w13 ⟨rfl, hm, g⟩
                  have HH3 : Keep (MW w w13 b (mkH h B f) (mkB h B f) (mkM h B f M) ∧ MW w w13 vb (mkH h B f) (mkB h B f) (mkM h B f M') ∧ b ≠ vb) := ⟨HH2.out.1.other g HH2.out.2.1.lo HH2.out.2.2, hm, HH2.out.2.2⟩
                  have hc2 : w13.cell? ⟨zb, zo + i, none⟩ = some (uv f) := hZ w13 hm.g
                  clear cm hm g HH2
                  refine hK.out _ _ hc2 (fun hHeld => ?_)
                  clear hK K hc2
                  refine wpAnyH_call (i := 27) (oi := _) (v := .int .i64 ((chk h B f : Nat) : Int)) rfl (by kernel_rfl) (by kernel_rfl) (by kernel_rfl) (fun _ _ _ h => h) ⟨by rfl, 8, #[.int .i64 ((chk h B f : Nat) : Int)], fun w => ?_, fun w _ => num_c _ w⟩ (by assumption) ?_
                  · (go_simp; first | done | (with_reducible rfl))
                  simp only [Act.put, List.getElem_toArray, List.getElem_cons_succ, List.getElem_cons_zero, List.setIfInBounds_toArray, List.set_cons_zero, List.set_cons_succ]
                  refine wpAnyH_take (i := 28) (oi := _) (v := ?_) rfl (by kernel_rfl) (by kernel_rfl) (by kernel_rfl) (fun _ _ _ h => h) (Or.inl ⟨by rfl, ?_⟩) (by assumption) ?_
                  rotate_left
                  · (intro w hSw; go_simp; first | done | (with_reducible rfl))
                  simp only [Act.put, List.getElem_toArray, List.getElem_cons_succ, List.getElem_cons_zero, List.setIfInBounds_toArray, List.set_cons_zero, List.set_cons_succ]
                  refine wpAnyH_take (i := 29) (oi := _) (v := ?_) rfl (by kernel_rfl) (by kernel_rfl) (by kernel_rfl) (fun _ _ _ h => h) (Or.inl ⟨by rfl, ?_⟩) (by assumption) ?_
                  rotate_left
                  · (intro w hSw; go_simp; first | done | (with_reducible rfl))
                  simp only [Act.put, List.getElem_toArray, List.getElem_cons_succ, List.getElem_cons_zero, List.setIfInBounds_toArray, List.set_cons_zero, List.set_cons_succ]
                  refine wpAnyH_done (by kernel_rfl) ?_ _
                  clear hHeld hZ
                  generalize chk h B f = k at *
                  go_wp2_with fail
                  refine ⟨⟨i + 1, _, _, _, _, by omega, rfl, HH3⟩, ?_⟩
                  simp only [intOf]; omega
              · have hia : ¬ (i : Int) < (n3 : Int) := by omega
                go_wp2_with fail
                have HHd : Keep (MW w wr.drew b h B M ∧ MW w wr.drew vb h B M') := ⟨HH.out.1.kept (gr_drew _ _), HH.out.2.1.kept (gr_drew _ _)⟩
                clear HH
                refine wp_region_held_drew (S := fun w' => MW w w' b h B M ∧ MW w w' vb h B M') (by kernel_rfl) HHd.out (fun hHeld => ?_)
                clear HHd
                generalize wr.drew = w10 at *
                refine wpAnyH_take (i := 0) (oi := _) (v := ?_) rfl (by kernel_rfl) (by kernel_rfl) (by kernel_rfl) (fun _ _ _ h => h) (Or.inl ⟨by rfl, ?_⟩) (by assumption) ?_
                rotate_left
                · (intro w hSw; have x0 := hSw.1.k.has.cellv 0 _ rfl; have x1 := hSw.1.k.has.cellv 1 _ rfl; have x2 := hSw.2.k.has.cellv 0 _ rfl; have x3 := hSw.2.k.has.cellv 1 _ rfl; clear hSw; go_simp; first | done | (with_reducible rfl))
                simp only [Act.put, List.getElem_toArray, List.getElem_cons_zero, List.setIfInBounds_toArray, List.set_cons_zero, List.set_cons_succ]
                refine wpAnyH_take (i := 2) (oi := _) (v := ?_) rfl (by kernel_rfl) (by kernel_rfl) (by kernel_rfl) (fun _ _ _ h => h) (Or.inl ⟨by rfl, ?_⟩) (by assumption) ?_
                rotate_left
                · (intro w hSw; have x0 := hSw.1.k.has.cellv 0 _ rfl; have x1 := hSw.1.k.has.cellv 1 _ rfl; have x2 := hSw.2.k.has.cellv 0 _ rfl; have x3 := hSw.2.k.has.cellv 1 _ rfl; clear hSw; go_simp; first | done | (with_reducible rfl))
                simp only [Act.put, List.getElem_toArray, List.getElem_cons_succ, List.getElem_cons_zero, List.setIfInBounds_toArray, List.set_cons_zero, List.set_cons_succ]
                refine wpAnyH_ready (rs := [1]) (by kernel_rfl) (by simp) ?_
                refine AllReadyH.cons rfl (fun K hK => ?_) AllReadyH.nil
                go_simp
                refine (bits_c h B _).mono ?_
                rintro e wq ⟨rfl, g⟩
                refine hK.out _ _ ⟨hHeld.1.kept g, hHeld.2.kept g⟩ (fun hHeld => ?_)
                clear hK K g
                refine wpAnyH_ready (rs := [3]) (by kernel_rfl) (by simp) ?_
                refine AllReadyH.cons rfl (fun K hK => ?_) AllReadyH.nil
                go_simp
                refine (bits_c h B _).mono ?_
                rintro e wq ⟨rfl, g⟩
                refine hK.out _ _ ⟨hHeld.1.kept g, hHeld.2.kept g⟩ (fun hHeld => ?_)
                clear hK K g
                refine wpAnyH_take (i := 4) (oi := _) (v := ?_) rfl (by kernel_rfl) (by kernel_rfl) (by kernel_rfl) (fun _ _ _ h => h) (Or.inl ⟨by rfl, ?_⟩) (by assumption) ?_
                rotate_left
                · (intro w hSw; go_simp; first | done | (with_reducible rfl))
                simp only [Act.put, List.getElem_toArray, List.getElem_cons_succ, List.getElem_cons_zero, List.setIfInBounds_toArray, List.set_cons_zero, List.set_cons_succ]
                refine wpAnyH_take (i := 5) (oi := _) (v := ?_) rfl (by kernel_rfl) (by kernel_rfl) (by kernel_rfl) (fun _ _ _ h => h) (Or.inl ⟨by rfl, ?_⟩) (by assumption) ?_
                rotate_left
                · (intro w hSw; go_simp; first | done | (with_reducible rfl))
                simp only [Act.put, List.getElem_toArray, List.getElem_cons_succ, List.getElem_cons_zero, List.setIfInBounds_toArray, List.set_cons_zero, List.set_cons_succ]
                refine wpAnyH_done (by kernel_rfl) ?_ _
                have HW := Keep.mk hHeld
                clear hHeld
                go_wp2_with fail
                go_ret
                exact ⟨rfl, HW.out.1.g⟩
          · obtain ⟨t, rfl⟩ : ∃ t, j = t + 1 := ⟨j - 1, by omega⟩
            obtain rfl : q = (t : Int) := by omega
            clear hq hj
            have hia : (t : Int) < (i : Int) := by omega
            obtain ⟨sb, so, x, rfl, hxi, hx, hcc⟩ := HX.out.2.1.step (i := t) (by omega)
            have hx256 : (x : Int) < 256 := by simpa [IntKind.bits] using hx
            have c1 := hcc wr HL.out.1.g
            have HSi : Keep (S t = base + (1 + x % 63)) := ⟨by rw [HS.out]; simp [List.getD, hxi]⟩
            clear hcc hxi hx
            have hwi : IntKind.i64.wrap ((t : Int) - 1) = (t : Int) - 1 := wi _ (by omega) (by omega)
            have hx8 : IntKind.u64.wrap (x : Int) = (x : Int) := wu _ (by omega) (by omega)
            have hmod : (x : Int).tmod 63 = ((x % 63 : Nat) : Int) := by rw [Int.tmod_eq_emod_of_nonneg (by omega)]; omega
            have hwm : IntKind.u64.wrap ((x % 63 : Nat) : Int) = ((x % 63 : Nat) : Int) := wu _ (by omega) (by omega)
            have hy : x % 63 < 63 := by omega
            generalize x % 63 = y at *
            have hw1 : IntKind.u64.wrap ((base : Int) + 1) = ((base + 1 : Nat) : Int) := by rw [wu _ (by omega) (by omega)]; omega
            have hw2 : IntKind.u64.wrap (((base + 1 : Nat) : Int) + (y : Int)) = ((base + (1 + y) : Nat) : Int) := by rw [wu _ (by omega) (by omega)]; omega
            obtain ⟨H1, hH1⟩ : ∃ H1, base + 1 = H1 := ⟨_, rfl⟩
            obtain ⟨q, hq⟩ : ∃ q, base + (1 + y) = q := ⟨_, rfl⟩
            rw [hH1] at hw1 hw2
            rw [hq] at hw2 HSi
            have hq1 : base < q := by omega
            have hq2 : q ≤ base + 63 := by omega
            clear hH1 hq
            go_wp2_with fail
            have cm := my_mark HL.out.2.1 q (by omega)
            have HP := Keep.mk (pick_mem HL.out.2.1.v HL.out.2.2.1 HL.out.2.2.2.1 hq1 hq2)
            refine cm.mono ?_
            rintro e w6 ⟨rfl, hm, g⟩
            have HM2 : Keep (MW w w6 b h B M ∧ MW w w6 vb (mkH h' B' q) (mkB h' B' q) (mkM h' B' q M') ∧ base ≤ mkH h' B' q ∧ mkH h' B' q ≤ base + 63 ∧ ∀ x, x ∈ mkM h' B' q M' ↔ x ∈ M0 ∨ ∃ l, t ≤ l ∧ l < i ∧ x = S l) := ⟨HL.out.1.other g HL.out.2.1.lo HMM.out.1, hm, HP.out.2.1, HP.out.2.2, fun x => by
              rw [HP.out.1, HL.out.2.2.2.2 x]
              constructor
              · rintro ((q1 | ⟨l, q0, q1, q2⟩) | q1)
                · exact .inl q1
                · exact .inr ⟨l, by omega, q1, q2⟩
                · exact .inr ⟨t, by omega, by omega, by rw [HSi.out]; exact q1⟩
              · rintro (q1 | ⟨l, q0, q1, q2⟩)
                · exact .inl (.inl q1)
                · by_cases hl : l = t
                  · subst hl; exact .inr (by rw [q2]; exact HSi.out)
                  · exact .inl (.inr ⟨l, by omega, q1, q2⟩)⟩
            clear cm hm g HL HP c1
            generalize chk h' B' q = k at *
            go_wp2_with fail
            refine ⟨⟨_, t, _, _, _, by omega, by omega, rfl, HM2⟩, ?_⟩
            simp only [intOf]; omega
      · subst hc4
        go_wp2_with fail
        go_loopw [12] (fun s w' => ∃ (q : Int) (j h' B' : Nat) (M' : List Nat), j ≤ 64 ∧ q = (j : Int) - 1 ∧ s = .int .i64 q ∧ Keep (MW w w' b h B M ∧ MW w w' vb h' B' M' ∧ base ≤ h' ∧ h' ≤ base + 63 ∧ ∀ x, x ∈ M' ↔ x ∈ M0 ∨ ∃ l, j ≤ l ∧ l < 64 ∧ x = S l)) (fun s _ => (intOf s + 1).toNat)
        case atStart => exact ⟨_, 64, base, B0, M0, by omega, by omega, rfl, ⟨HL.out.1, HL.out.2.1, by omega, by omega, HL.out.2.2.2.2.2.2⟩⟩
        case round =>
          have HMM : Keep (b ≠ vb ∧ ∀ x, x ∈ M ↔ x ∈ M0 ∨ ∃ j, j < 64 ∧ x = S j) := ⟨HL.out.2.2.1, HL.out.2.2.2.2.2.1⟩
          clear HL
          obtain ⟨q, j, h', B', M', j1, hq, rfl, HL⟩ := hrel
          by_cases hj : j = 0
          · have hq0 : ¬ (0 : Int) ≤ q := by omega
            have HE : Keep (h' = h ∧ B' = B) := ⟨HL.out.2.1.v.same HL.out.1.v (fun x => by
              rw [HL.out.2.2.2.2 x, HMM.out.2 x]
              constructor
              · rintro (q1 | ⟨l, _, q1, q2⟩)
                · exact .inl q1
                · exact .inr ⟨l, q1, q2⟩
              · rintro (q1 | ⟨l, q1, q2⟩)
                · exact .inl q1
                · exact .inr ⟨l, by omega, q1, q2⟩)⟩
            obtain ⟨rfl, rfl⟩ := HE.out
            have HH : Keep (MW w wr b h' B' M ∧ MW w wr vb h' B' M' ∧ b ≠ vb) := ⟨HL.out.1, HL.out.2.1, HMM.out.1⟩
            clear HE HL HMM hj hq
            go_wp2_with fail
            have HHd : Keep (MW w wr.drew b h' B' M ∧ MW w wr.drew vb h' B' M') := ⟨HH.out.1.kept (gr_drew _ _), HH.out.2.1.kept (gr_drew _ _)⟩
            have HN : Keep (b ≠ vb) := ⟨HH.out.2.2⟩
            clear HH
            refine wp_region_held_drew (S := fun w' => MW w w' b h' B' M ∧ MW w w' vb h' B' M') (by kernel_rfl) HHd.out (fun hHeld => ?_)
            clear HHd
            generalize wr.drew = w10 at *
            refine wpAnyH_take (i := 0) (oi := _) (v := ?_) rfl (by kernel_rfl) (by kernel_rfl) (by kernel_rfl) (fun _ _ _ h => h) (Or.inl ⟨by rfl, ?_⟩) (by assumption) ?_
            rotate_left
            · (intro w hSw; have x0 := hSw.1.k.has.cellv 0 _ rfl; have x1 := hSw.1.k.has.cellv 1 _ rfl; have x2 := hSw.2.k.has.cellv 0 _ rfl; have x3 := hSw.2.k.has.cellv 1 _ rfl; clear hSw; go_simp; first | done | (with_reducible rfl))
            simp only [Act.put, List.getElem_toArray, List.getElem_cons_zero, List.setIfInBounds_toArray, List.set_cons_zero, List.set_cons_succ]
            refine wpAnyH_take (i := 2) (oi := _) (v := ?_) rfl (by kernel_rfl) (by kernel_rfl) (by kernel_rfl) (fun _ _ _ h => h) (Or.inl ⟨by rfl, ?_⟩) (by assumption) ?_
            rotate_left
            · (intro w hSw; have x0 := hSw.1.k.has.cellv 0 _ rfl; have x1 := hSw.1.k.has.cellv 1 _ rfl; have x2 := hSw.2.k.has.cellv 0 _ rfl; have x3 := hSw.2.k.has.cellv 1 _ rfl; clear hSw; go_simp; first | done | (with_reducible rfl))
            simp only [Act.put, List.getElem_toArray, List.getElem_cons_succ, List.getElem_cons_zero, List.setIfInBounds_toArray, List.set_cons_zero, List.set_cons_succ]
            refine wpAnyH_ready (rs := [1]) (by kernel_rfl) (by simp) ?_
            refine AllReadyH.cons rfl (fun K hK => ?_) AllReadyH.nil
            go_simp
            refine (high_c h' B' _).mono ?_
            rintro e wq ⟨rfl, g⟩
            refine hK.out _ _ ⟨hHeld.1.kept g, hHeld.2.kept g⟩ (fun hHeld => ?_)
            clear hK K g
            refine wpAnyH_ready (rs := [3]) (by kernel_rfl) (by simp) ?_
            refine AllReadyH.cons rfl (fun K hK => ?_) AllReadyH.nil
            go_simp
            refine (high_c h' B' _).mono ?_
            rintro e wq ⟨rfl, g⟩
            refine hK.out _ _ ⟨hHeld.1.kept g, hHeld.2.kept g⟩ (fun hHeld => ?_)
            clear hK K g
            refine wpAnyH_take (i := 4) (oi := _) (v := ?_) rfl (by kernel_rfl) (by kernel_rfl) (by kernel_rfl) (fun _ _ _ h => h) (Or.inl ⟨by rfl, ?_⟩) (by assumption) ?_
            rotate_left
            · (intro w hSw; go_simp; first | done | (with_reducible rfl))
            simp only [Act.put, List.getElem_toArray, List.getElem_cons_succ, List.getElem_cons_zero, List.setIfInBounds_toArray, List.set_cons_zero, List.set_cons_succ]
            refine wpAnyH_take (i := 5) (oi := _) (v := ?_) rfl (by kernel_rfl) (by kernel_rfl) (by kernel_rfl) (fun _ _ _ h => h) (Or.inl ⟨by rfl, ?_⟩) (by assumption) ?_
            rotate_left
            · (intro w hSw; go_simp; first | done | (with_reducible rfl))
            simp only [Act.put, List.getElem_toArray, List.getElem_cons_succ, List.getElem_cons_zero, List.setIfInBounds_toArray, List.set_cons_zero, List.set_cons_succ]
            refine wpAnyH_take (i := 6) (oi := _) (v := ?_) rfl (by kernel_rfl) (by kernel_rfl) (by kernel_rfl) (fun _ _ _ h => h) (Or.inl ⟨by rfl, ?_⟩) (by assumption) ?_
            rotate_left
            · (intro w hSw; have x0 := hSw.1.k.has.cellv 0 _ rfl; have x1 := hSw.1.k.has.cellv 1 _ rfl; have x2 := hSw.2.k.has.cellv 0 _ rfl; have x3 := hSw.2.k.has.cellv 1 _ rfl; clear hSw; go_simp; first | done | (with_reducible rfl))
            simp only [Act.put, List.getElem_toArray, List.getElem_cons_succ, List.getElem_cons_zero, List.setIfInBounds_toArray, List.set_cons_zero, List.set_cons_succ]
            refine wpAnyH_take (i := 8) (oi := _) (v := ?_) rfl (by kernel_rfl) (by kernel_rfl) (by kernel_rfl) (fun _ _ _ h => h) (Or.inl ⟨by rfl, ?_⟩) (by assumption) ?_
            rotate_left
            · (intro w hSw; have x0 := hSw.1.k.has.cellv 0 _ rfl; have x1 := hSw.1.k.has.cellv 1 _ rfl; have x2 := hSw.2.k.has.cellv 0 _ rfl; have x3 := hSw.2.k.has.cellv 1 _ rfl; clear hSw; go_simp; first | done | (with_reducible rfl))
            simp only [Act.put, List.getElem_toArray, List.getElem_cons_succ, List.getElem_cons_zero, List.setIfInBounds_toArray, List.set_cons_zero, List.set_cons_succ]
            refine wpAnyH_ready (rs := [7]) (by kernel_rfl) (by simp) ?_
            refine AllReadyH.cons rfl (fun K hK => ?_) AllReadyH.nil
            go_simp
            refine (bits_c h' B' _).mono ?_
            rintro e wq ⟨rfl, g⟩
            refine hK.out _ _ ⟨hHeld.1.kept g, hHeld.2.kept g⟩ (fun hHeld => ?_)
            clear hK K g
            refine wpAnyH_ready (rs := [9]) (by kernel_rfl) (by simp) ?_
            refine AllReadyH.cons rfl (fun K hK => ?_) AllReadyH.nil
            go_simp
            refine (bits_c h' B' _).mono ?_
            rintro e wq ⟨rfl, g⟩
            refine hK.out _ _ ⟨hHeld.1.kept g, hHeld.2.kept g⟩ (fun hHeld => ?_)
            clear hK K g
            refine wpAnyH_take (i := 10) (oi := _) (v := ?_) rfl (by kernel_rfl) (by kernel_rfl) (by kernel_rfl) (fun _ _ _ h => h) (Or.inl ⟨by rfl, ?_⟩) (by assumption) ?_
            rotate_left
            · (intro w hSw; go_simp; first | done | (with_reducible rfl))
            simp only [Act.put, List.getElem_toArray, List.getElem_cons_succ, List.getElem_cons_zero, List.setIfInBounds_toArray, List.set_cons_zero, List.set_cons_succ]
            refine wpAnyH_take (i := 11) (oi := _) (v := ?_) rfl (by kernel_rfl) (by kernel_rfl) (by kernel_rfl) (fun _ _ _ h => h) (Or.inl ⟨by rfl, ?_⟩) (by assumption) ?_
            rotate_left
            · (intro w hSw; go_simp; first | done | (with_reducible rfl))
            simp only [Act.put, List.getElem_toArray, List.getElem_cons_succ, List.getElem_cons_zero, List.setIfInBounds_toArray, List.set_cons_zero, List.set_cons_succ]
            refine wpAnyH_done (by kernel_rfl) ?_ _
            have HW := Keep.mk hHeld
            clear hHeld
            go_wp2_with fail
            have HZ := Keep.mk HX.out.2.2
            clear HX
            go_loopw [13] (fun s w' => ∃ (i h B : Nat) (M M' : List Nat), i ≤ n3 ∧ s = .int .i64 (i : Nat) ∧ Keep (MW w w' b h B M ∧ MW w w' vb h B M' ∧ b ≠ vb)) (fun s _ => n3 - (intOf s).toNat)
            case atStart => exact ⟨0, h', B', M, M', by omega, rfl, ⟨HW.out.1, HW.out.2, HN.out⟩⟩
            case round =>
              clear HW HN
              obtain ⟨i, h, B, M, M', i1, rfl, HH⟩ := hrel
              by_cases hi : i < n3
              · have hia : (i : Int) < (n3 : Int) := by omega
                obtain ⟨zb, zo, f, rfl, hxi, hx, hcc⟩ := HZ.out.step hi
                have hf64 : f < 18446744073709551616 := by
                  have : (f : Int) < 18446744073709551616 := by simpa [IntKind.bits] using hx
                  omega
                have hZ := hcc
                have c1 := hcc wr.drew (HH.out.1.kept (gr_drew _ _)).g
                clear hcc hxi hx
                have hwi : IntKind.i64.wrap ((i : Int) + 1) = ((i + 1 : Nat) : Int) := wi _ (by omega) (by omega)
                go_wp2_with fail
                refine wp_region_held_drew (S := fun w' => w'.cell? ⟨zb, zo + i, none⟩ = some (uv f)) (by kernel_rfl) c1 (fun hHeld => ?_)
                replace HH : Keep (MW w wr.drew b h B M ∧ MW w wr.drew vb h B M' ∧ b ≠ vb) := ⟨HH.out.1.kept (gr_drew _ _), HH.out.2.1.kept (gr_drew _ _), HH.out.2.2⟩
                clear c1
                generalize wr.drew = wq at *
                refine wpAnyH_take (i := 1) (oi := _) (v := ?_) rfl (by kernel_rfl) (by kernel_rfl) (by kernel_rfl) (fun _ _ _ h => h) (Or.inl ⟨by rfl, ?_⟩) (by assumption) ?_
                rotate_left
                · (intro w hSw; go_simp; first | done | (with_reducible rfl))
                simp only [Act.put, List.getElem_toArray, List.getElem_cons_succ, List.getElem_cons_zero, List.setIfInBounds_toArray, List.set_cons_zero, List.set_cons_succ]
                refine wpAnyH_take (i := 2) (oi := _) (v := ?_) rfl (by kernel_rfl) (by kernel_rfl) (by kernel_rfl) (fun _ _ _ h => h) (Or.inl ⟨by rfl, ?_⟩) (by assumption) ?_
                rotate_left
                · (intro w hSw; go_simp; first | done | (with_reducible rfl))
                simp only [Act.put, List.getElem_toArray, List.getElem_cons_succ, List.getElem_cons_zero, List.setIfInBounds_toArray, List.set_cons_zero, List.set_cons_succ]
                refine wpAnyH_take (i := 3) (oi := _) (v := ?_) rfl (by kernel_rfl) (by kernel_rfl) (by kernel_rfl) (fun _ _ _ h => h) (Or.inl ⟨by rfl, ?_⟩) (by assumption) ?_
                rotate_left
                · (intro w hSw; go_simp; first | done | (with_reducible rfl))
                simp only [Act.put, List.getElem_toArray, List.getElem_cons_succ, List.getElem_cons_zero, List.setIfInBounds_toArray, List.set_cons_zero, List.set_cons_succ]
                refine wpAnyH_take (i := 4) (oi := _) (v := ?_) rfl (by kernel_rfl) (by kernel_rfl) (by kernel_rfl) (fun _ _ _ h => h) (Or.inl ⟨by rfl, ?_⟩) (by assumption) ?_
                rotate_left
                · (intro w hSw; have hq := hSw; clear hSw; go_simp; first | done | (with_reducible rfl))
                simp only [Act.put, List.getElem_toArray, List.getElem_cons_succ, List.getElem_cons_zero, List.setIfInBounds_toArray, List.set_cons_zero, List.set_cons_succ]
                refine wpAnyH_take (i := 8) (oi := _) (v := ?_) rfl (by kernel_rfl) (by kernel_rfl) (by kernel_rfl) (fun _ _ _ h => h) (Or.inl ⟨by rfl, ?_⟩) (by assumption) ?_
                rotate_left
                · (intro w hSw; go_simp; first | done | (with_reducible rfl))
                simp only [Act.put, List.getElem_toArray, List.getElem_cons_succ, List.getElem_cons_zero, List.setIfInBounds_toArray, List.set_cons_zero, List.set_cons_succ]
                refine wpAnyH_take (i := 9) (oi := _) (v := ?_) rfl (by kernel_rfl) (by kernel_rfl) (by kernel_rfl) (fun _ _ _ h => h) (Or.inl ⟨by rfl, ?_⟩) (by assumption) ?_
                rotate_left
                · (intro w hSw; go_simp; first | done | (with_reducible rfl))
                simp only [Act.put, List.getElem_toArray, List.getElem_cons_succ, List.getElem_cons_zero, List.setIfInBounds_toArray, List.set_cons_zero, List.set_cons_succ]
                refine wpAnyH_take (i := 10) (oi := _) (v := ?_) rfl (by kernel_rfl) (by kernel_rfl) (by kernel_rfl) (fun _ _ _ h => h) (Or.inl ⟨by rfl, ?_⟩) (by assumption) ?_
                rotate_left
                · (intro w hSw; go_simp; first | done | (with_reducible rfl))
                simp only [Act.put, List.getElem_toArray, List.getElem_cons_succ, List.getElem_cons_zero, List.setIfInBounds_toArray, List.set_cons_zero, List.set_cons_succ]
                refine wpAnyH_take (i := 11) (oi := _) (v := ?_) rfl (by kernel_rfl) (by kernel_rfl) (by kernel_rfl) (fun _ _ _ h => h) (Or.inl ⟨by rfl, ?_⟩) (by assumption) ?_
                rotate_left
                · (intro w hSw; have hq := hSw; clear hSw; go_simp; first | done | (with_reducible rfl))
                simp only [Act.put, List.getElem_toArray, List.getElem_cons_succ, List.getElem_cons_zero, List.setIfInBounds_toArray, List.set_cons_zero, List.set_cons_succ]
                have x0 := HH.out.1.k.has.cellv 0 _ rfl
                have x1 := HH.out.1.k.has.cellv 1 _ rfl
                have x2 := HH.out.2.1.k.has.cellv 0 _ rfl
                have x3 := HH.out.2.1.k.has.cellv 1 _ rfl
                refine wpAnyH_ready (rs := [0, 7]) (by kernel_rfl) (by simp) ?_
                refine AllReadyH.cons rfl (fun K hK => ?_) (AllReadyH.cons rfl (fun K hK => ?_) AllReadyH.nil)
                · go_simp
                  refine hK.out _ _ hHeld (fun hHeld => ?_)
                  clear hK K x0 x1 x2 x3
                  have x0 := HH.out.1.k.has.cellv 0 _ rfl
                  have x1 := HH.out.1.k.has.cellv 1 _ rfl
                  have x2 := HH.out.2.1.k.has.cellv 0 _ rfl
                  have x3 := HH.out.2.1.k.has.cellv 1 _ rfl
                  refine wpAnyH_ready (rs := [5, 7]) (by kernel_rfl) (by simp) ?_
                  refine AllReadyH.cons rfl (fun K hK => ?_) (AllReadyH.cons rfl (fun K hK => ?_) AllReadyH.nil)
                  · clear x0 x1 x2 x3
                    go_simp
                    refine (check_c h B f _ HH.out.1.k.h1 HH.out.1.k.b1 hf64).mono ?_
                    rintro e wq ⟨rfl, g⟩
                    replace HH : Keep (MW w wq b h B M ∧ MW w wq vb h B M' ∧ b ≠ vb) := ⟨HH.out.1.kept g, HH.out.2.1.kept g, HH.out.2.2⟩
                    refine hK.out _ _ (cell_kept g hHeld) (fun hHeld => ?_)
                    clear hK K g
                    refine wpAnyH_call (i := 6) (oi := _) (v := .int .i64 ((chk h B f : Nat) : Int)) rfl (by kernel_rfl) (by kernel_rfl) (by kernel_rfl) (fun _ _ _ h => h) ⟨by rfl, 8, #[.int .i64 ((chk h B f : Nat) : Int)], fun w => ?_, fun w _ => num_c _ w⟩ (by assumption) ?_
                    · (go_simp; first | done | (with_reducible rfl))
                    simp only [Act.put, List.getElem_toArray, List.getElem_cons_succ, List.getElem_cons_zero, List.setIfInBounds_toArray, List.set_cons_zero, List.set_cons_succ]
                    refine wpAnyH_ready (rs := [7]) (by kernel_rfl) (by simp) ?_
                    refine AllReadyH.cons rfl (fun K hK => ?_) AllReadyH.nil
                    have x0 := HH.out.1.k.has.cellv 0 _ rfl
                    have x1 := HH.out.1.k.has.cellv 1 _ rfl
                    have x2 := HH.out.2.1.k.has.cellv 0 _ rfl
                    have x3 := HH.out.2.1.k.has.cellv 1 _ rfl
                    go_simp
                    refine hK.out _ _ hHeld (fun hHeld => ?_)
                    clear hK K x0 x1 x2 x3
                    refine wpAnyH_ready (rs := [12]) (by kernel_rfl) (by simp) ?_
                    refine AllReadyH.cons rfl (fun K hK => ?_) AllReadyH.nil
                    go_simp
                    refine (check_c h B f _ HH.out.1.k.h1 HH.out.1.k.b1 hf64).mono ?_
                    rintro e wq ⟨rfl, g⟩
                    replace HH : Keep (MW w wq b h B M ∧ MW w wq vb h B M' ∧ b ≠ vb) := ⟨HH.out.1.kept g, HH.out.2.1.kept g, HH.out.2.2⟩
                    refine hK.out _ _ (cell_kept g hHeld) (fun hHeld => ?_)
                    clear hK K g
                    refine wpAnyH_call (i := 13) (oi := _) (v := .int .i64 ((chk h B f : Nat) : Int)) rfl (by kernel_rfl) (by kernel_rfl) (by kernel_rfl) (fun _ _ _ h => h) ⟨by rfl, 8, #[.int .i64 ((chk h B f : Nat) : Int)], fun w => ?_, fun w _ => num_c _ w⟩ (by assumption) ?_
                    · (go_simp; first | done | (with_reducible rfl))
                    simp only [Act.put, List.getElem_toArray, List.getElem_cons_succ, List.getElem_cons_zero, List.setIfInBounds_toArray, List.set_cons_zero, List.set_cons_succ]
                    refine wpAnyH_take (i := 14) (oi := _) (v := ?_) rfl (by kernel_rfl) (by kernel_rfl) (by kernel_rfl) (fun _ _ _ h => h) (Or.inl ⟨by rfl, ?_⟩) (by assumption) ?_
                    rotate_left
                    · (intro w hSw; go_simp; first | done | (with_reducible rfl))
                    simp only [Act.put, List.getElem_toArray, List.getElem_cons_succ, List.getElem_cons_zero, List.setIfInBounds_toArray, List.set_cons_zero, List.set_cons_succ]
                    refine wpAnyH_take (i := 15) (oi := _) (v := ?_) rfl (by kernel_rfl) (by kernel_rfl) (by kernel_rfl) (fun _ _ _ h => h) (Or.inl ⟨by rfl, ?_⟩) (by assumption) ?_
                    rotate_left
                    · (intro w hSw; go_simp; first | done | (with_reducible rfl))
                    simp only [Act.put, List.getElem_toArray, List.getElem_cons_succ, List.getElem_cons_zero, List.setIfInBounds_toArray, List.set_cons_zero, List.set_cons_succ]
                    refine wpAnyH_take (i := 16) (oi := _) (v := ?_) rfl (by kernel_rfl) (by kernel_rfl) (by kernel_rfl) (fun _ _ _ h => h) (Or.inl ⟨by rfl, ?_⟩) (by assumption) ?_
                    rotate_left
                    · (intro w hSw; go_simp; first | done | (with_reducible rfl))
                    simp only [Act.put, List.getElem_toArray, List.getElem_cons_succ, List.getElem_cons_zero, List.setIfInBounds_toArray, List.set_cons_zero, List.set_cons_succ]
                    refine wpAnyH_take (i := 17) (oi := _) (v := ?_) rfl (by kernel_rfl) (by kernel_rfl) (by kernel_rfl) (fun _ _ _ h => h) (Or.inl ⟨by rfl, ?_⟩) (by assumption) ?_
                    rotate_left
                    · (intro w hSw; go_simp; first | done | (with_reducible rfl))
                    simp only [Act.put, List.getElem_toArray, List.getElem_cons_succ, List.getElem_cons_zero, List.setIfInBounds_toArray, List.set_cons_zero, List.set_cons_succ]
                    refine wpAnyH_take (i := 18) (oi := _) (v := ?_) rfl (by kernel_rfl) (by kernel_rfl) (by kernel_rfl) (fun _ _ _ h => h) (Or.inl ⟨by rfl, ?_⟩) (by assumption) ?_
                    rotate_left
                    · (intro w hSw; go_simp; first | done | (with_reducible rfl))
                    simp only [Act.put, List.getElem_toArray, List.getElem_cons_succ, List.getElem_cons_zero, List.setIfInBounds_toArray, List.set_cons_zero, List.set_cons_succ]
                    refine wpAnyH_take (i := 19) (oi := _) (v := ?_) rfl (by kernel_rfl) (by kernel_rfl) (by kernel_rfl) (fun _ _ _ h => h) (Or.inl ⟨by rfl, ?_⟩) (by assumption) ?_
                    rotate_left
                    · (intro w hSw; have hq := hSw; clear hSw; go_simp; first | done | (with_reducible rfl))
                    simp only [Act.put, List.getElem_toArray, List.getElem_cons_succ, List.getElem_cons_zero, List.setIfInBounds_toArray, List.set_cons_zero, List.set_cons_succ]
                    refine wpAnyH_take (i := 22) (oi := _) (v := ?_) rfl (by kernel_rfl) (by kernel_rfl) (by kernel_rfl) (fun _ _ _ h => h) (Or.inl ⟨by rfl, ?_⟩) (by assumption) ?_
                    rotate_left
                    · (intro w hSw; go_simp; first | done | (with_reducible rfl))
                    simp only [Act.put, List.getElem_toArray, List.getElem_cons_succ, List.getElem_cons_zero, List.setIfInBounds_toArray, List.set_cons_zero, List.set_cons_succ]
                    refine wpAnyH_take (i := 23) (oi := _) (v := ?_) rfl (by kernel_rfl) (by kernel_rfl) (by kernel_rfl) (fun _ _ _ h => h) (Or.inl ⟨by rfl, ?_⟩) (by assumption) ?_
                    rotate_left
                    · (intro w hSw; go_simp; first | done | (with_reducible rfl))
                    simp only [Act.put, List.getElem_toArray, List.getElem_cons_succ, List.getElem_cons_zero, List.setIfInBounds_toArray, List.set_cons_zero, List.set_cons_succ]
                    refine wpAnyH_take (i := 24) (oi := _) (v := ?_) rfl (by kernel_rfl) (by kernel_rfl) (by kernel_rfl) (fun _ _ _ h => h) (Or.inl ⟨by rfl, ?_⟩) (by assumption) ?_
                    rotate_left
                    · (intro w hSw; go_simp; first | done | (with_reducible rfl))
                    simp only [Act.put, List.getElem_toArray, List.getElem_cons_succ, List.getElem_cons_zero, List.setIfInBounds_toArray, List.set_cons_zero, List.set_cons_succ]
                    refine wpAnyH_take (i := 25) (oi := _) (v := ?_) rfl (by kernel_rfl) (by kernel_rfl) (by kernel_rfl) (fun _ _ _ h => h) (Or.inl ⟨by rfl, ?_⟩) (by assumption) ?_
                    rotate_left
                    · (intro w hSw; have hq := hSw; clear hSw; go_simp; first | done | (with_reducible rfl))
                    simp only [Act.put, List.getElem_toArray, List.getElem_cons_succ, List.getElem_cons_zero, List.setIfInBounds_toArray, List.set_cons_zero, List.set_cons_succ]
                    refine wpAnyH_ready (rs := [20]) (by kernel_rfl) (by simp) ?_
                    refine AllReadyH.cons rfl (fun K hK => ?_) AllReadyH.nil
                    go_simp
                    have cm := my_mark HH.out.1 f hf64
                    refine cm.mono ?_
                    rintro e w12 ⟨rfl, hm, g⟩
                    have HH2 : Keep (MW w w12 b (mkH h B f) (mkB h B f) (mkM h B f M) ∧ MW w w12 vb h B M' ∧ b ≠ vb) := ⟨hm, HH.out.2.1.other g HH.out.1.lo (Ne.symm HH.out.2.2), HH.out.2.2⟩
                    have hc2 : w12.cell? ⟨zb, zo + i, none⟩ = some (uv f) := hZ w12 hm.g
                    clear cm hm g HH
                    refine hK.out _ _ hc2 (fun hHeld => ?_)
                    clear hK K hc2
                    refine wpAnyH_call (i := 21) (oi := _) (v := .int .i64 ((chk h B f : Nat) : Int)) rfl (by kernel_rfl) (by kernel_rfl) (by kernel_rfl) (fun _ _ _ h => h) ⟨by rfl, 8, #[.int .i64 ((chk h B f : Nat) : Int)], fun w => ?_, fun w _ => num_c _ w⟩ (by assumption) ?_
                    · (go_simp; first | done | (with_reducible rfl))
                    simp only [Act.put, List.getElem_toArray, List.getElem_cons_succ, List.getElem_cons_zero, List.setIfInBounds_toArray, List.set_cons_zero, List.set_cons_succ]
                    refine wpAnyH_ready (rs := [26]) (by kernel_rfl) (by simp) ?_
                    refine AllReadyH.cons rfl (fun K hK => ?_) AllReadyH.nil
                    go_simp
                    have cm := my_mark HH2.out.2.1 f hf64
                    refine cm.mono ?_
                    rintro e w13 ⟨rfl, hm, g⟩
                    have HH3 : Keep (MW w w13 b (mkH h B f) (mkB h B f) (mkM h B f M) ∧ MW w w13 vb (mkH h B f) (mkB h B f) (mkM h B f M') ∧ b ≠ vb) := ⟨HH2.out.1.other g HH2.out.2.1.lo HH2.out.2.2, hm, HH2.out.2.2⟩
                    have hc2 : w13.cell? ⟨zb, zo + i, none⟩ = some (uv f) := hZ w13 hm.g
                    clear cm hm g HH2
                    refine hK.out _ _ hc2 (fun hHeld => ?_)
                    clear hK K hc2
                    refine wpAnyH_call (i := 27) (oi := _) (v := .int .i64 ((chk h B f : Nat) : Int)) rfl (by kernel_rfl) (by kernel_rfl) (by kernel_rfl) (fun _ _ _ h => h) ⟨by rfl, 8, #[.int .i64 ((chk h B f : Nat) : Int)], fun w => ?_, fun w _ => num_c _ w⟩ (by assumption) ?_
                    · (go_simp; first | done | (with_reducible rfl))
                    simp only [Act.put, List.getElem_toArray, List.getElem_cons_succ, List.getElem_cons_zero, List.setIfInBounds_toArray, List.set_cons_zero, List.set_cons_succ]
                    refine wpAnyH_take (i := 28) (oi := _) (v := ?_) rfl (by kernel_rfl) (by kernel_rfl) (by kernel_rfl) (fun _ _ _ h => h) (Or.inl ⟨by rfl, ?_⟩) (by assumption) ?_
                    rotate_left
                    · (intro w hSw; go_simp; first | done | (with_reducible rfl))
                    simp only [Act.put, List.getElem_toArray, List.getElem_cons_succ, List.getElem_cons_zero, List.setIfInBounds_toArray, List.set_cons_zero, List.set_cons_succ]
                    refine wpAnyH_take (i := 29) (oi := _) (v := ?_) rfl (by kernel_rfl) (by kernel_rfl) (by kernel_rfl) (fun _ _ _ h => h) (Or.inl ⟨by rfl, ?_⟩) (by assumption) ?_
                    rotate_left
                    · (intro w hSw; go_simp; first | done | (with_reducible rfl))
                    simp only [Act.put, List.getElem_toArray, List.getElem_cons_succ, List.getElem_cons_zero, List.setIfInBounds_toArray, List.set_cons_zero, List.set_cons_succ]
                    refine wpAnyH_done (by kernel_rfl) ?_ _
                    clear hHeld hZ
                    generalize chk h B f = k at *
                    go_wp2_with fail
                    refine ⟨⟨i + 1, _, _, _, _, by omega, rfl, HH3⟩, ?_⟩
                    simp only [intOf]; omega
                  · go_simp
                    refine hK.out _ _ hHeld (fun hHeld => ?_)
                    clear hK K x0 x1 x2 x3
                    refine wpAnyH_ready (rs := [5]) (by kernel_rfl) (by simp) ?_
                    refine AllReadyH.cons rfl (fun K hK => ?_) AllReadyH.nil
                    go_simp
                    refine (check_c h B f _ HH.out.1.k.h1 HH.out.1.k.b1 hf64).mono ?_
                    rintro e wq ⟨rfl, g⟩
                    replace HH : Keep (MW w wq b h B M ∧ MW w wq vb h B M' ∧ b ≠ vb) := ⟨HH.out.1.kept g, HH.out.2.1.kept g, HH.out.2.2⟩
                    refine hK.out _ _ (cell_kept g hHeld) (fun hHeld => ?_)
                    clear hK K g
                    refine wpAnyH_call (i := 6) (oi := _) (v := .int .i64 ((chk h B f : Nat) : Int)) rfl (by kernel_rfl) (by kernel_rfl) (by kernel_rfl) (fun _ _ _ h => h) ⟨by rfl, 8, #[.int .i64 ((chk h B f : Nat) : Int)], fun w => ?_, fun w _ => num_c _ w⟩ (by assumption) ?_
                    · (go_simp; first | done | (with_reducible rfl))
                    simp only [Act.put, List.getElem_toArray, List.getElem_cons_succ, List.getElem_cons_zero, List.setIfInBounds_toArray, List.set_cons_zero, List.set_cons_succ]
                    refine wpAnyH_ready (rs := [12]) (by kernel_rfl) (by simp) ?_
                    refine AllReadyH.cons rfl (fun K hK => ?_) AllReadyH.nil
                    go_simp
                    refine (check_c h B f _ HH.out.1.k.h1 HH.out.1.k.b1 hf64).mono ?_
                    rintro e wq ⟨rfl, g⟩
                    replace HH : Keep (MW w wq b h B M ∧ MW w wq vb h B M' ∧ b ≠ vb) := ⟨HH.out.1.kept g, HH.out.2.1.kept g, HH.out.2.2⟩
                    refine hK.out _ _ (cell_kept g hHeld) (fun hHeld => ?_)
                    clear hK K g
                    refine wpAnyH_call (i := 13) (oi := _) (v := .int .i64 ((chk h B f : Nat) : Int)) rfl (by kernel_rfl) (by kernel_rfl) (by kernel_rfl) (fun _ _ _ h => h) ⟨by rfl, 8, #[.int .i64 ((chk h B f : Nat) : Int)], fun w => ?_, fun w _ => num_c _ w⟩ (by assumption) ?_
                    · (go_simp; first | done | (with_reducible rfl))
                    simp only [Act.put, List.getElem_toArray, List.getElem_cons_succ, List.getElem_cons_zero, List.setIfInBounds_toArray, List.set_cons_zero, List.set_cons_succ]
                    refine wpAnyH_take (i := 14) (oi := _) (v := ?_) rfl (by kernel_rfl) (by kernel_rfl) (by kernel_rfl) (fun _ _ _ h => h) (Or.inl ⟨by rfl, ?_⟩) (by assumption) ?_
                    rotate_left
                    · (intro w hSw; go_simp; first | done | (with_reducible rfl))
                    simp only [Act.put, List.getElem_toArray, List.getElem_cons_succ, List.getElem_cons_zero, List.setIfInBounds_toArray, List.set_cons_zero, List.set_cons_succ]
                    refine wpAnyH_take (i := 15) (oi := _) (v := ?_) rfl (by kernel_rfl) (by kernel_rfl) (by kernel_rfl) (fun _ _ _ h => h) (Or.inl ⟨by rfl, ?_⟩) (by assumption) ?_
                    rotate_left
                    · (intro w hSw; go_simp; first | done | (with_reducible rfl))
                    simp only [Act.put, List.getElem_toArray, List.getElem_cons_succ, List.getElem_cons_zero, List.setIfInBounds_toArray, List.set_cons_zero, List.set_cons_succ]
                    refine wpAnyH_take (i := 16) (oi := _) (v := ?_) rfl (by kernel_rfl) (by kernel_rfl) (by kernel_rfl) (fun _ _ _ h => h) (Or.inl ⟨by rfl, ?_⟩) (by assumption) ?_
                    rotate_left
                    · (intro w hSw; go_simp; first | done | (with_reducible rfl))
                    simp only [Act.put, List.getElem_toArray, List.getElem_cons_succ, List.getElem_cons_zero, List.setIfInBounds_toArray, List.set_cons_zero, List.set_cons_succ]
                    refine wpAnyH_take (i := 17) (oi := _) (v := ?_) rfl (by kernel_rfl) (by kernel_rfl) (by kernel_rfl) (fun _ _ _ h => h) (Or.inl ⟨by rfl, ?_⟩) (by assumption) ?_
                    rotate_left
                    · (intro w hSw; go_simp; first | done | (with_reducible rfl))
                    simp only [Act.put, List.getElem_toArray, List.getElem_cons_succ, List.getElem_cons_zero, List.setIfInBounds_toArray, List.set_cons_zero, List.set_cons_succ]
                    refine wpAnyH_take (i := 18) (oi := _) (v := ?_) rfl (by kernel_rfl) (by kernel_rfl) (by kernel_rfl) (fun _ _ _ h => h) (Or.inl ⟨by rfl, ?_⟩) (by assumption) ?_
                    rotate_left
                    · (intro w hSw; go_simp; first | done | (with_reducible rfl))
                    simp only [Act.put, List.getElem_toArray, List.getElem_cons_succ, List.getElem_cons_zero, List.setIfInBounds_toArray, List.set_cons_zero, List.set_cons_succ]
                    refine wpAnyH_take (i := 19) (oi := _) (v := ?_) rfl (by kernel_rfl) (by kernel_rfl) (by kernel_rfl) (fun _ _ _ h => h) (Or.inl ⟨by rfl, ?_⟩) (by assumption) ?_
                    rotate_left
                    · (intro w hSw; have hq := hSw; clear hSw; go_simp; first | done | (with_reducible rfl))
                    simp only [Act.put, List.getElem_toArray, List.getElem_cons_succ, List.getElem_cons_zero, List.setIfInBounds_toArray, List.set_cons_zero, List.set_cons_succ]
                    refine wpAnyH_take (i := 22) (oi := _) (v := ?_) rfl (by kernel_rfl) (by kernel_rfl) (by kernel_rfl) (fun _ _ _ h => h) (Or.inl ⟨by rfl, ?_⟩) (by assumption) ?_
                    rotate_left
                    · (intro w hSw; go_simp; first | done | (with_reducible rfl))
                    simp only [Act.put, List.getElem_toArray, List.getElem_cons_succ, List.getElem_cons_zero, List.setIfInBounds_toArray, List.set_cons_zero, List.set_cons_succ]
                    refine wpAnyH_take (i := 23) (oi := _) (v := ?_) rfl (by kernel_rfl) (by kernel_rfl) (by kernel_rfl) (fun _ _ _ h => h) (Or.inl ⟨by rfl, ?_⟩) (by assumption) ?_
                    rotate_left
                    · (intro w hSw; go_simp; first | done | (with_reducible rfl))
                    simp only [Act.put, List.getElem_toArray, List.getElem_cons_succ, List.getElem_cons_zero, List.setIfInBounds_toArray, List.set_cons_zero, List.set_cons_succ]
                    refine wpAnyH_take (i := 24) (oi := _) (v := ?_) rfl (by kernel_rfl) (by kernel_rfl) (by kernel_rfl) (fun _ _ _ h => h) (Or.inl ⟨by rfl, ?_⟩) (by assumption) ?_
                    rotate_left
                    · (intro w hSw; go_simp; first | done | (with_reducible rfl))
                    simp only [Act.put, List.getElem_toArray, List.getElem_cons_succ, List.getElem_cons_zero, List.setIfInBounds_toArray, List.set_cons_zero, List.set_cons_succ]
                    refine wpAnyH_take (i := 25) (oi := _) (v := ?_) rfl (by kernel_rfl) (by kernel_rfl) (by kernel_rfl) (fun _ _ _ h => h) (Or.inl ⟨by rfl, ?_⟩) (by assumption) ?_
                    rotate_left
                    · (intro w hSw; have hq := hSw; clear hSw; go_simp; first | done | (with_reducible rfl))
                    simp only [Act.put, List.getElem_toArray, List.getElem_cons_succ, List.getElem_cons_zero, List.setIfInBounds_toArray, List.set_cons_zero, List.set_cons_succ]
                    refine wpAnyH_ready (rs := [20]) (by kernel_rfl) (by simp) ?_
                    refine AllReadyH.cons rfl (fun K hK => ?_) AllReadyH.nil
                    go_simp
                    have cm := my_mark HH.out.1 f hf64
                    refine cm.mono ?_
                    rintro e w12 ⟨rfl, hm, g⟩
                    have HH2 : Keep (MW w w12 b (mkH h B f) (mkB h B f) (mkM h B f M) ∧ MW w w12 vb h B M' ∧ b ≠ vb) := ⟨hm, HH.out.2.1.other g HH.out.1.lo (Ne.symm HH.out.2.2), HH.out.2.2⟩
                    have hc2 : w12.cell? ⟨zb, zo + i, none⟩ = some (uv f) := hZ w12 hm.g
                    clear cm hm g HH
                    refine hK.out _ _ hc2 (fun hHeld => ?_)
                    clear hK K hc2
                    refine wpAnyH_call (i := 21) (oi := _) (v := .int .i64 ((chk h B f : Nat) : Int)) rfl (by kernel_rfl) (by kernel_rfl) (by kernel_rfl) (fun _ _ _ h => h) ⟨by rfl, 8, #[.int .i64 ((chk h B f : Nat) : Int)], fun w => ?_, fun w _ => num_c _ w⟩ (by assumption) ?_
                    · (go_simp; first | done | (with_reducible rfl))
                    simp only [Act.put, List.getElem_toArray, List.getElem_cons_succ, List.getElem_cons_zero, List.setIfInBounds_toArray, List.set_cons_zero, List.set_cons_succ]
                    refine wpAnyH_ready (rs := [26]) (by kernel_rfl) (by simp) ?_
                    refine AllReadyH.cons rfl (fun K hK => ?_) AllReadyH.nil
                    go_simp
                    have cm := my_mark HH2.out.2.1 f hf64
                    refine cm.mono ?_
                    rintro e w13 ⟨rfl, hm, g⟩
                    have HH3 : Keep (MW w w13 b (mkH h B f) (mkB h B f) (mkM h B f M) ∧ MW w w13 vb (mkH h B f) (mkB h B f) (mkM h B f M') ∧ b ≠ vb) := ⟨HH2.out.1.other g HH2.out.2.1.lo HH2.out.2.2, hm, HH2.out.2.2⟩
                    have hc2 : w13.cell? ⟨zb, zo + i, none⟩ = some (uv f) := hZ w13 hm.g
                    clear cm hm g HH2
                    refine hK.out _ _ hc2 (fun hHeld => ?_)
                    clear hK K hc2
                    refine wpAnyH_call (i := 27) (oi := _) (v := .int .i64 ((chk h B f : Nat) : Int)) rfl (by kernel_rfl) (by kernel_rfl) (by kernel_rfl) (fun _ _ _ h => h) ⟨by rfl, 8, #[.int .i64 ((chk h B f : Nat) : Int)], fun w => ?_, fun w _ => num_c _ w⟩ (by assumption) ?_
                    · (go_simp; first | done | (with_reducible rfl))
                    simp only [Act.put, List.getElem_toArray, List.getElem_cons_succ, List.getElem_cons_zero, List.setIfInBounds_toArray, List.set_cons_zero, List.set_cons_succ]
                    refine wpAnyH_take (i := 28) (oi := _) (v := ?_) rfl (by kernel_rfl) (by kernel_rfl) (by kernel_rfl) (fun _ _ _ h => h) (Or.inl ⟨by rfl, ?_⟩) (by assumption) ?_
                    rotate_left
                    · (intro w hSw; go_simp; first | done | (with_reducible rfl))
                    simp only [Act.put, List.getElem_toArray, List.getElem_cons_succ, List.getElem_cons_zero, List.setIfInBounds_toArray, List.set_cons_zero, List.set_cons_succ]
                    refine wpAnyH_take (i := 29) (oi := _) (v := ?_) rfl (by kernel_rfl) (by kernel_rfl) (by kernel_rfl) (fun _ _ _ h => h) (Or.inl ⟨by rfl, ?_⟩) (by assumption) ?_
                    rotate_left
                    · (intro w hSw; go_simp; first | done | (with_reducible rfl))
                    simp only [Act.put, List.getElem_toArray, List.getElem_cons_succ, List.getElem_cons_zero, List.setIfInBounds_toArray, List.set_cons_zero, List.set_cons_succ]
                    refine wpAnyH_done (by kernel_rfl) ?_ _
                    clear hHeld hZ
                    generalize chk h B f = k at *
                    go_wp2_with fail
                    refine ⟨⟨i + 1, _, _, _, _, by omega, rfl, HH3⟩, ?_⟩
                    simp only [intOf]; omega
                · go_simp
                  refine hK.out _ _ hHeld (fun hHeld => ?_)
                  clear hK K x0 x1 x2 x3
                  refine wpAnyH_ready (rs := [0]) (by kernel_rfl) (by simp) ?_
                  refine AllReadyH.cons rfl (fun K hK => ?_) AllReadyH.nil
                  have x0 := HH.out.1.k.has.cellv 0 _ rfl
                  have x1 := HH.out.1.k.has.cellv 1 _ rfl
                  have x2 := HH.out.2.1.k.has.cellv 0 _ rfl
                  have x3 := HH.out.2.1.k.has.cellv 1 _ rfl
                  go_simp
                  refine hK.out _ _ hHeld (fun hHeld => ?_)
                  clear hK K x0 x1 x2 x3
                  refine wpAnyH_ready (rs := [5]) (by kernel_rfl) (by simp) ?_
                  refine AllReadyH.cons rfl (fun K hK => ?_) AllReadyH.nil
                  go_simp
                  refine (check_c h B f _ HH.out.1.k.h1 HH.out.1.k.b1 hf64).mono ?_
                  rintro e wq ⟨rfl, g⟩
                  replace HH : Keep (MW w wq b h B M ∧ MW w wq vb h B M' ∧ b ≠ vb) := ⟨HH.out.1.kept g, HH.out.2.1.kept g, HH.out.2.2⟩
                  refine hK.out _ _ (cell_kept g hHeld) (fun hHeld => ?_)
                  clear hK K g
                  refine wpAnyH_call (i := 6) (oi := _) (v := .int .i64 ((chk h B f : Nat) : Int)) rfl (by kernel_rfl) (by kernel_rfl) (by kernel_rfl) (fun _ _ _ h => h) ⟨by rfl, 8, #[.int .i64 ((chk h B f : Nat) : Int)], fun w => ?_, fun w _ => num_c _ w⟩ (by assumption) ?_
                  · (go_simp; first | done | (with_reducible rfl))
                  simp only [Act.put, List.getElem_toArray, List.getElem_cons_succ, List.getElem_cons_zero, List.setIfInBounds_toArray, List.set_cons_zero, List.set_cons_succ]
                  refine wpAnyH_ready (rs := [12]) (by kernel_rfl) (by simp) ?_
                  refine AllReadyH.cons rfl (fun K hK => ?_) AllReadyH.nil
                  go_simp
                  refine (check_c h B f _ HH.out.1.k.h1 HH.out.1.k.b1 hf64).mono ?_
                  rintro e wq ⟨rfl, g⟩
                  replace HH : Keep (MW w wq b h B M ∧ MW w wq vb h B M' ∧ b ≠ vb) := ⟨HH.out.1.kept g, HH.out.2.1.kept g, HH.out.2.2⟩
                  refine hK.out _ _ (cell_kept g hHeld) (fun hHeld => ?_)
                  clear hK K g
                  refine wpAnyH_call (i := 13) (oi := _) (v := .int .i64 ((chk h B f : Nat) : Int)) rfl (by kernel_rfl) (by kernel_rfl) (by kernel_rfl) (fun _ _ _ h => h) ⟨by rfl, 8, #[.int .i64 ((chk h B f : Nat) : Int)], fun w => ?_, fun w _ => num_c _ w⟩ (by assumption) ?_
                  · (go_simp; first | done | (with_reducible rfl))
                  simp only [Act.put, List.getElem_toArray, List.getElem_cons_succ, List.getElem_cons_zero, List.setIfInBounds_toArray, List.set_cons_zero, List.set_cons_succ]
                  refine wpAnyH_take (i := 14) (oi := _) (v := ?_) rfl (by kernel_rfl) (by kernel_rfl) (by kernel_rfl) (fun _ _ _ h => h) (Or.inl ⟨by rfl, ?_⟩) (by assumption) ?_
                  rotate_left
                  · (intro w hSw; go_simp; first | done | (with_reducible rfl))
                  simp only [Act.put, List.getElem_toArray, List.getElem_cons_succ, List.getElem_cons_zero, List.setIfInBounds_toArray, List.set_cons_zero, List.set_cons_succ]
                  refine wpAnyH_take (i := 15) (oi := _) (v := ?_) rfl (by kernel_rfl) (by kernel_rfl) (by kernel_rfl) (fun _ _ _ h => h) (Or.inl ⟨by rfl, ?_⟩) (by assumption) ?_
                  rotate_left
                  · (intro w hSw; go_simp; first | done | (with_reducible rfl))
                  simp only [Act.put, List.getElem_toArray, List.getElem_cons_succ, List.getElem_cons_zero, List.setIfInBounds_toArray, List.set_cons_zero, List.set_cons_succ]
                  refine wpAnyH_take (i := 16) (oi := _) (v := ?_) rfl (by kernel_rfl) (by kernel_rfl) (by kernel_rfl) (fun _ _ _ h => h) (Or.inl ⟨by rfl, ?_⟩) (by assumption) ?_
                  rotate_left
                  · (intro w hSw; go_simp; first | done | (with_reducible rfl))
                  simp only [Act.put, List.getElem_toArray, List.getElem_cons_succ, List.getElem_cons_zero, List.setIfInBounds_toArray, List.set_cons_zero, List.set_cons_succ]
                  refine wpAnyH_take (i := 17) (oi := _) (v := ?_) rfl (by kernel_rfl) (by kernel_rfl) (by kernel_rfl) (fun _ _ _ h => h) (Or.inl ⟨by rfl, ?_⟩) (by assumption) ?_
                  rotate_left
                  · (intro w hSw; go_simp; first | done | (with_reducible rfl))
                  simp only [Act.put, List.getElem_toArray, List.getElem_cons_succ, List.getElem_cons_zero, List.setIfInBounds_toArray, List.set_cons_zero, List.set_cons_succ]
                  refine wpAnyH_take (i := 18) (oi := _) (v := ?_) rfl (by kernel_rfl) (by kernel_rfl) (by kernel_rfl) (fun _ _ _ h => h) (Or.inl ⟨by rfl, ?_⟩) (by assumption) ?_
                  rotate_left
                  · (intro w hSw; go_simp; first | done | (with_reducible rfl))
                  simp only [Act.put, List.getElem_toArray, List.getElem_cons_succ, List.getElem_cons_zero, List.setIfInBounds_toArray, List.set_cons_zero, List.set_cons_succ]
                  refine wpAnyH_take (i := 19) (oi := _) (v := ?_) rfl (by kernel_rfl) (by kernel_rfl) (by kernel_rfl) (fun _ _ _ h => h) (Or.inl ⟨by rfl, ?_⟩) (by assumption) ?_
                  rotate_left
                  · (intro w hSw; have hq := hSw; clear hSw; go_simp; first | done | (with_reducible rfl))
                  simp only [Act.put, List.getElem_toArray, List.getElem_cons_succ, List.getElem_cons_zero, List.setIfInBounds_toArray, List.set_cons_zero, List.set_cons_succ]
                  refine wpAnyH_take (i := 22) (oi := _) (v := ?_) rfl (by kernel_rfl) (by kernel_rfl) (by kernel_rfl) (fun _ _ _ h => h) (Or.inl ⟨by rfl, ?_⟩) (by assumption) ?_
                  rotate_left
                  · (intro w hSw; go_simp; first | done | (with_reducible rfl))
                  simp only [Act.put, List.getElem_toArray, List.getElem_cons_succ, List.getElem_cons_zero, List.setIfInBounds_toArray, List.set_cons_zero, List.set_cons_succ]
                  refine wpAnyH_take (i := 23) (oi := _) (v := ?_) rfl (by kernel_rfl) (by kernel_rfl) (by kernel_rfl) (fun _ _ _ h => h) (Or.inl ⟨by rfl, ?_⟩) (by assumption) ?_
                  rotate_left
                  · (intro w hSw; go_simp; first | done | (with_reducible rfl))
                  simp only [Act.put, List.getElem_toArray, List.getElem_cons_succ, List.getElem_cons_zero, List.setIfInBounds_toArray, List.set_cons_zero, List.set_cons_succ]
                  refine wpAnyH_take (i := 24) (oi := _) (v := ?_) rfl (by kernel_rfl) (by kernel_rfl) (by kernel_rfl) (fun _ _ _ h => h) (Or.inl ⟨by rfl, ?_⟩) (by assumption) ?_
                  rotate_left
                  · (intro w hSw; go_simp; first | done | (with_reducible rfl))
                  simp only [Act.put, List.getElem_toArray, List.getElem_cons_succ, List.getElem_cons_zero, List.setIfInBounds_toArray, List.set_cons_zero, List.set_cons_succ]
                  refine wpAnyH_take (i := 25) (oi := _) (v := ?_) rfl (by kernel_rfl) (by kernel_rfl) (by kernel_rfl) (fun _ _ _ h => h) (Or.inl ⟨by rfl, ?_⟩) (by assumption) ?_
                  rotate_left
                  · (intro w hSw; have hq := hSw; clear hSw; go_simp; first | done | (with_reducible rfl))
                  simp only [Act.put, List.getElem_toArray, List.getElem_cons_succ, List.getElem_cons_zero, List.setIfInBounds_toArray, List.set_cons_zero, List.set_cons_succ]
                  refine wpAnyH_ready (rs := [20]) (by kernel_rfl) (by simp) ?_
                  refine AllReadyH.cons rfl (fun K hK => ?_) AllReadyH.nil
                  go_simp
                  have cm := my_mark HH.out.1 f hf64
                  refine cm.mono ?_
                  rintro e w12 ⟨rfl, hm, g⟩
                  have HH2 : Keep (MW w w12 b (mkH h B f) (mkB h B f) (mkM h B f M) ∧ MW w w12 vb h B M' ∧ b ≠ vb) := ⟨hm, HH.out.2.1.other g HH.out.1.lo (Ne.symm HH.out.2.2), HH.out.2.2⟩
                  have hc2 : w12.cell? ⟨zb, zo + i, none⟩ = some (uv f) := hZ w12 hm.g
                  clear cm hm g HH
                  refine hK.out _ _ hc2 (fun hHeld => ?_)
                  clear hK K hc2
                  refine wpAnyH_call (i := 21) (oi := _) (v := .int .i64 ((chk h B f : Nat) : Int)) rfl (by kernel_rfl) (by kernel_rfl) (by kernel_rfl) (fun _ _ _ h => h) ⟨by rfl, 8, #[.int .i64 ((chk h B f : Nat) : Int)], fun w => ?_, fun w _ => num_c _ w⟩ (by assumption) ?_
                  · (go_simp; first | done | (with_reducible rfl))
                  simp only [Act.put, List.getElem_toArray, List.getElem_cons_succ, List.getElem_cons_zero, List.setIfInBounds_toArray, List.set_cons_zero, List.set_cons_succ]
                  refine wpAnyH_ready (rs := [26]) (by kernel_rfl) (by simp) ?_
                  refine AllReadyH.cons rfl (fun K hK => ?_) AllReadyH.nil
                  go_simp
                  have cm := my_mark HH2.out.2.1 f hf64
                  refine cm.mono ?_
                  rintro e w13 ⟨rfl, hm, g⟩
                  have HH3 : Keep (MW w w13 b (mkH h B f) (mkB h B f) (mkM h B f M) ∧ MW w w13 vb (mkH h B f) (mkB h B f) (mkM h B f M') ∧ b ≠ vb) := ⟨HH2.out.1.other g HH2.out.2.1.lo HH2.out.2.2, hm, HH2.out.2.2⟩
                  have hc2 : w13.cell? ⟨zb, zo + i, none⟩ = some (uv f) := hZ w13 hm.g
                  clear cm hm g HH2
                  refine hK.out _ _ hc2 (fun hHeld => ?_)
                  clear hK K hc2
                  refine wpAnyH_call (i := 27) (oi := _) (v := .int .i64 ((chk h B f : Nat) : Int)) rfl (by kernel_rfl) (by kernel_rfl) (by kernel_rfl) (fun _ _ _ h => h) ⟨by rfl, 8, #[.int .i64 ((chk h B f : Nat) : Int)], fun w => ?_, fun w _ => num_c _ w⟩ (by assumption) ?_
                  · (go_simp; first | done | (with_reducible rfl))
                  simp only [Act.put, List.getElem_toArray, List.getElem_cons_succ, List.getElem_cons_zero, List.setIfInBounds_toArray, List.set_cons_zero, List.set_cons_succ]
                  refine wpAnyH_take (i := 28) (oi := _) (v := ?_) rfl (by kernel_rfl) (by kernel_rfl) (by kernel_rfl) (fun _ _ _ h => h) (Or.inl ⟨by rfl, ?_⟩) (by assumption) ?_
                  rotate_left
                  · (intro w hSw; go_simp; first | done | (with_reducible rfl))
                  simp only [Act.put, List.getElem_toArray, List.getElem_cons_succ, List.getElem_cons_zero, List.setIfInBounds_toArray, List.set_cons_zero, List.set_cons_succ]
                  refine wpAnyH_take (i := 29) (oi := _) (v := ?_) rfl (by kernel_rfl) (by kernel_rfl) (by kernel_rfl) (fun _ _ _ h => h) (Or.inl ⟨by rfl, ?_⟩) (by assumption) ?_
                  rotate_left
                  · (intro w hSw; go_simp; first | done | (with_reducible rfl))
                  simp only [Act.put, List.getElem_toArray, List.getElem_cons_succ, List.getElem_cons_zero, List.setIfInBounds_toArray, List.set_cons_zero, List.set_cons_succ]
                  refine wpAnyH_done (by kernel_rfl) ?_ _
                  clear hHeld hZ
                  generalize chk h B f = k at *
                  go_wp2_with fail
                  refine ⟨⟨i + 1, _, _, _, _, by omega, rfl, HH3⟩, ?_⟩
                  simp only [intOf]; omega
              · have hia : ¬ (i : Int) < (n3 : Int) := by omega
                go_wp2_with fail
                have HHd : Keep (MW w wr.drew b h B M ∧ MW w wr.drew vb h B M') := ⟨HH.out.1.kept (gr_drew _ _), HH.out.2.1.kept (gr_drew _ _)⟩
                clear HH
                refine wp_region_held_drew (S := fun w' => MW w w' b h B M ∧ MW w w' vb h B M') (by kernel_rfl) HHd.out (fun hHeld => ?_)
                clear HHd
                generalize wr.drew = w10 at *
                refine wpAnyH_take (i := 0) (oi := _) (v := ?_) rfl (by kernel_rfl) (by kernel_rfl) (by kernel_rfl) (fun _ _ _ h => h) (Or.inl ⟨by rfl, ?_⟩) (by assumption) ?_
                rotate_left
                · (intro w hSw; have x0 := hSw.1.k.has.cellv 0 _ rfl; have x1 := hSw.1.k.has.cellv 1 _ rfl; have x2 := hSw.2.k.has.cellv 0 _ rfl; have x3 := hSw.2.k.has.cellv 1 _ rfl; clear hSw; go_simp; first | done | (with_reducible rfl))
                simp only [Act.put, List.getElem_toArray, List.getElem_cons_zero, List.setIfInBounds_toArray, List.set_cons_zero, List.set_cons_succ]
                refine wpAnyH_take (i := 2) (oi := _) (v := ?_) rfl (by kernel_rfl) (by kernel_rfl) (by kernel_rfl) (fun _ _ _ h => h) (Or.inl ⟨by rfl, ?_⟩) (by assumption) ?_
                rotate_left
                · (intro w hSw; have x0 := hSw.1.k.has.cellv 0 _ rfl; have x1 := hSw.1.k.has.cellv 1 _ rfl; have x2 := hSw.2.k.has.cellv 0 _ rfl; have x3 := hSw.2.k.has.cellv 1 _ rfl; clear hSw; go_simp; first | done | (with_reducible rfl))
                simp only [Act.put, List.getElem_toArray, List.getElem_cons_succ, List.getElem_cons_zero, List.setIfInBounds_toArray, List.set_cons_zero, List.set_cons_succ]
                refine wpAnyH_ready (rs := [1]) (by kernel_rfl) (by simp) ?_
                refine AllReadyH.cons rfl (fun K hK => ?_) AllReadyH.nil
                go_simp
                refine (bits_c h B _).mono ?_
                rintro e wq ⟨rfl, g⟩
                refine hK.out _ _ ⟨hHeld.1.kept g, hHeld.2.kept g⟩ (fun hHeld => ?_)
                clear hK K g
                refine wpAnyH_ready (rs := [3]) (by kernel_rfl) (by simp) ?_
                refine AllReadyH.cons rfl (fun K hK => ?_) AllReadyH.nil
                go_simp
                refine (bits_c h B _).mono ?_
                rintro e wq ⟨rfl, g⟩
                refine hK.out _ _ ⟨hHeld.1.kept g, hHeld.2.kept g⟩ (fun hHeld => ?_)
                clear hK K g
                refine wpAnyH_take (i := 4) (oi := _) (v := ?_) rfl (by kernel_rfl) (by kernel_rfl) (by kernel_rfl) (fun _ _ _ h => h) (Or.inl ⟨by rfl, ?_⟩) (by assumption) ?_
                rotate_left
                · (intro w hSw; go_simp; first | done | (with_reducible rfl))
                simp only [Act.put, List.getElem_toArray, List.getElem_cons_succ, List.getElem_cons_zero, List.setIfInBounds_toArray, List.set_cons_zero, List.set_cons_succ]
                refine wpAnyH_take (i := 5) (oi := _) (v := ?_) rfl (by kernel_rfl) (by kernel_rfl) (by kernel_rfl) (fun _ _ _ h => h) (Or.inl ⟨by rfl, ?_⟩) (by assumption) ?_
                rotate_left
                · (intro w hSw; go_simp; first | done | (with_reducible rfl))
                simp only [Act.put, List.getElem_toArray, List.getElem_cons_succ, List.getElem_cons_zero, List.setIfInBounds_toArray, List.set_cons_zero, List.set_cons_succ]
                refine wpAnyH_done (by kernel_rfl) ?_ _
                have HW := Keep.mk hHeld
                clear hHeld
                go_wp2_with fail
                go_ret
                exact ⟨rfl, HW.out.1.g⟩
          · obtain ⟨t, rfl⟩ : ∃ t, j = t + 1 := ⟨j - 1, by omega⟩
            obtain rfl : q = (t : Int) := by omega
            clear hq hj
            have hia : (t : Int) < (n2 : Int) := by omega
            obtain ⟨sb, so, x, rfl, hxi, hx, hcc⟩ := HX.out.2.1.step (i := t) (by omega)
            have hx256 : (x : Int) < 256 := by simpa [IntKind.bits] using hx
            have c1 := hcc wr HL.out.1.g
            have HSi : Keep (S t = base + (1 + x % 63)) := ⟨by rw [HS.out]; simp [List.getD, hxi]⟩
            clear hcc hxi hx
            have hwi : IntKind.i64.wrap ((t : Int) - 1) = (t : Int) - 1 := wi _ (by omega) (by omega)
            have hx8 : IntKind.u64.wrap (x : Int) = (x : Int) := wu _ (by omega) (by omega)
            have hmod : (x : Int).tmod 63 = ((x % 63 : Nat) : Int) := by rw [Int.tmod_eq_emod_of_nonneg (by omega)]; omega
            have hwm : IntKind.u64.wrap ((x % 63 : Nat) : Int) = ((x % 63 : Nat) : Int) := wu _ (by omega) (by omega)
            have hy : x % 63 < 63 := by omega
            generalize x % 63 = y at *
            have hw1 : IntKind.u64.wrap ((base : Int) + 1) = ((base + 1 : Nat) : Int) := by rw [wu _ (by omega) (by omega)]; omega
            have hw2 : IntKind.u64.wrap (((base + 1 : Nat) : Int) + (y : Int)) = ((base + (1 + y) : Nat) : Int) := by rw [wu _ (by omega) (by omega)]; omega
            obtain ⟨H1, hH1⟩ : ∃ H1, base + 1 = H1 := ⟨_, rfl⟩
            obtain ⟨q, hq⟩ : ∃ q, base + (1 + y) = q := ⟨_, rfl⟩
            rw [hH1] at hw1 hw2
            rw [hq] at hw2 HSi
            have hq1 : base < q := by omega
            have hq2 : q ≤ base + 63 := by omega
            clear hH1 hq
            go_wp2_with fail
            have cm := my_mark HL.out.2.1 q (by omega)
            have HP := Keep.mk (pick_mem HL.out.2.1.v HL.out.2.2.1 HL.out.2.2.2.1 hq1 hq2)
            refine cm.mono ?_
            rintro e w6 ⟨rfl, hm, g⟩
            have HM2 : Keep (MW w w6 b h B M ∧ MW w w6 vb (mkH h' B' q) (mkB h' B' q) (mkM h' B' q M') ∧ base ≤ mkH h' B' q ∧ mkH h' B' q ≤ base + 63 ∧ ∀ x, x ∈ mkM h' B' q M' ↔ x ∈ M0 ∨ ∃ l, t ≤ l ∧ l < 64 ∧ x = S l) := ⟨HL.out.1.other g HL.out.2.1.lo HMM.out.1, hm, HP.out.2.1, HP.out.2.2, fun x => by
              rw [HP.out.1, HL.out.2.2.2.2 x]
              constructor
              · rintro ((q1 | ⟨l, q0, q1, q2⟩) | q1)
                · exact .inl q1
                · exact .inr ⟨l, by omega, q1, q2⟩
                · exact .inr ⟨t, by omega, by omega, by rw [HSi.out]; exact q1⟩
              · rintro (q1 | ⟨l, q0, q1, q2⟩)
                · exact .inl (.inl q1)
                · by_cases hl : l = t
                  · subst hl; exact .inr (by rw [q2]; exact HSi.out)
                  · exact .inl (.inr ⟨l, by omega, q1, q2⟩)⟩
            clear cm hm g HL HP c1
            generalize chk h' B' q = k at *
            go_wp2_with fail
            refine ⟨⟨_, t, _, _, _, by omega, by omega, rfl, HM2⟩, ?_⟩
            simp only [intOf]; omega
end Go.Proofs.Ytollbodeafdhkaa
