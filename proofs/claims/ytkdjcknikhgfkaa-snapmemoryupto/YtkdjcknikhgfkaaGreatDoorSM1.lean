import Derived.Test.YtkdjcknikhgfkaaGreatDoorSM0
/- SnapMemory: the walk -/
namespace Go.Proofs.YtkdjcknikhgfkaaGreatDoor.Pk.Sn
open Go Go.RowKit
set_option maxHeartbeats 64000000 in
set_option maxRecDepth 100000 in
theorem snapMemory_c (V : Vw) (a : Option Addr) (c : Nat) (w : World) (hk : Kc w) (ho : V.ok) (hr : SeenR w a V.S) (hl : V.S.length ≤ 1048576) :
    Calls Tryz.prog 5 #[.agg (V.cs a c).toArray] w fun e w' => e = .returned (.bool true) ∧ w.grownBy w' none := by
  obtain ⟨d, hd, hrw⟩ := underV
  obtain ⟨d4, hd4, hrw4⟩ := underSn
  obtain ⟨n, hn⟩ : ∃ n, V.S.length = n := ⟨_, rfl⟩
  obtain ⟨w0, hw0⟩ : ∃ q, w.alloc (.cells (V.cs a c).toArray 29) = q := ⟨_, rfl⟩
  have HS0 : Keep (Sep w w0 [boxA w.heap.size (V.cs a c) 29]) := ⟨by rw [← hw0]; exact (Sep.nil w).newBox _ _⟩
  have HMF := Keep.mk (mem_facts ho { data := #[107] })
  have HK := Keep.mk (And.intro hk (And.intro ho (And.intro hr (And.intro hl hn))))
  have hnl : n ≤ 1048576 := by omega
  unfold Vw.cs at hw0 ⊢
  rw [hn] at hw0 ⊢
  clear hk ho hr hl hn
  go_enter Tryz.func5, Tryz.ntmps5
  go_wp2_with fail
  refine (alive_c w0 (HK.out.1.kept HS0.out.g (by simp))).mono ?_
  rintro e w1 ⟨rfl, g1⟩
  have HS1 := Keep.mk (HS0.out.grown g1)
  clear g1 HS0 hw0
  have c15 : w1.cell? ⟨w.heap.size, 15, none⟩ = some (.slice a n c) := by rw [← HK.out.2.2.2.2]; exact (HS1.out.boxGet mm0).cellv 15 _ rfl
  obtain ⟨v4, w2, AP, HS2⟩ := Sep.appSeen (L := []) c HS1.out.emptyV (HK.out.2.2.1.kept HS1.out.emptyV.g) (by have := HK.out.2.2.2.1; simp only [List.length_nil]; omega)
  have HSE := Keep.mk HS1.out.emptyV
  have c15e : (w1.alloc (.cells #[] 40)).cell? ⟨w.heap.size, 15, none⟩ = some (.slice a n c) := by rw [← HK.out.2.2.2.2]; exact (HSE.out.boxGet mm1).cellv 15 _ rfl
  rw [HK.out.2.2.2.2] at AP
  replace HS2 : Keep (Sep w w2 [rowV 40 5 v4 (wd V.S 0).length (fls (wd V.S 0)), boxA w.heap.size (V.cs a c) 29]) := ⟨by rw [wd_0]; exact HS2⟩
  clear HSE
  go_wp2_with (first
    | (with_reducible show wpList _ _ _ ({ dst := some 28, op := Op.buildSlice 27 0 _, type := _, pos := _, after := _, guard := _ } :: _) _ _
       refine wpList_bs_all rfl 27 0 _ rfl #[] (by simp only [List.map_toArray, List.map_nil]) (bs0 w1) ?_)
    | (with_reducible show wpList _ _ _ ({ dst := some 31, op := Op.call { callee := Callee.builtin Builtin.append, args := _, argTypes := _ }, type := _, pos := _, after := _, guard := _ } :: _) _ _
       refine wpList_append_run _ rfl (.tmp 28) (.tmp 30) 27 rfl _ _ rfl rfl AP ?_))
  clear AP c15 c15e HS1
  go_loopw [4, 5] (fun u4 u wr => ∃ i : Nat, i ≤ 20 ∧ u = .int .i64 i ∧ Keep (Sep w wr [rowV 40 5 u4 (wd V.S i).length (fls (wd V.S i)), boxA w.heap.size (V.cs a c) 29])) (fun _ u _ => 20 - (intOf u).toNat)
  case atStart => exact ⟨0, by omega, rfl, HS2⟩
  case round =>
    clear HS2
    obtain ⟨i, hi, rfl, hrel⟩ := hrel
    by_cases hlt : i < 20
    · have hlt' : (i : Int) < 20 := by omega
      obtain ⟨g8, k8, w8, AP, HS8⟩ := Sep.appSn m7 hrel.out (by rw [wd_len]; have := HK.out.2.2.2.1; omega)
      have HS9 := Keep.mk HS8
      clear HS8 hrel
      go_wp2_with (first
        | (with_reducible show wpList _ _ _ ({ dst := some 37, op := Op.build 40 _, type := _, pos := _, after := _, guard := _ } :: _) _ _
           refine build_g rfl 40 _ rfl _ ((congrArg (Tryz.prog.built 40) (by first | (simp only [List.map_toArray, List.map_cons, List.map_nil, Act.eval]; done) | (simp only [List.map_toArray, List.map_cons, List.map_nil, Act.eval]; with_reducible rfl) | (simp only [List.map_toArray, List.map_cons, List.map_nil, Act.eval]; rfl))).trans blt7) ?_
           simp only [Act.put, List.setIfInBounds_toArray, List.set_cons_zero, List.set_cons_succ])
        | (with_reducible show wpList _ _ _ ({ dst := some 38, op := Op.buildSlice 27 _ _, type := _, pos := _, after := _, guard := _ } :: _) _ _
           refine wpList_bs_run rfl (.tmp 37) 27 rfl _ rfl (bsSn _ _) ?_)
        | (with_reducible show wpList _ _ _ ({ dst := some 39, op := Op.call { callee := Callee.builtin Builtin.append, args := _, argTypes := _ }, type := _, pos := _, after := _, guard := _ } :: _) _ _
           refine wpList_append_run _ rfl (.tmp 36) (.tmp 38) 27 rfl _ _ rfl rfl AP ?_))
      clear AP
      go_roundw
      case rel => exact ⟨i + 1, by omega, by go_num, by rw [wd_next]; exact HS9⟩
      case measure => simp [intOf]; omega
    · have hlt' : ¬ (i : Int) < 20 := by omega
      obtain rfl : i = 20 := by omega
      obtain ⟨N, hN⟩ : ∃ N, n + 20 = N := ⟨_, rfl⟩
      have hwl : (wd V.S 20).length = N := by rw [wd_len, HK.out.2.2.2.2, hN]
      rw [hwl] at hrel
      obtain ⟨g, k, e4, hq0⟩ := own_any (hrel.out.rowGet mm0) (by omega)
      clear hq0
      subst e4
      have hk := own_cap (hrel.out.rowGet mm0)
      have HSR := hrel
      clear hrel
      have HN := Keep.mk (And.intro hN hwl)
      clear hwl
      have hsl := fun W => cut_row W g N k n (by omega)
      go_wp2_with (first
        | (with_reducible show wpList _ _ _ ({ dst := _, op := Op.load 29 (Operand.tmp 1), type := _, pos := _, after := _, guard := _ } :: _) _ _
           refine load_g rfl 29 _ rfl (w.heap.size) 0 rfl (V.cs a c) d (HSR.out.boxGet mm1).range hd hrw infoV ?_)
        | (with_reducible show wpList _ _ _ ({ dst := none, op := Op.store 29 (Operand.tmp 6) _, type := _, pos := _, after := _, guard := _ } :: _) _ _
           refine st_new wr (V.cs a c) 29 rfl rfl rfl rfl rfl infoV (vw_one _ _ _) ?_
           intro w6 h6 g6
           have HS6 := Keep.mk (HSR.out.addBox h6 g6)
           clear h6 g6
           have c15 : w6.cell? ⟨wr.heap.size, 15, none⟩ = some (.slice a n c) := by rw [← HK.out.2.2.2.2]; exact (HS6.out.boxGet mm0).cellv 15 _ rfl
           have f15 := (HS6.out.boxGet mm0).frozen 15
           obtain ⟨w7, hw7⟩ : ∃ q, w6.setCell ⟨wr.heap.size, 15, none⟩ (.slice (some ⟨g, 0, none⟩) n k) = q := ⟨_, rfl⟩
           have HS7 : Keep (Sep w w7 [boxA wr.heap.size (V.cs (some ⟨g, 0, none⟩) k) 29, rowV 40 5 (.slice (some ⟨g, 0, none⟩) N k) N (fls (wd V.S 20)), boxA w.heap.size (V.cs a c) 29]) := by
             have h := HS6.out.boxPut 15 (.slice (some ⟨g, 0, none⟩) n k)
             rw [hw7] at h
             have e : (V.cs a c).set 15 (.slice (some ⟨g, 0, none⟩) n k) = V.cs (some ⟨g, 0, none⟩) k := by unfold Vw.cs; rw [HK.out.2.2.2.2]; rfl
             rw [e] at h
             exact ⟨h⟩
           have HSN : Keep (SeenR w7 (some ⟨g, 0, none⟩) V.S) := ⟨fun _ => ⟨g, 0, rfl, snr_left (row_snr HS7.out mm1 (by omega))⟩⟩)
        | (with_reducible show wpList _ _ _ ({ dst := _, op := Op.load 29 (Operand.tmp 6), type := _, pos := _, after := _, guard := _ } :: _) _ _
           refine load_g rfl 29 _ rfl (wr.heap.size) 0 rfl (V.cs (some ⟨g, 0, none⟩) k) d (HS7.out.boxGet mm0).range hd hrw infoV ?_))
      clear hsl c15 f15 hw7
      refine (write_c V (some ⟨g, 0, none⟩) k w7 HK.out.2.1 HSN.out).mono ?_
      rintro e w8 ⟨rfl, g8⟩
      have HS8 := Keep.mk (HS7.out.grown g8)
      have HSN8 := Keep.mk (HSN.out.kept g8)
      clear g8
      obtain ⟨sW, hsW⟩ : ∃ q, (⟨(wrV V).1.toArray⟩ : ByteArray) = q := ⟨_, rfl⟩
      obtain ⟨eW, heW⟩ : ∃ q, (wrV V).2 = q := ⟨_, rfl⟩
      rw [hsW, heW] at HMF ⊢
      clear hsW heW
      go_wp2_with (first
        | (with_reducible show wpList _ _ _ ({ dst := _, op := Op.load 29 (Operand.tmp 6), type := _, pos := _, after := _, guard := _ } :: _) _ _
           refine load_g rfl 29 _ rfl (wr.heap.size) 0 rfl (V.cs (some ⟨g, 0, none⟩) k) d (HS8.out.boxGet mm0).range hd hrw infoV ?_))
      refine (make_c 1 2 V (some ⟨g, 0, none⟩) k { data := #[107] } w8 (by omega) (by omega) HK.out.2.1 HSN8.out (HK.out.1.kept HS8.out.g (by simp)) (by decide)).mono ?_
      rintro e w9 ⟨rfl, g9⟩
      have HS9 := Keep.mk (HS8.out.grown g9).tail
      clear g9 HS8 HSN8 HSN HS7
      obtain ⟨tM, htM⟩ : ∃ q, (mkS 1 2 V { data := #[107] }).1 = q := ⟨_, rfl⟩
      obtain ⟨eM, heM⟩ : ∃ q, (mkS 1 2 V { data := #[107] }).2 = q := ⟨_, rfl⟩
      rw [htM, heM] at HMF ⊢
      clear htM heM HSR HS6 hlt' w6 hk
      go_wp2_with fail
      obtain ⟨lb, hlb⟩ : ∃ q, wr.heap.size = q := ⟨_, rfl⟩
      rw [hlb]
      clear hlb wr
      go_loopw [11] (fun u wr => ∃ i : Nat, i ≤ N ∧ u = .int .i64 i ∧ Keep (Sep w wr [rowV 40 5 (.slice (some ⟨g, 0, none⟩) N k) N (fls (wd V.S 20)), boxA w.heap.size (V.cs a c) 29])) (fun u _ => N - (intOf u).toNat)
      case atStart => exact ⟨0, by omega, rfl, HS9⟩
      case round =>
        clear HS9
        obtain ⟨i, hi, rfl, hrel⟩ := hrel
        by_cases hlt : i < N
        · have hi0 : (0 : Int) ≤ (i : Int) := by omega
          have hi1 : (i : Int) < (N : Int) := by omega
          have hti : ((i : Nat) : Int).toNat = i := by omega
          have HSR := hrel
          clear hrel
          by_cases hin : i < n
          · obtain ⟨s, hs⟩ : ∃ s, V.S[i]? = some s := ⟨_, List.getElem?_eq_getElem (by rw [HK.out.2.2.2.2]; exact hin)⟩
            have hne : V.S ≠ [] := fun e => by rw [e] at hs; cases hs
            obtain ⟨sb, so, rfl, R0⟩ := HK.out.2.2.1 hne
            have HR1 : Keep (wr.rangeAt g (i * 5) s.cs) := ⟨snr_range (row_snr HSR.out mm0 (by omega)) (wd_lt hs)⟩
            have HR2 : Keep (wr.rangeAt sb (so + i * 5) s.cs) := ⟨fun j v hv => by
              have := HSR.out.g.cell (R0 i s hs j v hv) (by simp)
              rw [Nat.mul_comm] at this
              exact this⟩
            have hin' : (i : Int) < (n : Int) := by omega
            have hge : decide ((n : Int) ≤ (i : Int)) = false := decide_eq_false (by omega)
            have c15 : wr.cell? ⟨w.heap.size, 15, none⟩ = some (.slice (some ⟨sb, so, none⟩) n c) := by rw [← HK.out.2.2.2.2]; exact (HSR.out.boxGet mm1).cellv 15 _ rfl
            clear hs hne R0
            go_wp2_with fail
            refine region_Y (S := fun w' => wr.grownBy w' none) [] (by kernel_rfl) ?_
            have hHeld := gr_drew wr none
            refine wpAnyY_pure (i := 0) (oi := _) (v := ?_) rfl (by kernel_rfl) (by kernel_rfl) (by kernel_rfl) (by kernel_rfl) (fun _ _ _ h => h) (Or.inl ⟨by rfl, ?_⟩) ?_
            rotate_left
            · (intro w hSw; go_simp; first | done | (with_reducible rfl))
            simp only [Act.put, List.getElem_toArray, List.getElem_cons_zero, List.setIfInBounds_toArray, List.set_cons_zero, List.set_cons_succ]
            refine wpAnyY_pure (i := 1) (oi := _) (v := ?_) rfl (by kernel_rfl) (by kernel_rfl) (by kernel_rfl) (by kernel_rfl) (fun _ _ _ h => h) (Or.inl ⟨by rfl, ?_⟩) ?_
            rotate_left
            · (intro w hSw; go_simp; first | done | (with_reducible rfl))
            simp only [Act.put, List.getElem_toArray, List.getElem_cons_succ, List.getElem_cons_zero, List.setIfInBounds_toArray, List.set_cons_zero, List.set_cons_succ]
            refine wpAnyY_pure (i := 2) (oi := _) (v := ?_) rfl (by kernel_rfl) (by kernel_rfl) (by kernel_rfl) (by kernel_rfl) (fun _ _ _ h => h) (Or.inl ⟨by rfl, ?_⟩) ?_
            rotate_left
            · (intro w hSw; go_simp; first | done | (with_reducible rfl))
            simp only [Act.put, List.getElem_toArray, List.getElem_cons_succ, List.getElem_cons_zero, List.setIfInBounds_toArray, List.set_cons_zero, List.set_cons_succ]
            refine wpAnyY_pure (i := 3) (oi := _) (v := ?_) rfl (by kernel_rfl) (by kernel_rfl) (by kernel_rfl) (by kernel_rfl) (fun _ _ _ h => h) (Or.inl ⟨by rfl, ?_⟩) ?_
            rotate_left
            · (intro w hSw; go_simp; first | done | (with_reducible rfl))
            simp only [Act.put, List.getElem_toArray, List.getElem_cons_succ, List.getElem_cons_zero, List.setIfInBounds_toArray, List.set_cons_zero, List.set_cons_succ]
            refine wpAnyY_pure (i := 4) (oi := _) (v := ?_) rfl (by kernel_rfl) (by kernel_rfl) (by kernel_rfl) (by kernel_rfl) (fun _ _ _ h => h) (Or.inl ⟨by rfl, ?_⟩) ?_
            rotate_left
            · (intro w hSw; go_simp; first | done | (with_reducible rfl))
            simp only [Act.put, List.getElem_toArray, List.getElem_cons_succ, List.getElem_cons_zero, List.setIfInBounds_toArray, List.set_cons_zero, List.set_cons_succ]
            refine wpAnyY_pure (i := 5) (oi := _) (v := ?_) rfl (by kernel_rfl) (by kernel_rfl) (by kernel_rfl) (by kernel_rfl) (fun _ _ _ h => h) (Or.inl ⟨by rfl, ?_⟩) ?_
            rotate_left
            · (intro w hSw; go_simp; first | done | (with_reducible rfl))
            simp only [Act.put, List.getElem_toArray, List.getElem_cons_succ, List.getElem_cons_zero, List.setIfInBounds_toArray, List.set_cons_zero, List.set_cons_succ]
            refine wpAnyY_pure (i := 6) (oi := _) (v := ?_) rfl (by kernel_rfl) (by kernel_rfl) (by kernel_rfl) (by kernel_rfl) (fun _ _ _ h => h) (Or.inl ⟨by rfl, ?_⟩) ?_
            rotate_left
            · (intro w hSw; go_simp; first | done | (with_reducible rfl))
            simp only [Act.put, List.getElem_toArray, List.getElem_cons_succ, List.getElem_cons_zero, List.setIfInBounds_toArray, List.set_cons_zero, List.set_cons_succ]
            refine wpAnyY_take (i := 7) (oi := _) (v := .agg (s).cs.toArray) rfl (by kernel_rfl) (by kernel_rfl) (by kernel_rfl) (by kernel_rfl) (by kernel_rfl) (fun _ _ _ h => h) (yieldsIf_load_mid (by rfl) 40 _ rfl _ _ rfl _ _ (fun w hSw i v hv => World.grownBy.cell hSw (HR1.out i v hv) (by simp)) hd4 hrw4 infoSz) (by assumption) ?_
            simp only [Act.put, List.getElem_toArray, List.getElem_cons_succ, List.getElem_cons_zero, List.setIfInBounds_toArray, List.set_cons_zero, List.set_cons_succ]
            refine wpAnyY_pure (i := 8) (oi := _) (v := ?_) rfl (by kernel_rfl) (by kernel_rfl) (by kernel_rfl) (by kernel_rfl) (fun _ _ _ h => h) (Or.inl ⟨by rfl, ?_⟩) ?_
            rotate_left
            · (intro w hSw; go_simp; first | done | (with_reducible rfl))
            simp only [Act.put, List.getElem_toArray, List.getElem_cons_succ, List.getElem_cons_zero, List.setIfInBounds_toArray, List.set_cons_zero, List.set_cons_succ]
            refine wpAnyY_take (i := 9) (oi := _) (v := ?_) rfl (by kernel_rfl) (by kernel_rfl) (by kernel_rfl) (by kernel_rfl) (by kernel_rfl) (fun _ _ _ h => h) (Or.inl ⟨by rfl, ?_⟩) (by assumption) ?_
            rotate_left
            · (intro w hSw; have x1 := World.grownBy.cell hSw c15 (by simp); go_simp; first | done | (with_reducible rfl))
            simp only [Act.put, List.getElem_toArray, List.getElem_cons_succ, List.getElem_cons_zero, List.setIfInBounds_toArray, List.set_cons_zero, List.set_cons_succ]
            refine wpAnyY_pure (i := 10) (oi := _) (v := ?_) rfl (by kernel_rfl) (by kernel_rfl) (by kernel_rfl) (by kernel_rfl) (fun _ _ _ h => h) (Or.inl ⟨by rfl, ?_⟩) ?_
            rotate_left
            · (intro w hSw; go_simp; first | done | (with_reducible rfl))
            simp only [Act.put, List.getElem_toArray, List.getElem_cons_succ, List.getElem_cons_zero, List.setIfInBounds_toArray, List.set_cons_zero, List.set_cons_succ]
            refine wpAnyY_pure (i := 11) (oi := _) (v := ?_) rfl (by kernel_rfl) (by kernel_rfl) (by kernel_rfl) (by kernel_rfl) (fun _ _ _ h => h) (Or.inl ⟨by rfl, ?_⟩) ?_
            rotate_left
            · (intro w hSw; go_simp; first | done | (with_reducible rfl))
            simp only [Act.put, List.getElem_toArray, List.getElem_cons_succ, List.getElem_cons_zero, List.setIfInBounds_toArray, List.set_cons_zero, List.set_cons_succ]
            refine wpAnyY_take (i := 12) (oi := _) (v := .agg (s).cs.toArray) rfl (by kernel_rfl) (by kernel_rfl) (by kernel_rfl) (by kernel_rfl) (by kernel_rfl) (fun _ _ _ h => h) (yieldsIf_load_mid (by rfl) 40 _ rfl _ _ rfl _ _ (fun w hSw i v hv => World.grownBy.cell hSw (HR2.out i v hv) (by simp)) hd4 hrw4 infoSz) (by assumption) ?_
            simp only [Act.put, List.getElem_toArray, List.getElem_cons_succ, List.getElem_cons_zero, List.setIfInBounds_toArray, List.set_cons_zero, List.set_cons_succ]
            refine wpAnyY_pure (i := 13) (oi := _) (v := ?_) rfl (by kernel_rfl) (by kernel_rfl) (by kernel_rfl) (by kernel_rfl) (fun _ _ _ h => h) (Or.inl ⟨by rfl, ?_⟩) ?_
            rotate_left
            · (intro w hSw; have x1 := neq_same s; go_simp; first | done | (with_reducible rfl))
            simp only [Act.put, List.getElem_toArray, List.getElem_cons_succ, List.getElem_cons_zero, List.setIfInBounds_toArray, List.set_cons_zero, List.set_cons_succ]
            refine wpAnyY_pure (i := 14) (oi := _) (v := ?_) rfl (by kernel_rfl) (by kernel_rfl) (by kernel_rfl) (by kernel_rfl) (fun _ _ _ h => h) (Or.inl ⟨by rfl, ?_⟩) ?_
            rotate_left
            · (intro w hSw; go_simp; first | done | (with_reducible rfl))
            simp only [Act.put, List.getElem_toArray, List.getElem_cons_succ, List.getElem_cons_zero, List.setIfInBounds_toArray, List.set_cons_zero, List.set_cons_succ]
            refine wpAnyY_pure (i := 15) (oi := _) (v := ?_) rfl (by kernel_rfl) (by kernel_rfl) (by kernel_rfl) (by kernel_rfl) (fun _ _ _ h => h) (Or.inl ⟨by rfl, ?_⟩) ?_
            rotate_left
            · (intro w hSw; go_simp; first | done | (with_reducible rfl))
            simp only [Act.put, List.getElem_toArray, List.getElem_cons_succ, List.getElem_cons_zero, List.setIfInBounds_toArray, List.set_cons_zero, List.set_cons_succ]
            refine wpAnyY_pure (i := 16) (oi := _) (v := ?_) rfl (by kernel_rfl) (by kernel_rfl) (by kernel_rfl) (by kernel_rfl) (fun _ _ _ h => h) (Or.inl ⟨by rfl, ?_⟩) ?_
            rotate_left
            · (intro w hSw; go_simp; first | done | (with_reducible rfl))
            simp only [Act.put, List.getElem_toArray, List.getElem_cons_succ, List.getElem_cons_zero, List.setIfInBounds_toArray, List.set_cons_zero, List.set_cons_succ]
            refine wpAnyY_pure (i := 17) (oi := _) (v := ?_) rfl (by kernel_rfl) (by kernel_rfl) (by kernel_rfl) (by kernel_rfl) (fun _ _ _ h => h) (Or.inl ⟨by rfl, ?_⟩) ?_
            rotate_left
            · (intro w hSw; go_simp; first | done | (with_reducible rfl))
            simp only [Act.put, List.getElem_toArray, List.getElem_cons_succ, List.getElem_cons_zero, List.setIfInBounds_toArray, List.set_cons_zero, List.set_cons_succ]
            refine wpAnyY_pure (i := 18) (oi := _) (v := .bool false) rfl (by kernel_rfl) (by kernel_rfl) (by kernel_rfl) (by kernel_rfl) (fun _ _ _ h => h) (Or.inl ⟨by rfl, ?_⟩) ?_
            · (intro w hSw; go_simp; first | done | (simp; done) | (simp; omega))
            simp only [Act.put, List.getElem_toArray, List.getElem_cons_succ, List.getElem_cons_zero, List.setIfInBounds_toArray, List.set_cons_zero, List.set_cons_succ]
            refine wpAnyY_pure (i := 19) (oi := _) (v := ?_) rfl (by kernel_rfl) (by kernel_rfl) (by kernel_rfl) (by kernel_rfl) (fun _ _ _ h => h) (Or.inl ⟨by rfl, ?_⟩) ?_
            rotate_left
            · (intro w hSw; go_simp; first | done | (with_reducible rfl))
            simp only [Act.put, List.getElem_toArray, List.getElem_cons_succ, List.getElem_cons_zero, List.setIfInBounds_toArray, List.set_cons_zero, List.set_cons_succ]
            refine wpAnyY_pure (i := 20) (oi := _) (v := undef) rfl (by kernel_rfl) (by kernel_rfl) (by kernel_rfl) (by kernel_rfl) (fun _ _ _ h => h) (Or.inr ⟨by rfl, rfl⟩) ?_
            simp only [Act.put, List.getElem_toArray, List.getElem_cons_succ, List.getElem_cons_zero, List.setIfInBounds_toArray, List.set_cons_zero, List.set_cons_succ]
            refine wpAnyY_pure (i := 21) (oi := _) (v := undef) rfl (by kernel_rfl) (by kernel_rfl) (by kernel_rfl) (by kernel_rfl) (fun _ _ _ h => h) (Or.inr ⟨by rfl, rfl⟩) ?_
            simp only [Act.put, List.getElem_toArray, List.getElem_cons_succ, List.getElem_cons_zero, List.setIfInBounds_toArray, List.set_cons_zero, List.set_cons_succ]
            refine wpAnyY_pure (i := 22) (oi := _) (v := undef) rfl (by kernel_rfl) (by kernel_rfl) (by kernel_rfl) (by kernel_rfl) (fun _ _ _ h => h) (Or.inr ⟨by rfl, rfl⟩) ?_
            simp only [Act.put, List.getElem_toArray, List.getElem_cons_succ, List.getElem_cons_zero, List.setIfInBounds_toArray, List.set_cons_zero, List.set_cons_succ]
            refine wpAnyY_take (i := 23) (oi := _) (v := undef) rfl (by kernel_rfl) (by kernel_rfl) (by kernel_rfl) (by kernel_rfl) (by kernel_rfl) (fun _ _ _ h => h) (Or.inr ⟨by rfl, rfl⟩) (by assumption) ?_
            simp only [Act.put, List.getElem_toArray, List.getElem_cons_succ, List.getElem_cons_zero, List.setIfInBounds_toArray, List.set_cons_zero, List.set_cons_succ]
            refine wpAnyY_pure (i := 24) (oi := _) (v := undef) rfl (by kernel_rfl) (by kernel_rfl) (by kernel_rfl) (by kernel_rfl) (fun _ _ _ h => h) (Or.inr ⟨by rfl, rfl⟩) ?_
            simp only [Act.put, List.getElem_toArray, List.getElem_cons_succ, List.getElem_cons_zero, List.setIfInBounds_toArray, List.set_cons_zero, List.set_cons_succ]
            refine wpAnyY_pure (i := 25) (oi := _) (v := undef) rfl (by kernel_rfl) (by kernel_rfl) (by kernel_rfl) (by kernel_rfl) (fun _ _ _ h => h) (Or.inr ⟨by rfl, rfl⟩) ?_
            simp only [Act.put, List.getElem_toArray, List.getElem_cons_succ, List.getElem_cons_zero, List.setIfInBounds_toArray, List.set_cons_zero, List.set_cons_succ]
            refine wpAnyY_pure (i := 26) (oi := _) (v := ?_) rfl (by kernel_rfl) (by kernel_rfl) (by kernel_rfl) (by kernel_rfl) (fun _ _ _ h => h) (Or.inl ⟨by rfl, ?_⟩) ?_
            rotate_left
            · (intro w hSw; go_simp; first | done | (with_reducible rfl))
            simp only [Act.put, List.getElem_toArray, List.getElem_cons_succ, List.getElem_cons_zero, List.setIfInBounds_toArray, List.set_cons_zero, List.set_cons_succ]
            refine wpAnyY_pure (i := 27) (oi := _) (v := ?_) rfl (by kernel_rfl) (by kernel_rfl) (by kernel_rfl) (by kernel_rfl) (fun _ _ _ h => h) (Or.inl ⟨by rfl, ?_⟩) ?_
            rotate_left
            · (intro w hSw; go_simp; first | done | (with_reducible rfl))
            simp only [Act.put, List.getElem_toArray, List.getElem_cons_succ, List.getElem_cons_zero, List.setIfInBounds_toArray, List.set_cons_zero, List.set_cons_succ]
            refine wpAnyY_done (by kernel_rfl) ?_ _
            have HNX := Keep.mk (HSR.out.grown (gr_drew wr none))
            clear HSR
            go_wp2_with fail
            go_roundw
            case rel => exact ⟨i + 1, by omega, by go_num, HNX⟩
            case measure => simp [intOf]; omega
          · have hin' : ¬ (i : Int) < (n : Int) := by omega
            have hge : decide ((n : Int) ≤ (i : Int)) = true := decide_eq_true (by omega)
            have hle : (n : Int) ≤ (i : Int) := by omega
            have HR1 : Keep (wr.rangeAt g (i * 5) m7.cs) := ⟨snr_range (row_snr HSR.out mm0 (by omega)) (wd_ge (by rw [HK.out.2.2.2.2]; omega) (by rw [HK.out.2.2.2.2]; have := HN.out.1; omega))⟩
            go_wp2_with fail
            refine region_Y (S := fun w' => wr.grownBy w' none) [] (by kernel_rfl) ?_
            have hHeld := gr_drew wr none
            refine wpAnyY_pure (i := 0) (oi := _) (v := ?_) rfl (by kernel_rfl) (by kernel_rfl) (by kernel_rfl) (by kernel_rfl) (fun _ _ _ h => h) (Or.inl ⟨by rfl, ?_⟩) ?_
            rotate_left
            · (intro w hSw; go_simp; first | done | (with_reducible rfl))
            simp only [Act.put, List.getElem_toArray, List.getElem_cons_zero, List.setIfInBounds_toArray, List.set_cons_zero, List.set_cons_succ]
            refine wpAnyY_pure (i := 1) (oi := _) (v := ?_) rfl (by kernel_rfl) (by kernel_rfl) (by kernel_rfl) (by kernel_rfl) (fun _ _ _ h => h) (Or.inl ⟨by rfl, ?_⟩) ?_
            rotate_left
            · (intro w hSw; go_simp; first | done | (with_reducible rfl))
            simp only [Act.put, List.getElem_toArray, List.getElem_cons_succ, List.getElem_cons_zero, List.setIfInBounds_toArray, List.set_cons_zero, List.set_cons_succ]
            refine wpAnyY_pure (i := 2) (oi := _) (v := ?_) rfl (by kernel_rfl) (by kernel_rfl) (by kernel_rfl) (by kernel_rfl) (fun _ _ _ h => h) (Or.inl ⟨by rfl, ?_⟩) ?_
            rotate_left
            · (intro w hSw; go_simp; first | done | (with_reducible rfl))
            simp only [Act.put, List.getElem_toArray, List.getElem_cons_succ, List.getElem_cons_zero, List.setIfInBounds_toArray, List.set_cons_zero, List.set_cons_succ]
            refine wpAnyY_pure (i := 3) (oi := _) (v := ?_) rfl (by kernel_rfl) (by kernel_rfl) (by kernel_rfl) (by kernel_rfl) (fun _ _ _ h => h) (Or.inl ⟨by rfl, ?_⟩) ?_
            rotate_left
            · (intro w hSw; go_simp; first | done | (with_reducible rfl))
            simp only [Act.put, List.getElem_toArray, List.getElem_cons_succ, List.getElem_cons_zero, List.setIfInBounds_toArray, List.set_cons_zero, List.set_cons_succ]
            refine wpAnyY_pure (i := 4) (oi := _) (v := undef) rfl (by kernel_rfl) (by kernel_rfl) (by kernel_rfl) (by kernel_rfl) (fun _ _ _ h => h) (Or.inr ⟨by rfl, rfl⟩) ?_
            simp only [Act.put, List.getElem_toArray, List.getElem_cons_succ, List.getElem_cons_zero, List.setIfInBounds_toArray, List.set_cons_zero, List.set_cons_succ]
            refine wpAnyY_pure (i := 5) (oi := _) (v := undef) rfl (by kernel_rfl) (by kernel_rfl) (by kernel_rfl) (by kernel_rfl) (fun _ _ _ h => h) (Or.inr ⟨by rfl, rfl⟩) ?_
            simp only [Act.put, List.getElem_toArray, List.getElem_cons_succ, List.getElem_cons_zero, List.setIfInBounds_toArray, List.set_cons_zero, List.set_cons_succ]
            refine wpAnyY_pure (i := 6) (oi := _) (v := undef) rfl (by kernel_rfl) (by kernel_rfl) (by kernel_rfl) (by kernel_rfl) (fun _ _ _ h => h) (Or.inr ⟨by rfl, rfl⟩) ?_
            simp only [Act.put, List.getElem_toArray, List.getElem_cons_succ, List.getElem_cons_zero, List.setIfInBounds_toArray, List.set_cons_zero, List.set_cons_succ]
            refine wpAnyY_take (i := 7) (oi := _) (v := undef) rfl (by kernel_rfl) (by kernel_rfl) (by kernel_rfl) (by kernel_rfl) (by kernel_rfl) (fun _ _ _ h => h) (Or.inr ⟨by rfl, rfl⟩) (by assumption) ?_
            simp only [Act.put, List.getElem_toArray, List.getElem_cons_succ, List.getElem_cons_zero, List.setIfInBounds_toArray, List.set_cons_zero, List.set_cons_succ]
            refine wpAnyY_pure (i := 8) (oi := _) (v := undef) rfl (by kernel_rfl) (by kernel_rfl) (by kernel_rfl) (by kernel_rfl) (fun _ _ _ h => h) (Or.inr ⟨by rfl, rfl⟩) ?_
            simp only [Act.put, List.getElem_toArray, List.getElem_cons_succ, List.getElem_cons_zero, List.setIfInBounds_toArray, List.set_cons_zero, List.set_cons_succ]
            refine wpAnyY_take (i := 9) (oi := _) (v := undef) rfl (by kernel_rfl) (by kernel_rfl) (by kernel_rfl) (by kernel_rfl) (by kernel_rfl) (fun _ _ _ h => h) (Or.inr ⟨by rfl, rfl⟩) (by assumption) ?_
            simp only [Act.put, List.getElem_toArray, List.getElem_cons_succ, List.getElem_cons_zero, List.setIfInBounds_toArray, List.set_cons_zero, List.set_cons_succ]
            refine wpAnyY_pure (i := 10) (oi := _) (v := undef) rfl (by kernel_rfl) (by kernel_rfl) (by kernel_rfl) (by kernel_rfl) (fun _ _ _ h => h) (Or.inr ⟨by rfl, rfl⟩) ?_
            simp only [Act.put, List.getElem_toArray, List.getElem_cons_succ, List.getElem_cons_zero, List.setIfInBounds_toArray, List.set_cons_zero, List.set_cons_succ]
            refine wpAnyY_pure (i := 11) (oi := _) (v := undef) rfl (by kernel_rfl) (by kernel_rfl) (by kernel_rfl) (by kernel_rfl) (fun _ _ _ h => h) (Or.inr ⟨by rfl, rfl⟩) ?_
            simp only [Act.put, List.getElem_toArray, List.getElem_cons_succ, List.getElem_cons_zero, List.setIfInBounds_toArray, List.set_cons_zero, List.set_cons_succ]
            refine wpAnyY_take (i := 12) (oi := _) (v := undef) rfl (by kernel_rfl) (by kernel_rfl) (by kernel_rfl) (by kernel_rfl) (by kernel_rfl) (fun _ _ _ h => h) (Or.inr ⟨by rfl, rfl⟩) (by assumption) ?_
            simp only [Act.put, List.getElem_toArray, List.getElem_cons_succ, List.getElem_cons_zero, List.setIfInBounds_toArray, List.set_cons_zero, List.set_cons_succ]
            refine wpAnyY_pure (i := 13) (oi := _) (v := undef) rfl (by kernel_rfl) (by kernel_rfl) (by kernel_rfl) (by kernel_rfl) (fun _ _ _ h => h) (Or.inr ⟨by rfl, rfl⟩) ?_
            simp only [Act.put, List.getElem_toArray, List.getElem_cons_succ, List.getElem_cons_zero, List.setIfInBounds_toArray, List.set_cons_zero, List.set_cons_succ]
            refine wpAnyY_pure (i := 14) (oi := _) (v := ?_) rfl (by kernel_rfl) (by kernel_rfl) (by kernel_rfl) (by kernel_rfl) (fun _ _ _ h => h) (Or.inl ⟨by rfl, ?_⟩) ?_
            rotate_left
            · (intro w hSw; go_simp; first | done | (with_reducible rfl))
            simp only [Act.put, List.getElem_toArray, List.getElem_cons_succ, List.getElem_cons_zero, List.setIfInBounds_toArray, List.set_cons_zero, List.set_cons_succ]
            refine wpAnyY_pure (i := 15) (oi := _) (v := ?_) rfl (by kernel_rfl) (by kernel_rfl) (by kernel_rfl) (by kernel_rfl) (fun _ _ _ h => h) (Or.inl ⟨by rfl, ?_⟩) ?_
            rotate_left
            · (intro w hSw; go_simp; first | done | (with_reducible rfl))
            simp only [Act.put, List.getElem_toArray, List.getElem_cons_succ, List.getElem_cons_zero, List.setIfInBounds_toArray, List.set_cons_zero, List.set_cons_succ]
            refine wpAnyY_pure (i := 16) (oi := _) (v := ?_) rfl (by kernel_rfl) (by kernel_rfl) (by kernel_rfl) (by kernel_rfl) (fun _ _ _ h => h) (Or.inl ⟨by rfl, ?_⟩) ?_
            rotate_left
            · (intro w hSw; go_simp; first | done | (with_reducible rfl))
            simp only [Act.put, List.getElem_toArray, List.getElem_cons_succ, List.getElem_cons_zero, List.setIfInBounds_toArray, List.set_cons_zero, List.set_cons_succ]
            refine wpAnyY_pure (i := 17) (oi := _) (v := ?_) rfl (by kernel_rfl) (by kernel_rfl) (by kernel_rfl) (by kernel_rfl) (fun _ _ _ h => h) (Or.inl ⟨by rfl, ?_⟩) ?_
            rotate_left
            · (intro w hSw; go_simp; first | done | (with_reducible rfl))
            simp only [Act.put, List.getElem_toArray, List.getElem_cons_succ, List.getElem_cons_zero, List.setIfInBounds_toArray, List.set_cons_zero, List.set_cons_succ]
            refine wpAnyY_pure (i := 18) (oi := _) (v := .bool true) rfl (by kernel_rfl) (by kernel_rfl) (by kernel_rfl) (by kernel_rfl) (fun _ _ _ h => h) (Or.inl ⟨by rfl, ?_⟩) ?_
            · (intro w hSw; go_simp; first | done | (simp; done) | (simp; omega))
            simp only [Act.put, List.getElem_toArray, List.getElem_cons_succ, List.getElem_cons_zero, List.setIfInBounds_toArray, List.set_cons_zero, List.set_cons_succ]
            refine wpAnyY_pure (i := 19) (oi := _) (v := ?_) rfl (by kernel_rfl) (by kernel_rfl) (by kernel_rfl) (by kernel_rfl) (fun _ _ _ h => h) (Or.inl ⟨by rfl, ?_⟩) ?_
            rotate_left
            · (intro w hSw; go_simp; first | done | (with_reducible rfl))
            simp only [Act.put, List.getElem_toArray, List.getElem_cons_succ, List.getElem_cons_zero, List.setIfInBounds_toArray, List.set_cons_zero, List.set_cons_succ]
            refine wpAnyY_pure (i := 20) (oi := _) (v := ?_) rfl (by kernel_rfl) (by kernel_rfl) (by kernel_rfl) (by kernel_rfl) (fun _ _ _ h => h) (Or.inl ⟨by rfl, ?_⟩) ?_
            rotate_left
            · (intro w hSw; go_simp; first | done | (with_reducible rfl))
            simp only [Act.put, List.getElem_toArray, List.getElem_cons_succ, List.getElem_cons_zero, List.setIfInBounds_toArray, List.set_cons_zero, List.set_cons_succ]
            refine wpAnyY_pure (i := 21) (oi := _) (v := ?_) rfl (by kernel_rfl) (by kernel_rfl) (by kernel_rfl) (by kernel_rfl) (fun _ _ _ h => h) (Or.inl ⟨by rfl, ?_⟩) ?_
            rotate_left
            · (intro w hSw; go_simp; first | done | (with_reducible rfl))
            simp only [Act.put, List.getElem_toArray, List.getElem_cons_succ, List.getElem_cons_zero, List.setIfInBounds_toArray, List.set_cons_zero, List.set_cons_succ]
            refine wpAnyY_pure (i := 22) (oi := _) (v := ?_) rfl (by kernel_rfl) (by kernel_rfl) (by kernel_rfl) (by kernel_rfl) (fun _ _ _ h => h) (Or.inl ⟨by rfl, ?_⟩) ?_
            rotate_left
            · (intro w hSw; go_simp; first | done | (with_reducible rfl))
            simp only [Act.put, List.getElem_toArray, List.getElem_cons_succ, List.getElem_cons_zero, List.setIfInBounds_toArray, List.set_cons_zero, List.set_cons_succ]
            refine wpAnyY_take (i := 23) (oi := _) (v := .agg (m7).cs.toArray) rfl (by kernel_rfl) (by kernel_rfl) (by kernel_rfl) (by kernel_rfl) (by kernel_rfl) (fun _ _ _ h => h) (yieldsIf_load_mid (by rfl) 40 _ rfl _ _ rfl _ _ (fun w hSw i v hv => World.grownBy.cell hSw (HR1.out i v hv) (by simp)) hd4 hrw4 infoSz) (by assumption) ?_
            simp only [Act.put, List.getElem_toArray, List.getElem_cons_succ, List.getElem_cons_zero, List.setIfInBounds_toArray, List.set_cons_zero, List.set_cons_succ]
            refine wpAnyY_pure (i := 24) (oi := _) (v := .agg m7.cs.toArray) rfl (by kernel_rfl) (by kernel_rfl) (by kernel_rfl) (by kernel_rfl) (fun _ _ _ h => h) (Or.inl ⟨by rfl, ?_⟩) ?_
            · (intro w hSw; have x1 := blt7; go_simp; first | done | rfl)
            simp only [Act.put, List.getElem_toArray, List.getElem_cons_succ, List.getElem_cons_zero, List.setIfInBounds_toArray, List.set_cons_zero, List.set_cons_succ]
            refine wpAnyY_pure (i := 25) (oi := _) (v := ?_) rfl (by kernel_rfl) (by kernel_rfl) (by kernel_rfl) (by kernel_rfl) (fun _ _ _ h => h) (Or.inl ⟨by rfl, ?_⟩) ?_
            rotate_left
            · (intro w hSw; have x1 := neq_same m7; go_simp; first | done | (with_reducible rfl))
            simp only [Act.put, List.getElem_toArray, List.getElem_cons_succ, List.getElem_cons_zero, List.setIfInBounds_toArray, List.set_cons_zero, List.set_cons_succ]
            refine wpAnyY_pure (i := 26) (oi := _) (v := ?_) rfl (by kernel_rfl) (by kernel_rfl) (by kernel_rfl) (by kernel_rfl) (fun _ _ _ h => h) (Or.inl ⟨by rfl, ?_⟩) ?_
            rotate_left
            · (intro w hSw; go_simp; first | done | (with_reducible rfl))
            simp only [Act.put, List.getElem_toArray, List.getElem_cons_succ, List.getElem_cons_zero, List.setIfInBounds_toArray, List.set_cons_zero, List.set_cons_succ]
            refine wpAnyY_pure (i := 27) (oi := _) (v := ?_) rfl (by kernel_rfl) (by kernel_rfl) (by kernel_rfl) (by kernel_rfl) (fun _ _ _ h => h) (Or.inl ⟨by rfl, ?_⟩) ?_
            rotate_left
            · (intro w hSw; go_simp; first | done | (with_reducible rfl))
            simp only [Act.put, List.getElem_toArray, List.getElem_cons_succ, List.getElem_cons_zero, List.setIfInBounds_toArray, List.set_cons_zero, List.set_cons_succ]
            refine wpAnyY_done (by kernel_rfl) ?_ _
            have HNX := Keep.mk (HSR.out.grown (gr_drew wr none))
            clear HSR
            go_wp2_with fail
            go_roundw
            case rel => exact ⟨i + 1, by omega, by go_num, HNX⟩
            case measure => simp [intOf]; omega
        · have hlt' : ¬ (i : Int) < (N : Int) := by omega
          have HSX := Keep.mk hrel.out.tail
          clear hrel hlt hi
          by_cases heq : eW = 0
          · obtain ⟨hf, hen⟩ := HMF.out.2.1 heq
            have HF := Keep.mk hf
            have HRD : Keep (rdV (sl sW) = (V, 0)) := ⟨by rw [hen]; exact rd_wr HK.out.2.1 hf⟩
            clear hf hen
            subst heq
            go_wp2_with fail
            have R1 := read_c sW wr
            rw [HRD.out] at R1
            refine R1.mono ?_
            rintro e wR1 ⟨aR1, cR1, rfl, RR1⟩
            have HR1 := Keep.mk (HSX.out.rdNew RR1)
            clear R1 RR1
            go_wp2_with (first
              | (with_reducible show wpList _ _ _ ({ dst := none, op := Op.store 29 (Operand.tmp 12) _, type := _, pos := _, after := _, guard := _ } :: _) _ _
                 refine st_new wR1 (V.cs aR1 cR1) 29 rfl rfl rfl rfl rfl infoV (vw_one _ _ _) ?_
                 intro wX1 h6 g6
                 have HX1 := Keep.mk (HR1.out.addBox h6 g6)
                 clear h6 g6))
            have R2 := read_c sW wX1
            rw [HRD.out] at R2
            refine R2.mono ?_
            rintro e wR2 ⟨aR2, cR2, rfl, RR2⟩
            have HR2 := Keep.mk (HX1.out.rdNew RR2)
            clear R2 RR2
            go_wp2_with (first
              | (with_reducible show wpList _ _ _ ({ dst := none, op := Op.store 29 (Operand.tmp 14) _, type := _, pos := _, after := _, guard := _ } :: _) _ _
                 refine st_new wR2 (V.cs aR2 cR2) 29 rfl rfl rfl rfl rfl infoV (vw_one _ _ _) ?_
                 intro wX2 h6 g6
                 have HX2 := Keep.mk (HR2.out.addBox h6 g6)
                 clear h6 g6)
              | (with_reducible show wpList _ _ _ ({ dst := _, op := Op.load 29 (Operand.tmp 12), type := _, pos := _, after := _, guard := _ } :: _) _ _
                 refine load_g rfl 29 _ rfl (wR1.heap.size) 0 rfl (V.cs aR1 cR1) d (HX2.out.boxGet mm2).range hd hrw infoV ?_)
              | (with_reducible show wpList _ _ _ ({ dst := _, op := Op.load 29 (Operand.tmp 1), type := _, pos := _, after := _, guard := _ } :: _) _ _
                 refine load_g rfl 29 _ rfl (w.heap.size) 0 rfl (V.cs a c) d (HX2.out.boxGet mm4).range hd hrw infoV ?_))
            refine (same_c V V aR1 a cR1 c wX2 (HX2.out.rdSeen mm3) (HK.out.2.2.1.kept HX2.out.g) (by have := HK.out.2.2.2.1; omega)).mono ?_
            rintro e wX3 ⟨b, rfl, hb, g6⟩
            obtain rfl : b = true := hb.2 rfl
            have HX3 := Keep.mk (HX2.out.grown g6)
            clear hb g6
            go_wp2_with (first
              | (with_reducible show wpList _ _ _ ({ dst := _, op := Op.load 29 (Operand.tmp 14), type := _, pos := _, after := _, guard := _ } :: _) _ _
                 refine load_g rfl 29 _ rfl (wR2.heap.size) 0 rfl (V.cs aR2 cR2) d (HX3.out.boxGet mm0).range hd hrw infoV ?_)
              | (with_reducible show wpList _ _ _ ({ dst := _, op := Op.load 29 (Operand.tmp 1), type := _, pos := _, after := _, guard := _ } :: _) _ _
                 refine load_g rfl 29 _ rfl (w.heap.size) 0 rfl (V.cs a c) d (HX3.out.boxGet mm4).range hd hrw infoV ?_))
            refine (same_c V V aR2 a cR2 c wX3 (HX3.out.rdSeen mm1) (HK.out.2.2.1.kept HX3.out.g) (by have := HK.out.2.2.2.1; omega)).mono ?_
            rintro e wX4 ⟨b, rfl, hb, g6⟩
            obtain rfl : b = true := hb.2 rfl
            have HX4 := Keep.mk (HX3.out.grown g6)
            clear hb g6
            clear HX1 HX2 HX3 HR1 HR2 HSX
            by_cases hem : eM = 0
            · obtain ⟨hop, htm⟩ := HMF.out.2.2 hem
              subst hem
              go_wp2_with (first
                | (with_reducible show wpList _ _ _ ({ dst := _, op := Op.load 29 (Operand.tmp 14), type := _, pos := _, after := _, guard := _ } :: _) _ _
                   refine load_g rfl 29 _ rfl (wR2.heap.size) 0 rfl (V.cs aR2 cR2) d (HX4.out.boxGet mm0).range hd hrw infoV ?_)
                | (with_reducible show wpList _ _ _ ({ dst := none, op := Op.store 29 (Operand.tmp 16) _, type := _, pos := _, after := _, guard := _ } :: _) _ _
                   refine st_new wX4 (V.cs aR2 cR2) 29 rfl rfl rfl rfl rfl infoV (vw_one _ _ _) ?_
                   intro wZ1 h6 g6
                   have HZ1 := Keep.mk (HX4.out.addBox h6 g6)
                   clear h6 g6))
              have OP := open_c tM { data := #[107] } wZ1 (HK.out.1.kept HZ1.out.g (by simp)) htm (by decide)
              rw [hop] at OP
              refine OP.mono ?_
              rintro e wZ2 ⟨aZ, cZ, rfl, RRZ⟩
              have HZ2 := Keep.mk (HZ1.out.rdNew RRZ).swap
              clear OP RRZ hop htm
              go_wp2_with (first
                | (with_reducible show wpList _ _ _ ({ dst := none, op := Op.store 29 (Operand.tmp 16) _, type := _, pos := _, after := _, guard := _ } :: _) _ _
                   refine st_all wZ2 (wX4.heap.size) (V.cs aR2 cR2) (V.cs aZ cZ) 29 29 rfl rfl rfl rfl (HZ2.out.boxGet mm0) rfl infoV (vw_one _ _ _) ?_
                   intro wZ3 h7 g7
                   have HZ3 := Keep.mk (HZ2.out.boxAll h7 g7)
                   clear h7 g7))
              have HL1 := Keep.mk (fr1 [_, _, _, _, _] HZ3.out)
              replace HL1 : Keep (Sep w _ [rdA aR1 cR1 V.S, boxA wX4.heap.size (V.cs aZ cZ) 29, rdA aZ cZ V.S, boxA wR2.heap.size (V.cs aR2 cR2) 29, rdA aR2 cR2 V.S, boxA wR1.heap.size (V.cs aR1 cR1) 29, boxA w.heap.size (V.cs a c) 29]) := HL1
              go_loopw [17] (fun u wr => ∃ i : Nat, i ≤ n ∧ u = .int .i64 i ∧ Keep (Sep w wr [rdA aR1 cR1 (ovr n9 V.S i), boxA wX4.heap.size (V.cs aZ cZ) 29, rdA aZ cZ V.S, boxA wR2.heap.size (V.cs aR2 cR2) 29, rdA aR2 cR2 V.S, boxA wR1.heap.size (V.cs aR1 cR1) 29, boxA w.heap.size (V.cs a c) 29])) (fun u _ => n - (intOf u).toNat)
              case atStart => exact ⟨0, by omega, rfl, by rw [ovr_0]; exact HL1⟩
              case round =>
                clear HL1 HZ1 HZ2 HZ3 HX4
                obtain ⟨i, hi, rfl, hrel⟩ := hrel
                have c15 : wr.cell? ⟨wR1.heap.size, 15, none⟩ = some (.slice aR1 n cR1) := by rw [← HK.out.2.2.2.2]; exact (hrel.out.boxGet mm5).cellv 15 _ rfl
                by_cases hlt : i < n
                · have hlt' : (i : Int) < (n : Int) := by omega
                  have hi0 : (0 : Int) ≤ (i : Int) := by omega
                  have hti : ((i : Nat) : Int).toNat = i := by omega
                  have hlS : i < V.S.length := by rw [HK.out.2.2.2.2]; exact hlt
                  have hol : (ovr n9 V.S i).length = n := by rw [ovr_len (by omega), HK.out.2.2.2.2]
                  obtain ⟨b, hb1, hb2, hb3⟩ := hrel.out.rdOpen (by omega)
                  rw [hol] at hb2
                  have HO : Keep (Sep w wr (boxA b (fls (ovr n9 V.S i)) 40 :: [boxA wX4.heap.size (V.cs aZ cZ) 29, rdA aZ cZ V.S, boxA wR2.heap.size (V.cs aR2 cR2) 29, rdA aR2 cR2 V.S, boxA wR1.heap.size (V.cs aR1 cR1) 29, boxA w.heap.size (V.cs a c) 29])) := ⟨hb3⟩
                  have HNX : Keep (∀ w6, Sep w w6 (boxA b (over (fls (ovr n9 V.S i)) (i * 5) n9.cs) 40 :: [boxA wX4.heap.size (V.cs aZ cZ) 29, rdA aZ cZ V.S, boxA wR2.heap.size (V.cs aR2 cR2) 29, rdA aR2 cR2 V.S, boxA wR1.heap.size (V.cs aR1 cR1) 29, boxA w.heap.size (V.cs a c) 29]) → Sep w w6 [rdA aR1 cR1 (ovr n9 V.S (i + 1)), boxA wX4.heap.size (V.cs aZ cZ) 29, rdA aZ cZ V.S, boxA wR2.heap.size (V.cs aR2 cR2) 29, rdA aR2 cR2 V.S, boxA wR1.heap.size (V.cs aR1 cR1) 29, boxA w.heap.size (V.cs a c) 29]) := ⟨fun w6 h => by
                    rw [Nat.mul_comm, fls_set _ _ _ (by omega), ovr_set hlS] at h
                    have h2 := h.rdShut
                    have e : rdA (some ⟨b, 0, none⟩) (ovr n9 V.S (i + 1)).length (ovr n9 V.S (i + 1)) = rdA aR1 cR1 (ovr n9 V.S (i + 1)) := by rw [ovr_len (by omega), HK.out.2.2.2.2, ← hb2, ← hb1]
                    rw [e] at h2
                    exact h2⟩
                  have HFL : Keep ((fls (ovr n9 V.S i)).length = n * 5) := ⟨by rw [fls_len', hol]⟩
                  rw [hb1] at c15
                  clear hb1 hb2 hb3 hol hrel
                  go_wp2_with (first
                    | (with_reducible show wpList _ _ _ ({ dst := some 145, op := Op.build 40 _, type := _, pos := _, after := _, guard := _ } :: _) _ _
                       refine build_g rfl 40 _ rfl _ ((congrArg (Tryz.prog.built 40) (by first | (simp only [List.map_toArray, List.map_cons, List.map_nil, Act.eval]; done) | (simp only [List.map_toArray, List.map_cons, List.map_nil, Act.eval]; with_reducible rfl) | (simp only [List.map_toArray, List.map_cons, List.map_nil, Act.eval]; rfl))).trans blt9) ?_
                       simp only [Act.put, List.setIfInBounds_toArray, List.set_cons_zero, List.set_cons_succ])
                    | (with_reducible show wpList _ _ _ ({ dst := none, op := Op.store 40 _ (Operand.tmp 145), type := _, pos := _, after := _, guard := _ } :: _) _ _
                       refine store_at wr b (i * 5) (fls (ovr n9 V.S i)) n9.cs 40 40 rfl rfl (by first | rfl | (simp; done)) rfl (HO.out.boxGet mm0) (by rw [HFL.out]; show i * 5 + 5 ≤ n * 5; omega) infoSz (sn_one _) ?_
                       intro w6 hS6 g6
                       have HS6 := Keep.mk (HNX.out _ (hS6 _ _ HO.out))
                       clear hS6 g6))
                  clear HO HNX HFL c15
                  go_roundw
                  case rel => exact ⟨i + 1, by omega, by go_num, HS6⟩
                  case measure => simp [intOf]; omega
                · have hlt' : ¬ (i : Int) < (n : Int) := by omega
                  have hin : i = n := by omega
                  rw [hin] at hrel
                  have hol : (ovr n9 V.S n).length = n := by rw [ovr_len (by rw [HK.out.2.2.2.2]; omega), HK.out.2.2.2.2]
                  obtain ⟨vM, wM, AP, HM0⟩ := Sep.rdApp [n9, n9] (by decide) hrel.out (by rw [hol]; show (n + 2) * 40 ≤ _; omega)
                  rw [hol] at AP
                  rw [reps n9 n V.S HK.out.2.2.2.2] at HM0
                  obtain ⟨gM, kM, eM2, hq0⟩ := own_any (HM0.rowGet mm0) (by rw [List.length_replicate]; omega)
                  rw [List.length_replicate] at eM2
                  subst eM2
                  clear hq0 hol
                  obtain ⟨M, hM⟩ : ∃ M, n + 2 = M := ⟨_, rfl⟩
                  rw [List.length_replicate, hM] at HM0
                  rw [hM] at AP
                  have HM := Keep.mk HM0
                  clear HM0 hrel
                  go_wp2_with (first
                    | (with_reducible show wpList _ _ _ ({ dst := some 149, op := Op.build 40 _, type := _, pos := _, after := _, guard := _ } :: _) _ _
                       refine build_g rfl 40 _ rfl _ ((congrArg (Tryz.prog.built 40) (by first | (simp only [List.map_toArray, List.map_cons, List.map_nil, Act.eval]; done) | (simp only [List.map_toArray, List.map_cons, List.map_nil, Act.eval]; with_reducible rfl) | (simp only [List.map_toArray, List.map_cons, List.map_nil, Act.eval]; rfl))).trans blt9) ?_
                       simp only [Act.put, List.setIfInBounds_toArray, List.set_cons_zero, List.set_cons_succ])
                    | (with_reducible show wpList _ _ _ ({ dst := some 150, op := Op.build 40 _, type := _, pos := _, after := _, guard := _ } :: _) _ _
                       refine build_g rfl 40 _ rfl _ ((congrArg (Tryz.prog.built 40) (by first | (simp only [List.map_toArray, List.map_cons, List.map_nil, Act.eval]; done) | (simp only [List.map_toArray, List.map_cons, List.map_nil, Act.eval]; with_reducible rfl) | (simp only [List.map_toArray, List.map_cons, List.map_nil, Act.eval]; rfl))).trans blt9) ?_
                       simp only [Act.put, List.setIfInBounds_toArray, List.set_cons_zero, List.set_cons_succ])
                    | (with_reducible show wpList _ _ _ ({ dst := some 151, op := Op.buildSlice 27 2 _, type := _, pos := _, after := _, guard := _ } :: _) _ _
                       refine wpList_bs_all rfl 27 2 _ rfl #[(0, .agg n9.cs.toArray), (1, .agg n9.cs.toArray)] (by first | rfl | (simp only [List.map_toArray, List.map_cons, List.map_nil, Act.eval]; done) | (simp only [List.map_toArray, List.map_cons, List.map_nil, Act.eval]; rfl)) (bsTwo n9 n9 wr) ?_)
                    | (with_reducible show wpList _ _ _ ({ dst := some 152, op := Op.call { callee := Callee.builtin Builtin.append, args := _, argTypes := _ }, type := _, pos := _, after := _, guard := _ } :: _) _ _
                       refine wpList_append_run _ rfl (.tmp 148) (.tmp 151) 27 rfl _ _ rfl rfl AP ?_)
                    | (with_reducible show wpList _ _ _ ({ dst := _, op := Op.load 29 (Operand.tmp 14), type := _, pos := _, after := _, guard := _ } :: _) _ _
                       refine load_g rfl 29 _ rfl (wR2.heap.size) 0 rfl (V.cs aR2 cR2) d (HM.out.boxGet mm4).range hd hrw infoV ?_)
                    | (with_reducible show wpList _ _ _ ({ dst := _, op := Op.load 29 (Operand.tmp 1), type := _, pos := _, after := _, guard := _ } :: _) _ _
                       refine load_g rfl 29 _ rfl (w.heap.size) 0 rfl (V.cs a c) d (HM.out.boxGet mm7).range hd hrw infoV ?_))
                  clear AP c15
                  replace HM : Keep (Sep w wM [rowV 40 5 (.slice (some ⟨gM, 0, none⟩) M kM) M (fls (List.replicate M n9)), rdA aR1 cR1 (ovr n9 V.S n), boxA wX4.heap.size (V.cs aZ cZ) 29, rdA aZ cZ V.S, boxA wR2.heap.size (V.cs aR2 cR2) 29, rdA aR2 cR2 V.S, boxA wR1.heap.size (V.cs aR1 cR1) 29, boxA w.heap.size (V.cs a c) 29]) := HM
                  refine (same_c V V aR2 a cR2 c wM (HM.out.rdSeen mm5) (HK.out.2.2.1.kept HM.out.g) (by have := HK.out.2.2.2.1; omega)).mono ?_
                  rintro e wM2 ⟨b, rfl, hb, g6⟩
                  obtain rfl : b = true := hb.2 rfl
                  have HM2 := Keep.mk (HM.out.grown g6)
                  clear hb g6
                  go_wp2_with (first
                    | (with_reducible show wpList _ _ _ ({ dst := _, op := Op.load 29 (Operand.tmp 16), type := _, pos := _, after := _, guard := _ } :: _) _ _
                       refine load_g rfl 29 _ rfl (wX4.heap.size) 0 rfl (V.cs aZ cZ) d (HM2.out.boxGet mm2).range hd hrw infoV ?_)
                    | (with_reducible show wpList _ _ _ ({ dst := _, op := Op.load 29 (Operand.tmp 1), type := _, pos := _, after := _, guard := _ } :: _) _ _
                       refine load_g rfl 29 _ rfl (w.heap.size) 0 rfl (V.cs a c) d (HM2.out.boxGet mm7).range hd hrw infoV ?_))
                  refine (same_c V V aZ a cZ c wM2 (HM2.out.rdSeen mm3) (HK.out.2.2.1.kept HM2.out.g) (by have := HK.out.2.2.2.1; omega)).mono ?_
                  rintro e wM3 ⟨b, rfl, hb, g6⟩
                  obtain rfl : b = true := hb.2 rfl
                  have HM3 := Keep.mk (HM2.out.grown g6)
                  clear hb g6
                  go_wp2_with fail
                  replace HM3 : Keep (Sep w wM3 [rowV 40 5 (.slice (some ⟨gM, 0, none⟩) M kM) M (fls (List.replicate M n9)), rdA aR1 cR1 (ovr n9 V.S n), boxA wX4.heap.size (V.cs aZ cZ) 29, rdA aZ cZ V.S, boxA wR2.heap.size (V.cs aR2 cR2) 29, rdA aR2 cR2 V.S, boxA wR1.heap.size (V.cs aR1 cR1) 29, boxA w.heap.size (V.cs a c) 29]) := HM3
                  have HL2 := Keep.mk (fr1 [_, _, _, _, _] HM3.out)
                  replace HL2 : Keep (Sep w _ [rdA aR2 cR2 V.S, rowV 40 5 (.slice (some ⟨gM, 0, none⟩) M kM) M (fls (List.replicate M n9)), rdA aR1 cR1 (ovr n9 V.S n), boxA wX4.heap.size (V.cs aZ cZ) 29, rdA aZ cZ V.S, boxA wR2.heap.size (V.cs aR2 cR2) 29, boxA wR1.heap.size (V.cs aR1 cR1) 29, boxA w.heap.size (V.cs a c) 29]) := HL2
                  go_loopw [19] (fun u wr => ∃ i : Nat, i ≤ n ∧ u = .int .i64 i ∧ Keep (Sep w wr [rdA aR2 cR2 (ovr n8 V.S i), rowV 40 5 (.slice (some ⟨gM, 0, none⟩) M kM) M (fls (List.replicate M n9)), rdA aR1 cR1 (ovr n9 V.S n), boxA wX4.heap.size (V.cs aZ cZ) 29, rdA aZ cZ V.S, boxA wR2.heap.size (V.cs aR2 cR2) 29, boxA wR1.heap.size (V.cs aR1 cR1) 29, boxA w.heap.size (V.cs a c) 29])) (fun u _ => n - (intOf u).toNat)
                  case atStart => exact ⟨0, by omega, rfl, by rw [ovr_0]; exact HL2⟩
                  case round =>
                    clear HL2 HM HM2 HM3
                    obtain ⟨i, hi, rfl, hrel⟩ := hrel
                    have c15 : wr.cell? ⟨wR2.heap.size, 15, none⟩ = some (.slice aR2 n cR2) := by rw [← HK.out.2.2.2.2]; exact (hrel.out.boxGet mm5).cellv 15 _ rfl
                    by_cases hlt : i < n
                    · have hlt' : (i : Int) < (n : Int) := by omega
                      have hi0 : (0 : Int) ≤ (i : Int) := by omega
                      have hti : ((i : Nat) : Int).toNat = i := by omega
                      have hlS : i < V.S.length := by rw [HK.out.2.2.2.2]; exact hlt
                      have hol : (ovr n8 V.S i).length = n := by rw [ovr_len (by omega), HK.out.2.2.2.2]
                      obtain ⟨b, hb1, hb2, hb3⟩ := hrel.out.rdOpen (by omega)
                      rw [hol] at hb2
                      have HO : Keep (Sep w wr (boxA b (fls (ovr n8 V.S i)) 40 :: [rowV 40 5 (.slice (some ⟨gM, 0, none⟩) M kM) M (fls (List.replicate M n9)), rdA aR1 cR1 (ovr n9 V.S n), boxA wX4.heap.size (V.cs aZ cZ) 29, rdA aZ cZ V.S, boxA wR2.heap.size (V.cs aR2 cR2) 29, boxA wR1.heap.size (V.cs aR1 cR1) 29, boxA w.heap.size (V.cs a c) 29])) := ⟨hb3⟩
                      have HNX : Keep (∀ w6, Sep w w6 (boxA b (over (fls (ovr n8 V.S i)) (i * 5) n8.cs) 40 :: [rowV 40 5 (.slice (some ⟨gM, 0, none⟩) M kM) M (fls (List.replicate M n9)), rdA aR1 cR1 (ovr n9 V.S n), boxA wX4.heap.size (V.cs aZ cZ) 29, rdA aZ cZ V.S, boxA wR2.heap.size (V.cs aR2 cR2) 29, boxA wR1.heap.size (V.cs aR1 cR1) 29, boxA w.heap.size (V.cs a c) 29]) → Sep w w6 [rdA aR2 cR2 (ovr n8 V.S (i + 1)), rowV 40 5 (.slice (some ⟨gM, 0, none⟩) M kM) M (fls (List.replicate M n9)), rdA aR1 cR1 (ovr n9 V.S n), boxA wX4.heap.size (V.cs aZ cZ) 29, rdA aZ cZ V.S, boxA wR2.heap.size (V.cs aR2 cR2) 29, boxA wR1.heap.size (V.cs aR1 cR1) 29, boxA w.heap.size (V.cs a c) 29]) := ⟨fun w6 h => by
                        rw [Nat.mul_comm, fls_set _ _ _ (by omega), ovr_set hlS] at h
                        have h2 := h.rdShut
                        have e : rdA (some ⟨b, 0, none⟩) (ovr n8 V.S (i + 1)).length (ovr n8 V.S (i + 1)) = rdA aR2 cR2 (ovr n8 V.S (i + 1)) := by rw [ovr_len (by omega), HK.out.2.2.2.2, ← hb2, ← hb1]
                        rw [e] at h2
                        exact h2⟩
                      have HFL : Keep ((fls (ovr n8 V.S i)).length = n * 5) := ⟨by rw [fls_len', hol]⟩
                      rw [hb1] at c15
                      clear hb1 hb2 hb3 hol hrel
                      go_wp2_with (first
                        | (with_reducible show wpList _ _ _ ({ dst := some 173, op := Op.build 40 _, type := _, pos := _, after := _, guard := _ } :: _) _ _
                           refine build_g rfl 40 _ rfl _ ((congrArg (Tryz.prog.built 40) (by first | (simp only [List.map_toArray, List.map_cons, List.map_nil, Act.eval]; done) | (simp only [List.map_toArray, List.map_cons, List.map_nil, Act.eval]; with_reducible rfl) | (simp only [List.map_toArray, List.map_cons, List.map_nil, Act.eval]; rfl))).trans blt8) ?_
                           simp only [Act.put, List.setIfInBounds_toArray, List.set_cons_zero, List.set_cons_succ])
                        | (with_reducible show wpList _ _ _ ({ dst := none, op := Op.store 40 _ (Operand.tmp 173), type := _, pos := _, after := _, guard := _ } :: _) _ _
                           refine store_at wr b (i * 5) (fls (ovr n8 V.S i)) n8.cs 40 40 rfl rfl (by first | rfl | (simp; done)) rfl (HO.out.boxGet mm0) (by rw [HFL.out]; show i * 5 + 5 ≤ n * 5; omega) infoSz (sn_one _) ?_
                           intro w6 hS6 g6
                           have HS6 := Keep.mk (HNX.out _ (hS6 _ _ HO.out))
                           clear hS6 g6))
                      clear HO HNX HFL c15
                      go_roundw
                      case rel => exact ⟨i + 1, by omega, by go_num, HS6⟩
                      case measure => simp [intOf]; omega
                    · have hlt' : ¬ (i : Int) < (n : Int) := by omega
                      have hin : i = n := by omega
                      rw [hin] at hrel
                      have hol : (ovr n8 V.S n).length = n := by rw [ovr_len (by rw [HK.out.2.2.2.2]; omega), HK.out.2.2.2.2]
                      obtain ⟨vY, wY, AP, HY0⟩ := Sep.rdApp [n8] (by decide) hrel.out (by rw [hol]; show (n + 1) * 40 ≤ _; omega)
                      rw [hol] at AP
                      obtain ⟨gY, kY, eY2, hq0⟩ := own_any (HY0.rowGet mm0) (by rw [List.length_append]; show 0 < _ + 1; omega)
                      rw [List.length_append, hol, show ([n8] : List Sn).length = 1 from rfl] at eY2
                      subst eY2
                      clear hq0 hol
                      have HY := Keep.mk HY0
                      have cY : wY.cell? ⟨wR2.heap.size, 15, none⟩ = some (.slice aR2 n cR2) := by rw [← HK.out.2.2.2.2]; exact (HY0.boxGet mm6).cellv 15 _ rfl
                      have fY := (HY0.boxGet mm6).frozen 15
                      have HY1 := Keep.mk ((fr1 [_, _, _, _, _, _] HY0).boxPut 15 (.slice (some ⟨gY, 0, none⟩) (n + 1) kY))
                      obtain ⟨wY2, hwY⟩ : ∃ q, wY.setCell ⟨wR2.heap.size, 15, none⟩ (.slice (some ⟨gY, 0, none⟩) (n + 1) kY) = q := ⟨_, rfl⟩
                      rw [hwY] at HY1
                      clear HY0 hrel HY
                      go_wp2_with (first
                        | (with_reducible show wpList _ _ _ ({ dst := some 177, op := Op.build 40 _, type := _, pos := _, after := _, guard := _ } :: _) _ _
                           refine build_g rfl 40 _ rfl _ ((congrArg (Tryz.prog.built 40) (by first | (simp only [List.map_toArray, List.map_cons, List.map_nil, Act.eval]; done) | (simp only [List.map_toArray, List.map_cons, List.map_nil, Act.eval]; with_reducible rfl) | (simp only [List.map_toArray, List.map_cons, List.map_nil, Act.eval]; rfl))).trans blt8) ?_
                           simp only [Act.put, List.setIfInBounds_toArray, List.set_cons_zero, List.set_cons_succ])
                        | (with_reducible show wpList _ _ _ ({ dst := some 178, op := Op.buildSlice 27 1 _, type := _, pos := _, after := _, guard := _ } :: _) _ _
                           refine wpList_bs_all rfl 27 1 _ rfl #[(0, .agg n8.cs.toArray)] (by first | rfl | (simp only [List.map_toArray, List.map_cons, List.map_nil, Act.eval]; done) | (simp only [List.map_toArray, List.map_cons, List.map_nil, Act.eval]; rfl)) (bsOne n8 wr) ?_)
                        | (with_reducible show wpList _ _ _ ({ dst := some 179, op := Op.call { callee := Callee.builtin Builtin.append, args := _, argTypes := _ }, type := _, pos := _, after := _, guard := _ } :: _) _ _
                           refine wpList_append_run _ rfl (.tmp 176) (.tmp 178) 27 rfl _ _ rfl rfl AP ?_))
                      clear AP c15 cY fY hwY
                      have HR0 := fr1 [_, _] HY1.out.tail
                      have HR1 : Keep (Sep w wY2 [boxA w.heap.size (V.cs a c) 29, rowV 40 5 (.slice (some ⟨gM, 0, none⟩) M kM) M (fls (List.replicate M n9))]) := ⟨(fr1 [_, _, _, _, _, _, _] HR0).dropM [_, _] [_, _, _, _, _, _]⟩
                      clear HR0 HY1
                      go_loopw [20] (fun u wr => ∃ i : Nat, i ≤ M ∧ u = .int .i64 i ∧ Keep (Sep w wr [boxA w.heap.size (V.cs a c) 29, rowV 40 5 (.slice (some ⟨gM, 0, none⟩) M kM) M (fls (List.replicate M n9))])) (fun u _ => M - (intOf u).toNat)
                      case atStart => exact ⟨0, by omega, rfl, HR1⟩
                      case round =>
                        clear HR1
                        obtain ⟨i, hi, rfl, hrel⟩ := hrel
                        by_cases hlt : i < M
                        · have hlt' : (i : Int) < (M : Int) := by omega
                          have hi0 : (0 : Int) ≤ (i : Int) := by omega
                          have hti : ((i : Nat) : Int).toNat = i := by omega
                          have c9 : wr.cell? ⟨gM, i * 5, none⟩ = some (.int .i64 9) := snr_range (row_snr hrel.out mm1 (by omega)) (s := n9) (by rw [List.getElem?_replicate, if_pos hlt]) 0 (iv 9) rfl
                          go_wp2_with fail
                          clear c9
                          go_roundw
                          case rel => exact ⟨i + 1, by omega, by go_num, hrel⟩
                          case measure => simp [intOf]; omega
                        · have hlt' : ¬ (i : Int) < (M : Int) := by omega
                          go_wp2_with fail
                          have R9 := read_c sW wr
                          rw [HRD.out] at R9
                          refine R9.mono ?_
                          rintro e wR9 ⟨aR9, cR9, rfl, RR9⟩
                          have HR9 := Keep.mk (hrel.out.rdNew RR9)
                          clear R9 RR9
                          go_wp2_with (first
                            | (with_reducible show wpList _ _ _ ({ dst := none, op := Op.store 29 (Operand.tmp 21) _, type := _, pos := _, after := _, guard := _ } :: _) _ _
                               refine st_new wR9 (V.cs aR9 cR9) 29 rfl rfl rfl rfl rfl infoV (vw_one _ _ _) ?_
                               intro wX9 h6 g6
                               have HX9 := Keep.mk (HR9.out.addBox h6 g6)
                               clear h6 g6)
                            | (with_reducible show wpList _ _ _ ({ dst := _, op := Op.load 29 (Operand.tmp 21), type := _, pos := _, after := _, guard := _ } :: _) _ _
                               refine load_g rfl 29 _ rfl (wR9.heap.size) 0 rfl (V.cs aR9 cR9) d (HX9.out.boxGet mm0).range hd hrw infoV ?_)
                            | (with_reducible show wpList _ _ _ ({ dst := _, op := Op.load 29 (Operand.tmp 1), type := _, pos := _, after := _, guard := _ } :: _) _ _
                               refine load_g rfl 29 _ rfl (w.heap.size) 0 rfl (V.cs a c) d (HX9.out.boxGet mm2).range hd hrw infoV ?_))
                          refine (same_c V V aR9 a cR9 c wX9 (HX9.out.rdSeen mm1) (HK.out.2.2.1.kept HX9.out.g) (by have := HK.out.2.2.2.1; omega)).mono ?_
                          rintro e wE ⟨b, rfl, hb, g6⟩
                          obtain rfl : b = true := hb.2 rfl
                          have HE := Keep.mk (HX9.out.grown g6)
                          clear hb g6
                          go_wp2_with fail
                          go_ret
                          exact ⟨rfl, HE.out.g⟩
            · have hem' : (eM == 0) = false := by simp [hem]
              go_wp2_with (first
                | (with_reducible show wpList _ _ _ ({ dst := _, op := Op.load 29 (Operand.tmp 14), type := _, pos := _, after := _, guard := _ } :: _) _ _
                   refine load_g rfl 29 _ rfl (wR2.heap.size) 0 rfl (V.cs aR2 cR2) d (HX4.out.boxGet mm0).range hd hrw infoV ?_)
                | (with_reducible show wpList _ _ _ ({ dst := none, op := Op.store 29 (Operand.tmp 16) _, type := _, pos := _, after := _, guard := _ } :: _) _ _
                   refine st_new wX4 (V.cs aR2 cR2) 29 rfl rfl rfl rfl rfl infoV (vw_one _ _ _) ?_
                   intro wZ1 h6 g6
                   have HZ1 := Keep.mk (HX4.out.addBox h6 g6)
                   clear h6 g6))
              have HL1 := Keep.mk (fr1 [_, _, _, _] HZ1.out)
              replace HL1 : Keep (Sep w _ [rdA aR1 cR1 V.S, boxA wX4.heap.size (V.cs aR2 cR2) 29, boxA wR2.heap.size (V.cs aR2 cR2) 29, rdA aR2 cR2 V.S, boxA wR1.heap.size (V.cs aR1 cR1) 29, boxA w.heap.size (V.cs a c) 29]) := HL1
              go_loopw [17] (fun u wr => ∃ i : Nat, i ≤ n ∧ u = .int .i64 i ∧ Keep (Sep w wr [rdA aR1 cR1 (ovr n9 V.S i), boxA wX4.heap.size (V.cs aR2 cR2) 29, boxA wR2.heap.size (V.cs aR2 cR2) 29, rdA aR2 cR2 V.S, boxA wR1.heap.size (V.cs aR1 cR1) 29, boxA w.heap.size (V.cs a c) 29])) (fun u _ => n - (intOf u).toNat)
              case atStart => exact ⟨0, by omega, rfl, by rw [ovr_0]; exact HL1⟩
              case round =>
                clear HL1 HZ1 HX4
                obtain ⟨i, hi, rfl, hrel⟩ := hrel
                have c15 : wr.cell? ⟨wR1.heap.size, 15, none⟩ = some (.slice aR1 n cR1) := by rw [← HK.out.2.2.2.2]; exact (hrel.out.boxGet mm4).cellv 15 _ rfl
                by_cases hlt : i < n
                · have hlt' : (i : Int) < (n : Int) := by omega
                  have hi0 : (0 : Int) ≤ (i : Int) := by omega
                  have hti : ((i : Nat) : Int).toNat = i := by omega
                  have hlS : i < V.S.length := by rw [HK.out.2.2.2.2]; exact hlt
                  have hol : (ovr n9 V.S i).length = n := by rw [ovr_len (by omega), HK.out.2.2.2.2]
                  obtain ⟨b, hb1, hb2, hb3⟩ := hrel.out.rdOpen (by omega)
                  rw [hol] at hb2
                  have HO : Keep (Sep w wr (boxA b (fls (ovr n9 V.S i)) 40 :: [boxA wX4.heap.size (V.cs aR2 cR2) 29, boxA wR2.heap.size (V.cs aR2 cR2) 29, rdA aR2 cR2 V.S, boxA wR1.heap.size (V.cs aR1 cR1) 29, boxA w.heap.size (V.cs a c) 29])) := ⟨hb3⟩
                  have HNX : Keep (∀ w6, Sep w w6 (boxA b (over (fls (ovr n9 V.S i)) (i * 5) n9.cs) 40 :: [boxA wX4.heap.size (V.cs aR2 cR2) 29, boxA wR2.heap.size (V.cs aR2 cR2) 29, rdA aR2 cR2 V.S, boxA wR1.heap.size (V.cs aR1 cR1) 29, boxA w.heap.size (V.cs a c) 29]) → Sep w w6 [rdA aR1 cR1 (ovr n9 V.S (i + 1)), boxA wX4.heap.size (V.cs aR2 cR2) 29, boxA wR2.heap.size (V.cs aR2 cR2) 29, rdA aR2 cR2 V.S, boxA wR1.heap.size (V.cs aR1 cR1) 29, boxA w.heap.size (V.cs a c) 29]) := ⟨fun w6 h => by
                    rw [Nat.mul_comm, fls_set _ _ _ (by omega), ovr_set hlS] at h
                    have h2 := h.rdShut
                    have e : rdA (some ⟨b, 0, none⟩) (ovr n9 V.S (i + 1)).length (ovr n9 V.S (i + 1)) = rdA aR1 cR1 (ovr n9 V.S (i + 1)) := by rw [ovr_len (by omega), HK.out.2.2.2.2, ← hb2, ← hb1]
                    rw [e] at h2
                    exact h2⟩
                  have HFL : Keep ((fls (ovr n9 V.S i)).length = n * 5) := ⟨by rw [fls_len', hol]⟩
                  rw [hb1] at c15
                  clear hb1 hb2 hb3 hol hrel
                  go_wp2_with (first
                    | (with_reducible show wpList _ _ _ ({ dst := some 145, op := Op.build 40 _, type := _, pos := _, after := _, guard := _ } :: _) _ _
                       refine build_g rfl 40 _ rfl _ ((congrArg (Tryz.prog.built 40) (by first | (simp only [List.map_toArray, List.map_cons, List.map_nil, Act.eval]; done) | (simp only [List.map_toArray, List.map_cons, List.map_nil, Act.eval]; with_reducible rfl) | (simp only [List.map_toArray, List.map_cons, List.map_nil, Act.eval]; rfl))).trans blt9) ?_
                       simp only [Act.put, List.setIfInBounds_toArray, List.set_cons_zero, List.set_cons_succ])
                    | (with_reducible show wpList _ _ _ ({ dst := none, op := Op.store 40 _ (Operand.tmp 145), type := _, pos := _, after := _, guard := _ } :: _) _ _
                       refine store_at wr b (i * 5) (fls (ovr n9 V.S i)) n9.cs 40 40 rfl rfl (by first | rfl | (simp; done)) rfl (HO.out.boxGet mm0) (by rw [HFL.out]; show i * 5 + 5 ≤ n * 5; omega) infoSz (sn_one _) ?_
                       intro w6 hS6 g6
                       have HS6 := Keep.mk (HNX.out _ (hS6 _ _ HO.out))
                       clear hS6 g6))
                  clear HO HNX HFL c15
                  go_roundw
                  case rel => exact ⟨i + 1, by omega, by go_num, HS6⟩
                  case measure => simp [intOf]; omega
                · have hlt' : ¬ (i : Int) < (n : Int) := by omega
                  have hin : i = n := by omega
                  rw [hin] at hrel
                  have hol : (ovr n9 V.S n).length = n := by rw [ovr_len (by rw [HK.out.2.2.2.2]; omega), HK.out.2.2.2.2]
                  obtain ⟨vM, wM, AP, HM0⟩ := Sep.rdApp [n9, n9] (by decide) hrel.out (by rw [hol]; show (n + 2) * 40 ≤ _; omega)
                  rw [hol] at AP
                  rw [reps n9 n V.S HK.out.2.2.2.2] at HM0
                  obtain ⟨gM, kM, eM2, hq0⟩ := own_any (HM0.rowGet mm0) (by rw [List.length_replicate]; omega)
                  rw [List.length_replicate] at eM2
                  subst eM2
                  clear hq0 hol
                  obtain ⟨M, hM⟩ : ∃ M, n + 2 = M := ⟨_, rfl⟩
                  rw [List.length_replicate, hM] at HM0
                  rw [hM] at AP
                  have HM := Keep.mk HM0
                  clear HM0 hrel
                  go_wp2_with (first
                    | (with_reducible show wpList _ _ _ ({ dst := some 149, op := Op.build 40 _, type := _, pos := _, after := _, guard := _ } :: _) _ _
                       refine build_g rfl 40 _ rfl _ ((congrArg (Tryz.prog.built 40) (by first | (simp only [List.map_toArray, List.map_cons, List.map_nil, Act.eval]; done) | (simp only [List.map_toArray, List.map_cons, List.map_nil, Act.eval]; with_reducible rfl) | (simp only [List.map_toArray, List.map_cons, List.map_nil, Act.eval]; rfl))).trans blt9) ?_
                       simp only [Act.put, List.setIfInBounds_toArray, List.set_cons_zero, List.set_cons_succ])
                    | (with_reducible show wpList _ _ _ ({ dst := some 150, op := Op.build 40 _, type := _, pos := _, after := _, guard := _ } :: _) _ _
                       refine build_g rfl 40 _ rfl _ ((congrArg (Tryz.prog.built 40) (by first | (simp only [List.map_toArray, List.map_cons, List.map_nil, Act.eval]; done) | (simp only [List.map_toArray, List.map_cons, List.map_nil, Act.eval]; with_reducible rfl) | (simp only [List.map_toArray, List.map_cons, List.map_nil, Act.eval]; rfl))).trans blt9) ?_
                       simp only [Act.put, List.setIfInBounds_toArray, List.set_cons_zero, List.set_cons_succ])
                    | (with_reducible show wpList _ _ _ ({ dst := some 151, op := Op.buildSlice 27 2 _, type := _, pos := _, after := _, guard := _ } :: _) _ _
                       refine wpList_bs_all rfl 27 2 _ rfl #[(0, .agg n9.cs.toArray), (1, .agg n9.cs.toArray)] (by first | rfl | (simp only [List.map_toArray, List.map_cons, List.map_nil, Act.eval]; done) | (simp only [List.map_toArray, List.map_cons, List.map_nil, Act.eval]; rfl)) (bsTwo n9 n9 wr) ?_)
                    | (with_reducible show wpList _ _ _ ({ dst := some 152, op := Op.call { callee := Callee.builtin Builtin.append, args := _, argTypes := _ }, type := _, pos := _, after := _, guard := _ } :: _) _ _
                       refine wpList_append_run _ rfl (.tmp 148) (.tmp 151) 27 rfl _ _ rfl rfl AP ?_)
                    | (with_reducible show wpList _ _ _ ({ dst := _, op := Op.load 29 (Operand.tmp 14), type := _, pos := _, after := _, guard := _ } :: _) _ _
                       refine load_g rfl 29 _ rfl (wR2.heap.size) 0 rfl (V.cs aR2 cR2) d (HM.out.boxGet mm3).range hd hrw infoV ?_)
                    | (with_reducible show wpList _ _ _ ({ dst := _, op := Op.load 29 (Operand.tmp 1), type := _, pos := _, after := _, guard := _ } :: _) _ _
                       refine load_g rfl 29 _ rfl (w.heap.size) 0 rfl (V.cs a c) d (HM.out.boxGet mm6).range hd hrw infoV ?_))
                  clear AP c15
                  replace HM : Keep (Sep w wM [rowV 40 5 (.slice (some ⟨gM, 0, none⟩) M kM) M (fls (List.replicate M n9)), rdA aR1 cR1 (ovr n9 V.S n), boxA wX4.heap.size (V.cs aR2 cR2) 29, boxA wR2.heap.size (V.cs aR2 cR2) 29, rdA aR2 cR2 V.S, boxA wR1.heap.size (V.cs aR1 cR1) 29, boxA w.heap.size (V.cs a c) 29]) := HM
                  refine (same_c V V aR2 a cR2 c wM (HM.out.rdSeen mm4) (HK.out.2.2.1.kept HM.out.g) (by have := HK.out.2.2.2.1; omega)).mono ?_
                  rintro e wM2 ⟨b, rfl, hb, g6⟩
                  obtain rfl : b = true := hb.2 rfl
                  have HM2 := Keep.mk (HM.out.grown g6)
                  clear hb g6
                  go_wp2_with (first
                    | (with_reducible show wpList _ _ _ ({ dst := _, op := Op.load 29 (Operand.tmp 16), type := _, pos := _, after := _, guard := _ } :: _) _ _
                       refine load_g rfl 29 _ rfl (wX4.heap.size) 0 rfl (V.cs aR2 cR2) d (HM2.out.boxGet mm2).range hd hrw infoV ?_)
                    | (with_reducible show wpList _ _ _ ({ dst := _, op := Op.load 29 (Operand.tmp 1), type := _, pos := _, after := _, guard := _ } :: _) _ _
                       refine load_g rfl 29 _ rfl (w.heap.size) 0 rfl (V.cs a c) d (HM2.out.boxGet mm6).range hd hrw infoV ?_))
                  refine (same_c V V aR2 a cR2 c wM2 (HM2.out.rdSeen mm4) (HK.out.2.2.1.kept HM2.out.g) (by have := HK.out.2.2.2.1; omega)).mono ?_
                  rintro e wM3 ⟨b, rfl, hb, g6⟩
                  obtain rfl : b = true := hb.2 rfl
                  have HM3 := Keep.mk (HM2.out.grown g6)
                  clear hb g6
                  go_wp2_with fail
                  replace HM3 : Keep (Sep w wM3 [rowV 40 5 (.slice (some ⟨gM, 0, none⟩) M kM) M (fls (List.replicate M n9)), rdA aR1 cR1 (ovr n9 V.S n), boxA wX4.heap.size (V.cs aR2 cR2) 29, boxA wR2.heap.size (V.cs aR2 cR2) 29, rdA aR2 cR2 V.S, boxA wR1.heap.size (V.cs aR1 cR1) 29, boxA w.heap.size (V.cs a c) 29]) := HM3
                  have HL2 := Keep.mk (fr1 [_, _, _, _] HM3.out)
                  replace HL2 : Keep (Sep w _ [rdA aR2 cR2 V.S, rowV 40 5 (.slice (some ⟨gM, 0, none⟩) M kM) M (fls (List.replicate M n9)), rdA aR1 cR1 (ovr n9 V.S n), boxA wX4.heap.size (V.cs aR2 cR2) 29, boxA wR2.heap.size (V.cs aR2 cR2) 29, boxA wR1.heap.size (V.cs aR1 cR1) 29, boxA w.heap.size (V.cs a c) 29]) := HL2
                  go_loopw [19] (fun u wr => ∃ i : Nat, i ≤ n ∧ u = .int .i64 i ∧ Keep (Sep w wr [rdA aR2 cR2 (ovr n8 V.S i), rowV 40 5 (.slice (some ⟨gM, 0, none⟩) M kM) M (fls (List.replicate M n9)), rdA aR1 cR1 (ovr n9 V.S n), boxA wX4.heap.size (V.cs aR2 cR2) 29, boxA wR2.heap.size (V.cs aR2 cR2) 29, boxA wR1.heap.size (V.cs aR1 cR1) 29, boxA w.heap.size (V.cs a c) 29])) (fun u _ => n - (intOf u).toNat)
                  case atStart => exact ⟨0, by omega, rfl, by rw [ovr_0]; exact HL2⟩
                  case round =>
                    clear HL2 HM HM2 HM3
                    obtain ⟨i, hi, rfl, hrel⟩ := hrel
                    have c15 : wr.cell? ⟨wR2.heap.size, 15, none⟩ = some (.slice aR2 n cR2) := by rw [← HK.out.2.2.2.2]; exact (hrel.out.boxGet mm4).cellv 15 _ rfl
                    by_cases hlt : i < n
                    · have hlt' : (i : Int) < (n : Int) := by omega
                      have hi0 : (0 : Int) ≤ (i : Int) := by omega
                      have hti : ((i : Nat) : Int).toNat = i := by omega
                      have hlS : i < V.S.length := by rw [HK.out.2.2.2.2]; exact hlt
                      have hol : (ovr n8 V.S i).length = n := by rw [ovr_len (by omega), HK.out.2.2.2.2]
                      obtain ⟨b, hb1, hb2, hb3⟩ := hrel.out.rdOpen (by omega)
                      rw [hol] at hb2
                      have HO : Keep (Sep w wr (boxA b (fls (ovr n8 V.S i)) 40 :: [rowV 40 5 (.slice (some ⟨gM, 0, none⟩) M kM) M (fls (List.replicate M n9)), rdA aR1 cR1 (ovr n9 V.S n), boxA wX4.heap.size (V.cs aR2 cR2) 29, boxA wR2.heap.size (V.cs aR2 cR2) 29, boxA wR1.heap.size (V.cs aR1 cR1) 29, boxA w.heap.size (V.cs a c) 29])) := ⟨hb3⟩
                      have HNX : Keep (∀ w6, Sep w w6 (boxA b (over (fls (ovr n8 V.S i)) (i * 5) n8.cs) 40 :: [rowV 40 5 (.slice (some ⟨gM, 0, none⟩) M kM) M (fls (List.replicate M n9)), rdA aR1 cR1 (ovr n9 V.S n), boxA wX4.heap.size (V.cs aR2 cR2) 29, boxA wR2.heap.size (V.cs aR2 cR2) 29, boxA wR1.heap.size (V.cs aR1 cR1) 29, boxA w.heap.size (V.cs a c) 29]) → Sep w w6 [rdA aR2 cR2 (ovr n8 V.S (i + 1)), rowV 40 5 (.slice (some ⟨gM, 0, none⟩) M kM) M (fls (List.replicate M n9)), rdA aR1 cR1 (ovr n9 V.S n), boxA wX4.heap.size (V.cs aR2 cR2) 29, boxA wR2.heap.size (V.cs aR2 cR2) 29, boxA wR1.heap.size (V.cs aR1 cR1) 29, boxA w.heap.size (V.cs a c) 29]) := ⟨fun w6 h => by
                        rw [Nat.mul_comm, fls_set _ _ _ (by omega), ovr_set hlS] at h
                        have h2 := h.rdShut
                        have e : rdA (some ⟨b, 0, none⟩) (ovr n8 V.S (i + 1)).length (ovr n8 V.S (i + 1)) = rdA aR2 cR2 (ovr n8 V.S (i + 1)) := by rw [ovr_len (by omega), HK.out.2.2.2.2, ← hb2, ← hb1]
                        rw [e] at h2
                        exact h2⟩
                      have HFL : Keep ((fls (ovr n8 V.S i)).length = n * 5) := ⟨by rw [fls_len', hol]⟩
                      rw [hb1] at c15
                      clear hb1 hb2 hb3 hol hrel
                      go_wp2_with (first
                        | (with_reducible show wpList _ _ _ ({ dst := some 173, op := Op.build 40 _, type := _, pos := _, after := _, guard := _ } :: _) _ _
                           refine build_g rfl 40 _ rfl _ ((congrArg (Tryz.prog.built 40) (by first | (simp only [List.map_toArray, List.map_cons, List.map_nil, Act.eval]; done) | (simp only [List.map_toArray, List.map_cons, List.map_nil, Act.eval]; with_reducible rfl) | (simp only [List.map_toArray, List.map_cons, List.map_nil, Act.eval]; rfl))).trans blt8) ?_
                           simp only [Act.put, List.setIfInBounds_toArray, List.set_cons_zero, List.set_cons_succ])
                        | (with_reducible show wpList _ _ _ ({ dst := none, op := Op.store 40 _ (Operand.tmp 173), type := _, pos := _, after := _, guard := _ } :: _) _ _
                           refine store_at wr b (i * 5) (fls (ovr n8 V.S i)) n8.cs 40 40 rfl rfl (by first | rfl | (simp; done)) rfl (HO.out.boxGet mm0) (by rw [HFL.out]; show i * 5 + 5 ≤ n * 5; omega) infoSz (sn_one _) ?_
                           intro w6 hS6 g6
                           have HS6 := Keep.mk (HNX.out _ (hS6 _ _ HO.out))
                           clear hS6 g6))
                      clear HO HNX HFL c15
                      go_roundw
                      case rel => exact ⟨i + 1, by omega, by go_num, HS6⟩
                      case measure => simp [intOf]; omega
                    · have hlt' : ¬ (i : Int) < (n : Int) := by omega
                      have hin : i = n := by omega
                      rw [hin] at hrel
                      have hol : (ovr n8 V.S n).length = n := by rw [ovr_len (by rw [HK.out.2.2.2.2]; omega), HK.out.2.2.2.2]
                      obtain ⟨vY, wY, AP, HY0⟩ := Sep.rdApp [n8] (by decide) hrel.out (by rw [hol]; show (n + 1) * 40 ≤ _; omega)
                      rw [hol] at AP
                      obtain ⟨gY, kY, eY2, hq0⟩ := own_any (HY0.rowGet mm0) (by rw [List.length_append]; show 0 < _ + 1; omega)
                      rw [List.length_append, hol, show ([n8] : List Sn).length = 1 from rfl] at eY2
                      subst eY2
                      clear hq0 hol
                      have HY := Keep.mk HY0
                      have cY : wY.cell? ⟨wR2.heap.size, 15, none⟩ = some (.slice aR2 n cR2) := by rw [← HK.out.2.2.2.2]; exact (HY0.boxGet mm5).cellv 15 _ rfl
                      have fY := (HY0.boxGet mm5).frozen 15
                      have HY1 := Keep.mk ((fr1 [_, _, _, _, _] HY0).boxPut 15 (.slice (some ⟨gY, 0, none⟩) (n + 1) kY))
                      obtain ⟨wY2, hwY⟩ : ∃ q, wY.setCell ⟨wR2.heap.size, 15, none⟩ (.slice (some ⟨gY, 0, none⟩) (n + 1) kY) = q := ⟨_, rfl⟩
                      rw [hwY] at HY1
                      clear HY0 hrel HY
                      go_wp2_with (first
                        | (with_reducible show wpList _ _ _ ({ dst := some 177, op := Op.build 40 _, type := _, pos := _, after := _, guard := _ } :: _) _ _
                           refine build_g rfl 40 _ rfl _ ((congrArg (Tryz.prog.built 40) (by first | (simp only [List.map_toArray, List.map_cons, List.map_nil, Act.eval]; done) | (simp only [List.map_toArray, List.map_cons, List.map_nil, Act.eval]; with_reducible rfl) | (simp only [List.map_toArray, List.map_cons, List.map_nil, Act.eval]; rfl))).trans blt8) ?_
                           simp only [Act.put, List.setIfInBounds_toArray, List.set_cons_zero, List.set_cons_succ])
                        | (with_reducible show wpList _ _ _ ({ dst := some 178, op := Op.buildSlice 27 1 _, type := _, pos := _, after := _, guard := _ } :: _) _ _
                           refine wpList_bs_all rfl 27 1 _ rfl #[(0, .agg n8.cs.toArray)] (by first | rfl | (simp only [List.map_toArray, List.map_cons, List.map_nil, Act.eval]; done) | (simp only [List.map_toArray, List.map_cons, List.map_nil, Act.eval]; rfl)) (bsOne n8 wr) ?_)
                        | (with_reducible show wpList _ _ _ ({ dst := some 179, op := Op.call { callee := Callee.builtin Builtin.append, args := _, argTypes := _ }, type := _, pos := _, after := _, guard := _ } :: _) _ _
                           refine wpList_append_run _ rfl (.tmp 176) (.tmp 178) 27 rfl _ _ rfl rfl AP ?_))
                      clear AP c15 cY fY hwY
                      have HR0 := fr1 [_, _] HY1.out.tail
                      have HR1 : Keep (Sep w wY2 [boxA w.heap.size (V.cs a c) 29, rowV 40 5 (.slice (some ⟨gM, 0, none⟩) M kM) M (fls (List.replicate M n9))]) := ⟨(fr1 [_, _, _, _, _, _] HR0).dropM [_, _] [_, _, _, _, _]⟩
                      clear HR0 HY1
                      go_loopw [20] (fun u wr => ∃ i : Nat, i ≤ M ∧ u = .int .i64 i ∧ Keep (Sep w wr [boxA w.heap.size (V.cs a c) 29, rowV 40 5 (.slice (some ⟨gM, 0, none⟩) M kM) M (fls (List.replicate M n9))])) (fun u _ => M - (intOf u).toNat)
                      case atStart => exact ⟨0, by omega, rfl, HR1⟩
                      case round =>
                        clear HR1
                        obtain ⟨i, hi, rfl, hrel⟩ := hrel
                        by_cases hlt : i < M
                        · have hlt' : (i : Int) < (M : Int) := by omega
                          have hi0 : (0 : Int) ≤ (i : Int) := by omega
                          have hti : ((i : Nat) : Int).toNat = i := by omega
                          have c9 : wr.cell? ⟨gM, i * 5, none⟩ = some (.int .i64 9) := snr_range (row_snr hrel.out mm1 (by omega)) (s := n9) (by rw [List.getElem?_replicate, if_pos hlt]) 0 (iv 9) rfl
                          go_wp2_with fail
                          clear c9
                          go_roundw
                          case rel => exact ⟨i + 1, by omega, by go_num, hrel⟩
                          case measure => simp [intOf]; omega
                        · have hlt' : ¬ (i : Int) < (M : Int) := by omega
                          go_wp2_with fail
                          have R9 := read_c sW wr
                          rw [HRD.out] at R9
                          refine R9.mono ?_
                          rintro e wR9 ⟨aR9, cR9, rfl, RR9⟩
                          have HR9 := Keep.mk (hrel.out.rdNew RR9)
                          clear R9 RR9
                          go_wp2_with (first
                            | (with_reducible show wpList _ _ _ ({ dst := none, op := Op.store 29 (Operand.tmp 21) _, type := _, pos := _, after := _, guard := _ } :: _) _ _
                               refine st_new wR9 (V.cs aR9 cR9) 29 rfl rfl rfl rfl rfl infoV (vw_one _ _ _) ?_
                               intro wX9 h6 g6
                               have HX9 := Keep.mk (HR9.out.addBox h6 g6)
                               clear h6 g6)
                            | (with_reducible show wpList _ _ _ ({ dst := _, op := Op.load 29 (Operand.tmp 21), type := _, pos := _, after := _, guard := _ } :: _) _ _
                               refine load_g rfl 29 _ rfl (wR9.heap.size) 0 rfl (V.cs aR9 cR9) d (HX9.out.boxGet mm0).range hd hrw infoV ?_)
                            | (with_reducible show wpList _ _ _ ({ dst := _, op := Op.load 29 (Operand.tmp 1), type := _, pos := _, after := _, guard := _ } :: _) _ _
                               refine load_g rfl 29 _ rfl (w.heap.size) 0 rfl (V.cs a c) d (HX9.out.boxGet mm2).range hd hrw infoV ?_))
                          refine (same_c V V aR9 a cR9 c wX9 (HX9.out.rdSeen mm1) (HK.out.2.2.1.kept HX9.out.g) (by have := HK.out.2.2.2.1; omega)).mono ?_
                          rintro e wE ⟨b, rfl, hb, g6⟩
                          obtain rfl : b = true := hb.2 rfl
                          have HE := Keep.mk (HX9.out.grown g6)
                          clear hb g6
                          go_wp2_with fail
                          go_ret
                          exact ⟨rfl, HE.out.g⟩
          · obtain ⟨rfl, rfl⟩ := HMF.out.1 heq
            have hq : (eW != 0) = true := by simp [heq]
            have hnob : nob.toList = [] := by kernel_rfl
            go_wp2_with fail
            go_ret
            exact ⟨rfl, HSX.out.g⟩
end Go.Proofs.YtkdjcknikhgfkaaGreatDoor.Pk.Sn
