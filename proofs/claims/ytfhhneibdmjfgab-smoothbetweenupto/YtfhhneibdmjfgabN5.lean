/- SmoothBetween: the walk -/
import Derived.Test.YtfhhneibdmjfgabN1
import Derived.Test.YtfhhneibdmjfgabN4b
namespace Go.Proofs.Ytfhhneibdmjfgab
open Go Go.RowKit Go.Maps Sm
set_option maxRecDepth 100000
attribute [local go_sem] run_store_fl
set_option maxHeartbeats 64000000 in
theorem sbetween_c (W0 : World) (x y : Vw) (t : Nat) (hx : OkV W0 x) (hy : OkV W0 y) :
    Calls Try.prog 3 #[.agg (vwA x.tk x.c x.v), .agg (vwA y.tk y.c y.v), fv t] W0 fun e w' => e = .returned (.bool true) ∧ W0.grownBy w' none := by
  have HX := Keep.mk hx
  have HY := Keep.mk hy
  have HO : Keep (x.v.oneCell' = true ∧ y.v.oneCell' = true) := ⟨hx.r.one, hy.r.one⟩
  clear hx hy
  have HS := Keep.mk (((Sep.nil W0).newBox (vwA x.tk x.c x.v) 29).newBox (vwA y.tk y.c y.v) 29)
  simp only [World.size_alloc] at HS
  go_enter Try.func3, Try.ntmps3
  go_wp2_with fail
  obtain ⟨xb, hxb⟩ : ∃ xb, W0.heap.size = xb := ⟨_, rfl⟩
  obtain ⟨yb, hyb⟩ : ∃ yb, xb + 1 = yb := ⟨_, rfl⟩
  rw [hxb, hyb] at HS
  try rw [hxb]
  try rw [hyb]
  clear hxb hyb
  generalize (W0.alloc (.cells (vwA x.tk x.c x.v) 29)).alloc (.cells (vwA y.tk y.c y.v) 29) = W1 at HS ⊢
  refine (alive_c W1).mono ?_
  rintro e W2 ⟨rfl, g⟩
  have HS2 : Keep (Sep W0 W2 [boxA yb (vwv y) 29, boxA xb (vwv x) 29]) := ⟨HS.out.grown g⟩
  have HRA := Keep.mk ((HS2.out.boxGet k1m).range)
  have HRB := Keep.mk ((HS2.out.boxGet k0m).range)
  have HB32 := Keep.mk (built32 x y)
  obtain ⟨du9, hdu9, hdr9⟩ := und29
  have h1v : ∀ u ∈ vwv x ++ vwv y, u.oneCell' = true := fun u hu => by
    rcases List.mem_append.1 hu with h | h
    · exact vwL_one HO.out.1 u h
    · exact vwL_one HO.out.2 u h
  clear HS g
  go_wp2_with (first
    | (show wpList _ _ _ ({ dst := some 19, op := Op.load 29 (Operand.tmp 3), type := _, pos := _, after := _, guard := _ } :: _) _ _; refine load_g (by rfl) 29 (.tmp 3) rfl xb 0 rfl (vwv x) du9 (HRA.out) hdu9 hdr9 info29 ?_)
    | (show wpList _ _ _ ({ dst := some 20, op := Op.load 29 (Operand.tmp 4), type := _, pos := _, after := _, guard := _ } :: _) _ _; refine load_g (by rfl) 29 (.tmp 4) rfl yb 0 rfl (vwv y) du9 (HRB.out) hdu9 hdr9 info29 ?_)
    | (with_reducible show wpList _ _ _ ({ dst := some 21, op := Op.build 32 _, type := _, pos := _, after := _, guard := _ } :: _) _ _
       refine wpList_build rfl 32 _ rfl (vwv x ++ vwv y).toArray ((congrArg (Try.prog.built 32) (by first | (simp only [List.map_toArray, List.map_cons, List.map_nil, Act.eval]; done) | (simp only [List.map_toArray, List.map_cons, List.map_nil, Act.eval]; with_reducible rfl) | (simp only [List.map_toArray, List.map_cons, List.map_nil, Act.eval]; rfl))).trans HB32.out) ?_
       simp only [Act.put, List.setIfInBounds_toArray, List.set_cons_zero, List.set_cons_succ])
    | (with_reducible show wpList _ _ _ ({ dst := _, op := Op.store 32 _ _, type := _, pos := _, after := _, guard := _ } :: _) _ _
       refine store_new W2 (vwv x ++ vwv y) 32 rfl rfl rfl rfl rfl info32 (h1v) ?_))
  intro W3 hS3 g3
  have S3 := (hS3 _ _ HS2.out).dropM [_] [_, _]
  obtain ⟨lb, hlb⟩ : ∃ b, W2.heap.size = b := ⟨_, rfl⟩
  rw [hlb] at S3
  try rw [hlb]
  have HS3 : Keep (Sep W0 W3 [boxA lb (vwv x ++ vwv y) 32]) := ⟨S3⟩
  clear S3 hS3 g3 HS2 HRA HRB HB32 h1v hlb
  go_wp2_with fail
  go_loopw [8] (fun u wr => ∃ i : Nat, i ≤ 2 ∧ u = iv i ∧ Keep (Sep W0 wr [boxA lb (vwv x ++ vwv y) 32])) (fun u _ => (2 - intOf u).toNat)
  case atStart => exact ⟨0, by omega, rfl, HS3⟩
  case round =>
    clear HS3
    obtain ⟨i, hi, rfl, HS⟩ := hrel
    as_aux_lemma =>
      by_cases hli : i < 2
      · have hi0 : (0 : Int) ≤ (i : Int) := by omega
        have hi1 : (i : Int) < 2 := by omega
        have hti : ((i : Nat) : Int).toNat = i := by omega
        have hwi : IntKind.i64.wrap ((i : Int) + 1) = ((i + 1 : Nat) : Int) := by rw [wi _ (by omega) (by omega)]; omega
        obtain ⟨X, hXo, hXr⟩ := pick2 HX.out HY.out hli lb
        have HXo := Keep.mk hXo
        have HXr := Keep.mk hXr
        clear hXo hXr
        go_wp2_with fail
        go_loopw [9] (fun u wr => ∃ k : Nat, k ≤ 2 ∧ u = iv k ∧ Keep (Sep W0 wr [boxA lb (vwv x ++ vwv y) 32])) (fun u _ => (2 - intOf u).toNat)
        case atStart => exact ⟨0, by omega, rfl, HS⟩
        case round =>
          clear HS
          obtain ⟨k, hk, rfl, HS⟩ := hrel
          as_aux_lemma =>
            by_cases hlk : k < 2
            · have hk0 : (0 : Int) ≤ (k : Int) := by omega
              have hk1 : (k : Int) < 2 := by omega
              have htk : ((k : Nat) : Int).toNat = k := by omega
              have hwk : IntKind.i64.wrap ((k : Int) + 1) = ((k + 1 : Nat) : Int) := by rw [wi _ (by omega) (by omega)]; omega
              obtain ⟨Y, hYo, hYr⟩ := pick2 HX.out HY.out hlk lb
              have HYo := Keep.mk hYo
              have HYr := Keep.mk hYr
              clear hYo hYr
              obtain ⟨n, hn⟩ : ∃ n, X.L.length = n := ⟨_, rfl⟩
              obtain ⟨m, hm⟩ : ∃ n, Y.L.length = n := ⟨_, rfl⟩
              have HNM : Keep (X.L.length = n ∧ Y.L.length = m) := ⟨hn, hm⟩
              have HNB : Keep (n ≤ 1048576 ∧ m ≤ 1048576) := ⟨by rw [← hn]; exact HXo.out.n, by rw [← hm]; exact HYo.out.n⟩
              have HRX := Keep.mk (HXr.out wr (HS.out.boxGet k0m))
              go_wp2_with (show wpList _ _ _ ({ dst := some 32, op := Op.load 29 (Operand.tmp 31), type := _, pos := _, after := _, guard := _ } :: _) _ _; refine load_g (by rfl) 29 (.tmp 31) rfl lb (i * 16) rfl (vwv X) du9 (HRX.out) hdu9 hdr9 info29 ?_)
              refine (lent_c wr X.tk X.c X.v X.L (HXo.out.r.kept HS.out.1) HXo.out.n).mono ?_
              rintro e W1 ⟨gx, kx, rfl, S1⟩
              rw [hn] at S1 ⊢
              have HS1 : Keep (Sep W0 W1 (rowV 39 5 (.slice (some ⟨gx, 0, none⟩) (n + 1) kx) (n + 1) (sns (X.L ++ [rm])) :: [boxA lb (vwv x ++ vwv y) 32])) := ⟨Sep.merge HS.out S1⟩
              clear S1 HS HRX
              have HRY := Keep.mk (HYr.out W1 (HS1.out.boxGet k1m))
              go_wp2_with (show wpList _ _ _ ({ dst := some 36, op := Op.load 29 (Operand.tmp 35), type := _, pos := _, after := _, guard := _ } :: _) _ _; refine load_g (by rfl) 29 (.tmp 35) rfl lb (k * 16) rfl (vwv Y) du9 (HRY.out) hdu9 hdr9 info29 ?_)
              refine (lent_c W1 Y.tk Y.c Y.v Y.L (HYo.out.r.kept HS1.out.1) HYo.out.n).mono ?_
              rintro e W2 ⟨gy, ky, rfl, S2⟩
              rw [hm] at S2 ⊢
              have HS2 : Keep (Sep W0 W2 (rowV 39 5 (.slice (some ⟨gy, 0, none⟩) (m + 1) ky) (m + 1) (sns (Y.L ++ [rm])) :: rowV 39 5 (.slice (some ⟨gx, 0, none⟩) (n + 1) kx) (n + 1) (sns (X.L ++ [rm])) :: [boxA lb (vwv x ++ vwv y) 32])) := ⟨Sep.merge HS1.out S2⟩
              clear S2 HS1 HRY
              obtain ⟨ax, cx, hvx, _⟩ := HXo.out.r.o
              obtain ⟨ay, cy, hvy, _⟩ := HYo.out.r.o
              rw [hn] at hvx
              rw [hm] at hvy
              have lX : W2.cell? ⟨lb, i * 16 + 15, none⟩ = some X.v := (HXr.out W2 (HS2.out.boxGet k2m)) 15 _ rfl
              have lY : W2.cell? ⟨lb, k * 16 + 15, none⟩ = some Y.v := (HYr.out W2 (HS2.out.boxGet k2m)) 15 _ rfl
              rw [hvx] at lX
              rw [hvy] at lY
              have HRX := Keep.mk (HXr.out W2 (HS2.out.boxGet k2m))
              have h1X : ∀ u ∈ vwv X, u.oneCell' = true := vwL_one HXo.out.r.one
              have h1Y : ∀ u ∈ vwv Y, u.oneCell' = true := vwL_one HYo.out.r.one
              have hkx : n + 1 ≤ kx := row_cap (HS2.out.rowGet k1m)
              have hky : m + 1 ≤ ky := row_cap (HS2.out.rowGet k0m)
              clear hn hm hvx hvy
              go_wp2_with (first
                | (show wpList _ _ _ ({ dst := some 50, op := Op.load 29 (Operand.tmp 49), type := _, pos := _, after := _, guard := _ } :: _) _ _; refine load_g (by rfl) 29 (.tmp 49) rfl lb (i * 16) rfl (vwv X) du9 (HRX.out) hdu9 hdr9 info29 ?_)
                | (with_reducible show wpList _ _ _ ({ dst := _, op := Op.store 29 _ _, type := _, pos := _, after := _, guard := _ } :: _) _ _
                   refine store_new W2 (vwv X) 29 rfl rfl rfl rfl rfl info29 (h1X) ?_))
              intro W3 hS3 g3
              obtain ⟨vb, hvb⟩ : ∃ b, W2.heap.size = b := ⟨_, rfl⟩
              have S3 := hS3 _ _ HS2.out
              rw [hvb] at S3
              try rw [hvb]
              have HS3 := Keep.mk S3
              clear S3 hS3 g3 HS2 hvb lX lY HRX h1X
              have HRY := Keep.mk (HYr.out W3 (HS3.out.boxGet (b := lb) (t := 32) (by simp)))
              go_wp2_with (first
                | (show wpList _ _ _ ({ dst := some 53, op := Op.load 29 (Operand.tmp 52), type := _, pos := _, after := _, guard := _ } :: _) _ _; refine load_g (by rfl) 29 (.tmp 52) rfl lb (k * 16) rfl (vwv Y) du9 (HRY.out) hdu9 hdr9 info29 ?_)
                | (with_reducible show wpList _ _ _ ({ dst := _, op := Op.store 29 _ _, type := _, pos := _, after := _, guard := _ } :: _) _ _
                   refine store_new W3 (vwv Y) 29 rfl rfl rfl rfl rfl info29 (h1Y) ?_))
              intro W4 hS4 g4
              obtain ⟨wb, hwb⟩ : ∃ b, W3.heap.size = b := ⟨_, rfl⟩
              have S4 := hS4 _ _ HS3.out
              rw [hwb] at S4
              try rw [hwb]
              clear hS4 g4 HS3 hwb HRY h1Y
              have m1 := (S4.boxGet k1m).cellv 15 _ rfl
              have r1 := (S4.boxGet k1m).frozen 15
              have S5 := S4.swap.boxPut 15 (.slice (some ⟨gx, 0, none⟩) n kx)
              obtain ⟨W5, hW5⟩ : ∃ w, W4.setCell ⟨vb, 15, none⟩ (.slice (some ⟨gx, 0, none⟩) n kx) = w := ⟨_, rfl⟩
              rw [hW5] at S5
              have m2 := (S5.boxGet k1m).cellv 15 _ rfl
              have r2 := (S5.boxGet k1m).frozen 15
              have S6 := S5.swap.boxPut 15 (.slice (some ⟨gy, 0, none⟩) m ky)
              obtain ⟨W6, hW6⟩ : ∃ w, W5.setCell ⟨wb, 15, none⟩ (.slice (some ⟨gy, 0, none⟩) m ky) = w := ⟨_, rfl⟩
              rw [hW6] at S6
              have HS6 : Keep (Sep W0 W6 (boxA wb (vwL Y.tk Y.c (.slice (some ⟨gy, 0, none⟩) m ky)) 29 :: boxA vb (vwL X.tk X.c (.slice (some ⟨gx, 0, none⟩) n kx)) 29 :: rowV 39 5 (.slice (some ⟨gy, 0, none⟩) (m + 1) ky) (m + 1) (sns (Y.L ++ [rm])) :: rowV 39 5 (.slice (some ⟨gx, 0, none⟩) (n + 1) kx) (n + 1) (sns (X.L ++ [rm])) :: [boxA lb (vwv x ++ vwv y) 32])) := ⟨S6⟩
              clear S4 S5 S6
              have cX : ((n : Nat) : Int) ≤ (kx : Int) := by omega
              have cY : ((m : Nat) : Int) ≤ (ky : Int) := by omega
              have nX : (0 : Int) ≤ (n : Int) := by omega
              have nY : (0 : Int) ≤ (m : Int) := by omega
              have tX : ((n : Nat) : Int).toNat = n := by omega
              have tY : ((m : Nat) : Int).toNat = m := by omega
              go_wp2_with fail
              clear m1 r1 m2 r2 hW5 hW6 cX cY nX nY tX tY
              have HS : Keep (Sep W0 W6.drew (boxA wb (vwL Y.tk Y.c (.slice (some ⟨gy, 0, none⟩) m ky)) 29 :: boxA vb (vwL X.tk X.c (.slice (some ⟨gx, 0, none⟩) n kx)) 29 :: rowV 39 5 (.slice (some ⟨gy, 0, none⟩) (m + 1) ky) (m + 1) (sns (Y.L ++ [rm])) :: rowV 39 5 (.slice (some ⟨gx, 0, none⟩) (n + 1) kx) (n + 1) (sns (X.L ++ [rm])) :: [boxA lb (vwv x ++ vwv y) 32])) := ⟨HS6.out.grown (gr_drew W6 none)⟩
              clear HS6
              have HLN := Keep.mk HNM.out.1
              have HOX := Keep.mk HXo.out.o
              as_aux_lemma =>
                refine region_Y (S := fun w => W6.drew.grownBy w none) [] (by kernel_rfl) ?_
                have hHeld := (World.grownBy.refl _ _ : (fun w => W6.drew.grownBy w none) W6.drew)
                refine wpAnyY_take (i := 0) (oi := _) (v := .agg (vwL X.tk X.c (.slice (some ⟨gx, 0, none⟩) n kx)).toArray) rfl (by kernel_rfl) (by kernel_rfl) (by kernel_rfl) (by kernel_rfl) (by kernel_rfl) (fun _ _ _ h => h) (ty_load (by rfl) 29 (.tmp 14) rfl vb 0 rfl (vwL X.tk X.c (.slice (some ⟨gx, 0, none⟩) n kx)) du9 (fun w hSw => ((HS.out.grown hSw).boxGet (b := vb) (t := 29) (cs := vwL X.tk X.c (.slice (some ⟨gx, 0, none⟩) n kx)) (by simp)).range) hdu9 hdr9 info29) hHeld ?_
                simp only [Act.put, List.getElem_toArray, List.getElem_cons_zero, List.setIfInBounds_toArray, List.set_cons_zero, List.set_cons_succ]
                refine wpAnyY_take (i := 1) (oi := _) (v := .agg (vwL Y.tk Y.c (.slice (some ⟨gy, 0, none⟩) m ky)).toArray) rfl (by kernel_rfl) (by kernel_rfl) (by kernel_rfl) (by kernel_rfl) (by kernel_rfl) (fun _ _ _ h => h) (ty_load (by rfl) 29 (.tmp 15) rfl wb 0 rfl (vwL Y.tk Y.c (.slice (some ⟨gy, 0, none⟩) m ky)) du9 (fun w hSw => ((HS.out.grown hSw).boxGet (b := wb) (t := 29) (cs := vwL Y.tk Y.c (.slice (some ⟨gy, 0, none⟩) m ky)) (by simp)).range) hdu9 hdr9 info29) hHeld ?_
                simp only [Act.put, List.getElem_toArray, List.getElem_cons_succ, List.getElem_cons_zero, List.setIfInBounds_toArray, List.set_cons_zero, List.set_cons_succ]
                refine wpAnyY_pure (i := 2) (oi := _) (v := ?_) rfl (by kernel_rfl) (by kernel_rfl) (by kernel_rfl) (by kernel_rfl) (fun _ _ _ h => h) (Or.inl ⟨by rfl, ?_⟩) ?_
                rotate_left
                · (intro w hSw; go_simp; first | done | (with_reducible rfl))
                simp only [Act.put, List.getElem_toArray, List.getElem_cons_succ, List.getElem_cons_zero, List.setIfInBounds_toArray, List.set_cons_zero, List.set_cons_succ]
                refine wpAnyY_pure (i := 4) (oi := _) (v := ?_) rfl (by kernel_rfl) (by kernel_rfl) (by kernel_rfl) (by kernel_rfl) (fun _ _ _ h => h) (Or.inl ⟨by rfl, ?_⟩) ?_
                rotate_left
                · (intro w hSw; go_simp; first | done | (with_reducible rfl))
                simp only [Act.put, List.getElem_toArray, List.getElem_cons_succ, List.getElem_cons_zero, List.setIfInBounds_toArray, List.set_cons_zero, List.set_cons_succ]
                refine wpAnyY_pure (i := 5) (oi := _) (v := ?_) rfl (by kernel_rfl) (by kernel_rfl) (by kernel_rfl) (by kernel_rfl) (fun _ _ _ h => h) (Or.inl ⟨by rfl, ?_⟩) ?_
                rotate_left
                · (intro w hSw; go_simp; first | done | (with_reducible rfl))
                simp only [Act.put, List.getElem_toArray, List.getElem_cons_succ, List.getElem_cons_zero, List.setIfInBounds_toArray, List.set_cons_zero, List.set_cons_succ]
                refine wpAnyY_take (i := 6) (oi := _) (v := .agg (vwv X).toArray) rfl (by kernel_rfl) (by kernel_rfl) (by kernel_rfl) (by kernel_rfl) (by kernel_rfl) (fun _ _ _ h => h) (ty_load (by rfl) 29 (.tmp 67) rfl lb (i * 16) rfl (vwv X) du9 (fun w hSw => HXr.out w ((HS.out.grown hSw).boxGet (b := lb) (t := 32) (cs := vwv x ++ vwv y) (by simp))) hdu9 hdr9 info29) hHeld ?_
                simp only [Act.put, List.getElem_toArray, List.getElem_cons_succ, List.getElem_cons_zero, List.setIfInBounds_toArray, List.set_cons_zero, List.set_cons_succ]
                refine wpAnyY_pure (i := 7) (oi := _) (v := ?_) rfl (by kernel_rfl) (by kernel_rfl) (by kernel_rfl) (by kernel_rfl) (fun _ _ _ h => h) (Or.inl ⟨by rfl, ?_⟩) ?_
                rotate_left
                · (intro w hSw; go_simp; first | done | (with_reducible rfl))
                simp only [Act.put, List.getElem_toArray, List.getElem_cons_succ, List.getElem_cons_zero, List.setIfInBounds_toArray, List.set_cons_zero, List.set_cons_succ]
                refine wpAnyY_pure (i := 8) (oi := _) (v := ?_) rfl (by kernel_rfl) (by kernel_rfl) (by kernel_rfl) (by kernel_rfl) (fun _ _ _ h => h) (Or.inl ⟨by rfl, ?_⟩) ?_
                rotate_left
                · (intro w hSw; go_simp; first | done | (with_reducible rfl))
                simp only [Act.put, List.getElem_toArray, List.getElem_cons_succ, List.getElem_cons_zero, List.setIfInBounds_toArray, List.set_cons_zero, List.set_cons_succ]
                refine wpAnyY_take (i := 9) (oi := _) (v := .agg (vwv Y).toArray) rfl (by kernel_rfl) (by kernel_rfl) (by kernel_rfl) (by kernel_rfl) (by kernel_rfl) (fun _ _ _ h => h) (ty_load (by rfl) 29 (.tmp 70) rfl lb (k * 16) rfl (vwv Y) du9 (fun w hSw => HYr.out w ((HS.out.grown hSw).boxGet (b := lb) (t := 32) (cs := vwv x ++ vwv y) (by simp))) hdu9 hdr9 info29) hHeld ?_
                simp only [Act.put, List.getElem_toArray, List.getElem_cons_succ, List.getElem_cons_zero, List.setIfInBounds_toArray, List.set_cons_zero, List.set_cons_succ]
                refine wpAnyY_pure (i := 10) (oi := _) (v := ?_) rfl (by kernel_rfl) (by kernel_rfl) (by kernel_rfl) (by kernel_rfl) (fun _ _ _ h => h) (Or.inl ⟨by rfl, ?_⟩) ?_
                rotate_left
                · (intro w hSw; go_simp; first | done | (with_reducible rfl))
                simp only [Act.put, List.getElem_toArray, List.getElem_cons_succ, List.getElem_cons_zero, List.setIfInBounds_toArray, List.set_cons_zero, List.set_cons_succ]
                refine wpAnyY_one (i := 3) (by kernel_rfl) rfl (fun K hK => ?_)
                go_simp
                refine (between_c _ X.tk Y.tk X.c Y.c (.slice (some ⟨gx, 0, none⟩) n kx) (.slice (some ⟨gy, 0, none⟩) m ky) (X.L) Y.L t (rdS_row (HS.out.rowGet (e := 39) (s := 5) (v := (.slice (some ⟨gx, 0, none⟩) (n + 1) kx)) (n := n + 1) (xs := sns (X.L ++ [rm])) (by simp)) (by omega) (fun j x h => by rw [List.getElem?_append_left (List.getElem?_eq_some_iff.1 h).1]; exact h) HLN.out) (rdS_row (HS.out.rowGet (e := 39) (s := 5) (v := (.slice (some ⟨gy, 0, none⟩) (m + 1) ky)) (n := m + 1) (xs := sns (Y.L ++ [rm])) (by simp)) (by omega) (fun j x h => by rw [List.getElem?_append_left (List.getElem?_eq_some_iff.1 h).1]; exact h) HNM.out.2) HOX.out HYo.out.o (by have h1 := HLN.out; have h2 := HNB.out.1; omega) (by have h1 := HYo.out.n; omega)).mono ?_
                rintro e w1 ⟨v1, P1, rfl, hP1, S1⟩
                have HT1 := Keep.mk (Sep.merge HS.out S1)
                have g1 := S1.1
                clear S1
                refine hK.out _ _ (fun h => World.grownBy.trans h g1) ?_
                replace hHeld := World.grownBy.trans hHeld g1
                clear hK K g1
                as_aux_lemma =>
                  refine wpAnyY_one (i := 11) (by kernel_rfl) rfl (fun K hK => ?_)
                  go_simp
                  refine (rbetween_c _ X.tk Y.tk X.c Y.c X.v Y.v (X.L) Y.L t (HXo.out.r.kept HT1.out.1) (HYo.out.r.kept HT1.out.1) (by have h1 := HLN.out; have h2 := HNB.out.1; omega) (by have h1 := HYo.out.n; omega)).mono ?_
                  rintro e w2 ⟨v2, P2, rfl, hP2, S2⟩
                  have HT2 := Keep.mk (Sep.merge HT1.out S2)
                  have g2 := S2.1
                  clear S2 HT1
                  refine hK.out _ _ (fun h => World.grownBy.trans h g2) ?_
                  replace hHeld := World.grownBy.trans hHeld g2
                  clear hK K g2
                  refine wpAnyY_one (i := 12) (by kernel_rfl) rfl (fun K hK => ?_)
                  go_simp
                  have hlP : P1.length ≤ 281474976710656 := by
                    have h1 := congrArg List.length hP1
                    rw [List.length_map] at h1
                    have h2 := betV_len X.c Y.c (X.L) Y.L (V t)
                    have h3 := HLN.out
                    have h4 := HNB.out.1
                    omega
                  refine (same_c w2 v1 v2 P1 P2 (rdP_row (HT2.out.rowGet (by simp))) (rdP_row (HT2.out.rowGet (by simp))) (hP1.trans hP2.symm) hlP).mono ?_
                  rintro e w3 ⟨rfl, g3⟩
                  have HT3 := Keep.mk (HT2.out.grown g3)
                  clear HT2 hlP hP1 hP2
                  refine hK.out _ _ (fun h => World.grownBy.trans h g3) ?_
                  replace hHeld := World.grownBy.trans hHeld g3
                  clear hK K g3
                  as_aux_lemma =>
                    refine wpAnyY_pure (i := 13) (oi := _) (v := ?_) rfl (by kernel_rfl) (by kernel_rfl) (by kernel_rfl) (by kernel_rfl) (fun _ _ _ h => h) (Or.inl ⟨by rfl, ?_⟩) ?_
                    rotate_left
                    · (intro w hSw; go_simp; first | done | (with_reducible rfl))
                    simp only [Act.put, List.getElem_toArray, List.getElem_cons_succ, List.getElem_cons_zero, List.setIfInBounds_toArray, List.set_cons_zero, List.set_cons_succ]
                    refine wpAnyY_pure (i := 14) (oi := _) (v := ?_) rfl (by kernel_rfl) (by kernel_rfl) (by kernel_rfl) (by kernel_rfl) (fun _ _ _ h => h) (Or.inl ⟨by rfl, ?_⟩) ?_
                    rotate_left
                    · (intro w hSw; go_simp; first | done | (with_reducible rfl))
                    simp only [Act.put, List.getElem_toArray, List.getElem_cons_succ, List.getElem_cons_zero, List.setIfInBounds_toArray, List.set_cons_zero, List.set_cons_succ]
                    refine wpAnyY_pure (i := 15) (oi := _) (v := ?_) rfl (by kernel_rfl) (by kernel_rfl) (by kernel_rfl) (by kernel_rfl) (fun _ _ _ h => h) (Or.inl ⟨by rfl, ?_⟩) ?_
                    rotate_left
                    · (intro w hSw; go_simp; first | done | (with_reducible rfl))
                    simp only [Act.put, List.getElem_toArray, List.getElem_cons_succ, List.getElem_cons_zero, List.setIfInBounds_toArray, List.set_cons_zero, List.set_cons_succ]
                    refine wpAnyY_pure (i := 16) (oi := _) (v := ?_) rfl (by kernel_rfl) (by kernel_rfl) (by kernel_rfl) (by kernel_rfl) (fun _ _ _ h => h) (Or.inl ⟨by rfl, ?_⟩) ?_
                    rotate_left
                    · (intro w hSw; go_simp; first | done | (with_reducible rfl))
                    simp only [Act.put, List.getElem_toArray, List.getElem_cons_succ, List.getElem_cons_zero, List.setIfInBounds_toArray, List.set_cons_zero, List.set_cons_succ]
                    refine wpAnyY_pure (i := 17) (oi := _) (v := ?_) rfl (by kernel_rfl) (by kernel_rfl) (by kernel_rfl) (by kernel_rfl) (fun _ _ _ h => h) (Or.inl ⟨by rfl, ?_⟩) ?_
                    rotate_left
                    · (intro w hSw; go_simp; first | done | (with_reducible rfl))
                    simp only [Act.put, List.getElem_toArray, List.getElem_cons_succ, List.getElem_cons_zero, List.setIfInBounds_toArray, List.set_cons_zero, List.set_cons_succ]
                    refine wpAnyY_take (i := 18) (oi := _) (v := .agg (vwv X).toArray) rfl (by kernel_rfl) (by kernel_rfl) (by kernel_rfl) (by kernel_rfl) (by kernel_rfl) (fun _ _ _ h => h) (ty_load (by rfl) 29 (.tmp 79) rfl lb (i * 16) rfl (vwv X) du9 (fun w hSw => HXr.out w ((HS.out.grown hSw).boxGet (b := lb) (t := 32) (cs := vwv x ++ vwv y) (by simp))) hdu9 hdr9 info29) hHeld ?_
                    simp only [Act.put, List.getElem_toArray, List.getElem_cons_succ, List.getElem_cons_zero, List.setIfInBounds_toArray, List.set_cons_zero, List.set_cons_succ]
                    refine wpAnyY_one (i := 19) (by kernel_rfl) rfl (fun K hK => ?_)
                    go_simp
                    refine (still_c w3 (.slice (some ⟨gx, 0, none⟩) (n + 1) kx) X.tk X.c X.v X.L (rdS_row (HT3.out.rowGet (e := 39) (s := 5) (v := (.slice (some ⟨gx, 0, none⟩) (n + 1) kx)) (n := n + 1) (xs := sns (X.L ++ [rm])) (by simp)) (by omega) (fun j x h => h) (by rw [List.length_append, List.length_singleton, HNM.out.1])) (HXo.out.r.kept HT3.out.1) HXo.out.n).mono ?_
                    rintro e w4 ⟨rfl, g4⟩
                    have HT4 := Keep.mk (HT3.out.grown g4)
                    refine hK.out _ _ (fun h => World.grownBy.trans h g4) ?_
                    replace hHeld := World.grownBy.trans hHeld g4
                    clear hK K g4
                    as_aux_lemma =>
                      refine wpAnyY_pure (i := 20) (oi := _) (v := ?_) rfl (by kernel_rfl) (by kernel_rfl) (by kernel_rfl) (by kernel_rfl) (fun _ _ _ h => h) (Or.inl ⟨by rfl, ?_⟩) ?_
                      rotate_left
                      · (intro w hSw; go_simp; first | done | (with_reducible rfl))
                      simp only [Act.put, List.getElem_toArray, List.getElem_cons_succ, List.getElem_cons_zero, List.setIfInBounds_toArray, List.set_cons_zero, List.set_cons_succ]
                      refine wpAnyY_pure (i := 21) (oi := _) (v := ?_) rfl (by kernel_rfl) (by kernel_rfl) (by kernel_rfl) (by kernel_rfl) (fun _ _ _ h => h) (Or.inl ⟨by rfl, ?_⟩) ?_
                      rotate_left
                      · (intro w hSw; go_simp; first | done | (with_reducible rfl))
                      simp only [Act.put, List.getElem_toArray, List.getElem_cons_succ, List.getElem_cons_zero, List.setIfInBounds_toArray, List.set_cons_zero, List.set_cons_succ]
                      refine wpAnyY_pure (i := 22) (oi := _) (v := ?_) rfl (by kernel_rfl) (by kernel_rfl) (by kernel_rfl) (by kernel_rfl) (fun _ _ _ h => h) (Or.inl ⟨by rfl, ?_⟩) ?_
                      rotate_left
                      · (intro w hSw; go_simp; first | done | (with_reducible rfl))
                      simp only [Act.put, List.getElem_toArray, List.getElem_cons_succ, List.getElem_cons_zero, List.setIfInBounds_toArray, List.set_cons_zero, List.set_cons_succ]
                      refine wpAnyY_pure (i := 23) (oi := _) (v := ?_) rfl (by kernel_rfl) (by kernel_rfl) (by kernel_rfl) (by kernel_rfl) (fun _ _ _ h => h) (Or.inl ⟨by rfl, ?_⟩) ?_
                      rotate_left
                      · (intro w hSw; go_simp; first | done | (with_reducible rfl))
                      simp only [Act.put, List.getElem_toArray, List.getElem_cons_succ, List.getElem_cons_zero, List.setIfInBounds_toArray, List.set_cons_zero, List.set_cons_succ]
                      refine wpAnyY_pure (i := 24) (oi := _) (v := ?_) rfl (by kernel_rfl) (by kernel_rfl) (by kernel_rfl) (by kernel_rfl) (fun _ _ _ h => h) (Or.inl ⟨by rfl, ?_⟩) ?_
                      rotate_left
                      · (intro w hSw; go_simp; first | done | (with_reducible rfl))
                      simp only [Act.put, List.getElem_toArray, List.getElem_cons_succ, List.getElem_cons_zero, List.setIfInBounds_toArray, List.set_cons_zero, List.set_cons_succ]
                      refine wpAnyY_pure (i := 25) (oi := _) (v := ?_) rfl (by kernel_rfl) (by kernel_rfl) (by kernel_rfl) (by kernel_rfl) (fun _ _ _ h => h) (Or.inl ⟨by rfl, ?_⟩) ?_
                      rotate_left
                      · (intro w hSw; go_simp; first | done | (with_reducible rfl))
                      simp only [Act.put, List.getElem_toArray, List.getElem_cons_succ, List.getElem_cons_zero, List.setIfInBounds_toArray, List.set_cons_zero, List.set_cons_succ]
                      refine wpAnyY_take (i := 26) (oi := _) (v := .agg (vwv Y).toArray) rfl (by kernel_rfl) (by kernel_rfl) (by kernel_rfl) (by kernel_rfl) (by kernel_rfl) (fun _ _ _ h => h) (ty_load (by rfl) 29 (.tmp 87) rfl lb (k * 16) rfl (vwv Y) du9 (fun w hSw => HYr.out w ((HS.out.grown hSw).boxGet (b := lb) (t := 32) (cs := vwv x ++ vwv y) (by simp))) hdu9 hdr9 info29) hHeld ?_
                      simp only [Act.put, List.getElem_toArray, List.getElem_cons_succ, List.getElem_cons_zero, List.setIfInBounds_toArray, List.set_cons_zero, List.set_cons_succ]
                      refine wpAnyY_one (i := 27) (by kernel_rfl) rfl (fun K hK => ?_)
                      go_simp
                      refine (still_c w4 (.slice (some ⟨gy, 0, none⟩) (m + 1) ky) Y.tk Y.c Y.v Y.L (rdS_row (HT4.out.rowGet (e := 39) (s := 5) (v := (.slice (some ⟨gy, 0, none⟩) (m + 1) ky)) (n := m + 1) (xs := sns (Y.L ++ [rm])) (by simp)) (by omega) (fun j x h => h) (by rw [List.length_append, List.length_singleton, HNM.out.2])) (HYo.out.r.kept HT4.out.1) HYo.out.n).mono ?_
                      rintro e w5 ⟨rfl, g5⟩
                      have HT5 := Keep.mk (HT4.out.grown g5)
                      refine hK.out _ _ (fun h => World.grownBy.trans h g5) ?_
                      replace hHeld := World.grownBy.trans hHeld g5
                      clear hK K g5
                      refine wpAnyY_pure (i := 28) (oi := _) (v := ?_) rfl (by kernel_rfl) (by kernel_rfl) (by kernel_rfl) (by kernel_rfl) (fun _ _ _ h => h) (Or.inl ⟨by rfl, ?_⟩) ?_
                      rotate_left
                      · (intro w hSw; go_simp; first | done | (with_reducible rfl))
                      simp only [Act.put, List.getElem_toArray, List.getElem_cons_succ, List.getElem_cons_zero, List.setIfInBounds_toArray, List.set_cons_zero, List.set_cons_succ]
                      refine wpAnyY_pure (i := 29) (oi := _) (v := ?_) rfl (by kernel_rfl) (by kernel_rfl) (by kernel_rfl) (by kernel_rfl) (fun _ _ _ h => h) (Or.inl ⟨by rfl, ?_⟩) ?_
                      rotate_left
                      · (intro w hSw; go_simp; first | done | (with_reducible rfl))
                      simp only [Act.put, List.getElem_toArray, List.getElem_cons_succ, List.getElem_cons_zero, List.setIfInBounds_toArray, List.set_cons_zero, List.set_cons_succ]
                      refine wpAnyY_done (by kernel_rfl) ?_ _
                      have HS7 : Keep (Sep W0 w5 (rowV 39 5 (.slice (some ⟨gx, 0, none⟩) (n + 1) kx) (n + 1) (sns (wrs X.L 0 ++ [rm])) :: boxA wb (vwL Y.tk Y.c (.slice (some ⟨gy, 0, none⟩) m ky)) 29 :: boxA vb (vwL X.tk X.c (.slice (some ⟨gx, 0, none⟩) n kx)) 29 :: rowV 39 5 (.slice (some ⟨gy, 0, none⟩) (m + 1) ky) (m + 1) (sns (Y.L ++ [rm])) :: [boxA lb (vwv x ++ vwv y) 32])) := ⟨by
                        rw [wrs_zero]
                        exact (fr1 [_, _, _] (HT5.out.tail.tail))⟩
                      clear HT3 HT4 HT5 HS HLN HOX hHeld
                      as_aux_lemma =>
                        go_wp2_with fail
                        go_loopw [16] (fun u wr => ∃ j : Nat, j ≤ n ∧ u = iv j ∧ Keep (Sep W0 wr (rowV 39 5 (.slice (some ⟨gx, 0, none⟩) (n + 1) kx) (n + 1) (sns (wrs X.L j ++ [rm])) :: boxA wb (vwL Y.tk Y.c (.slice (some ⟨gy, 0, none⟩) m ky)) 29 :: boxA vb (vwL X.tk X.c (.slice (some ⟨gx, 0, none⟩) n kx)) 29 :: rowV 39 5 (.slice (some ⟨gy, 0, none⟩) (m + 1) ky) (m + 1) (sns (Y.L ++ [rm])) :: [boxA lb (vwv x ++ vwv y) 32]))) (fun u _ => (n - intOf u).toNat)
                        case atStart => exact ⟨0, by omega, rfl, HS7⟩
                        case round =>
                          clear HS7
                          obtain ⟨j, hj, rfl, HS⟩ := hrel
                          have hnb := HNB.out.1
                          as_aux_lemma =>
                            by_cases hlj : j < n
                            · obtain ⟨s, hs⟩ : ∃ s, X.L[j]? = some s := ⟨_, List.getElem?_eq_getElem (by rw [HNM.out.1]; exact hlj)⟩
                              have hj0 : (0 : Int) ≤ (j : Int) := by omega
                              have hj1 : (j : Int) < (n : Nat) := by omega
                              have hj2 : (j : Int) < (n : Int) + 1 := by omega
                              have htj : ((j : Nat) : Int).toNat = j := by omega
                              have hwj : IntKind.i64.wrap ((j : Int) + 1) = ((j + 1 : Nat) : Int) := by rw [wi _ (by omega) (by omega)]; omega
                              have hmj : IntKind.i64.wrap ((j : Int) * 65536) = (j : Int) * 65536 := wi _ (by omega) (by omega)
                              have hs2 : (wrs X.L j)[j]? = some s := by rw [wrs_get, hs]; simp
                              have hs3 : (wrs X.L j ++ [rm])[j]? = some s := by rw [List.getElem?_append_left (by rw [wrs_len, HNM.out.1]; exact hlj)]; exact hs2
                              obtain ⟨g', c', e', q'⟩ := own_any (HS.out.rowGet k0m) (by omega)
                              injection e' with e1 _ _
                              injection e1 with e1
                              injection e1 with e1 _ _
                              subst e1
                              have y0 := (q' (j * 5 + 2) _ (sns_get _ j 2 s _ hs3 rfl)).1
                              have y1 := (q' (j * 5 + 2) _ (sns_get _ j 2 s _ hs3 rfl)).2
                              have S8 := Sep.rowSet HS.out (j * 5 + 2) (iv ((j : Int) * 65536))
                              rw [sns_set _ j s _ hs3, List.set_append_left _ _ (by rw [wrs_len, HNM.out.1]; exact hlj), wrs_set hs] at S8
                              have HS8 := Keep.mk S8
                              clear S8 q' HS hs hs2 hs3
                              go_wp2_with fail
                              go_roundw
                              case rel => exact ⟨j + 1, by omega, rfl, HS8⟩
                              case measure => simp [intOf]; omega
                            · have hj1 : ¬ (j : Int) < (n : Nat) := by omega
                              have hjn : j = n := by omega
                              rw [hjn] at HS
                              have HS9 := HS.out
                              go_wp2_with fail
                              clear HS
                              have HS : Keep (Sep W0 wr.drew (rowV 39 5 (.slice (some ⟨gx, 0, none⟩) (n + 1) kx) (n + 1) (sns (wrs X.L n ++ [rm])) :: boxA wb (vwL Y.tk Y.c (.slice (some ⟨gy, 0, none⟩) m ky)) 29 :: boxA vb (vwL X.tk X.c (.slice (some ⟨gx, 0, none⟩) n kx)) 29 :: rowV 39 5 (.slice (some ⟨gy, 0, none⟩) (m + 1) ky) (m + 1) (sns (Y.L ++ [rm])) :: [boxA lb (vwv x ++ vwv y) 32])) := ⟨HS9.grown (gr_drew wr none)⟩
                              clear HS9 hjn
                              have HLN : Keep ((wrs X.L n).length = n) := ⟨(wrs_len _ _).trans HNM.out.1⟩
                              have HOX := Keep.mk (wrs_ok HXo.out.o HXo.out.n n)
                              as_aux_lemma =>
                                refine region_Y (S := fun w => wr.drew.grownBy w none) [] (by kernel_rfl) ?_
                                have hHeld := (World.grownBy.refl _ _ : (fun w => wr.drew.grownBy w none) wr.drew)
                                refine wpAnyY_take (i := 0) (oi := _) (v := .agg (vwL X.tk X.c (.slice (some ⟨gx, 0, none⟩) n kx)).toArray) rfl (by kernel_rfl) (by kernel_rfl) (by kernel_rfl) (by kernel_rfl) (by kernel_rfl) (fun _ _ _ h => h) (ty_load (by rfl) 29 (.tmp 14) rfl vb 0 rfl (vwL X.tk X.c (.slice (some ⟨gx, 0, none⟩) n kx)) du9 (fun w hSw => ((HS.out.grown hSw).boxGet (b := vb) (t := 29) (cs := vwL X.tk X.c (.slice (some ⟨gx, 0, none⟩) n kx)) (by simp)).range) hdu9 hdr9 info29) hHeld ?_
                                simp only [Act.put, List.getElem_toArray, List.getElem_cons_zero, List.setIfInBounds_toArray, List.set_cons_zero, List.set_cons_succ]
                                refine wpAnyY_take (i := 1) (oi := _) (v := .agg (vwL Y.tk Y.c (.slice (some ⟨gy, 0, none⟩) m ky)).toArray) rfl (by kernel_rfl) (by kernel_rfl) (by kernel_rfl) (by kernel_rfl) (by kernel_rfl) (fun _ _ _ h => h) (ty_load (by rfl) 29 (.tmp 15) rfl wb 0 rfl (vwL Y.tk Y.c (.slice (some ⟨gy, 0, none⟩) m ky)) du9 (fun w hSw => ((HS.out.grown hSw).boxGet (b := wb) (t := 29) (cs := vwL Y.tk Y.c (.slice (some ⟨gy, 0, none⟩) m ky)) (by simp)).range) hdu9 hdr9 info29) hHeld ?_
                                simp only [Act.put, List.getElem_toArray, List.getElem_cons_succ, List.getElem_cons_zero, List.setIfInBounds_toArray, List.set_cons_zero, List.set_cons_succ]
                                refine wpAnyY_pure (i := 2) (oi := _) (v := ?_) rfl (by kernel_rfl) (by kernel_rfl) (by kernel_rfl) (by kernel_rfl) (fun _ _ _ h => h) (Or.inl ⟨by rfl, ?_⟩) ?_
                                rotate_left
                                · (intro w hSw; go_simp; first | done | (with_reducible rfl))
                                simp only [Act.put, List.getElem_toArray, List.getElem_cons_succ, List.getElem_cons_zero, List.setIfInBounds_toArray, List.set_cons_zero, List.set_cons_succ]
                                refine wpAnyY_take (i := 4) (oi := _) (v := .agg (vwL X.tk X.c (.slice (some ⟨gx, 0, none⟩) n kx)).toArray) rfl (by kernel_rfl) (by kernel_rfl) (by kernel_rfl) (by kernel_rfl) (by kernel_rfl) (fun _ _ _ h => h) (ty_load (by rfl) 29 (.tmp 14) rfl vb 0 rfl (vwL X.tk X.c (.slice (some ⟨gx, 0, none⟩) n kx)) du9 (fun w hSw => ((HS.out.grown hSw).boxGet (b := vb) (t := 29) (cs := vwL X.tk X.c (.slice (some ⟨gx, 0, none⟩) n kx)) (by simp)).range) hdu9 hdr9 info29) hHeld ?_
                                simp only [Act.put, List.getElem_toArray, List.getElem_cons_succ, List.getElem_cons_zero, List.setIfInBounds_toArray, List.set_cons_zero, List.set_cons_succ]
                                refine wpAnyY_take (i := 5) (oi := _) (v := .agg (vwL Y.tk Y.c (.slice (some ⟨gy, 0, none⟩) m ky)).toArray) rfl (by kernel_rfl) (by kernel_rfl) (by kernel_rfl) (by kernel_rfl) (by kernel_rfl) (fun _ _ _ h => h) (ty_load (by rfl) 29 (.tmp 15) rfl wb 0 rfl (vwL Y.tk Y.c (.slice (some ⟨gy, 0, none⟩) m ky)) du9 (fun w hSw => ((HS.out.grown hSw).boxGet (b := wb) (t := 29) (cs := vwL Y.tk Y.c (.slice (some ⟨gy, 0, none⟩) m ky)) (by simp)).range) hdu9 hdr9 info29) hHeld ?_
                                simp only [Act.put, List.getElem_toArray, List.getElem_cons_succ, List.getElem_cons_zero, List.setIfInBounds_toArray, List.set_cons_zero, List.set_cons_succ]
                                refine wpAnyY_pure (i := 6) (oi := _) (v := ?_) rfl (by kernel_rfl) (by kernel_rfl) (by kernel_rfl) (by kernel_rfl) (fun _ _ _ h => h) (Or.inl ⟨by rfl, ?_⟩) ?_
                                rotate_left
                                · (intro w hSw; go_simp; first | done | (with_reducible rfl))
                                simp only [Act.put, List.getElem_toArray, List.getElem_cons_succ, List.getElem_cons_zero, List.setIfInBounds_toArray, List.set_cons_zero, List.set_cons_succ]
                                refine wpAnyY_one (i := 3) (by kernel_rfl) rfl (fun K hK => ?_)
                                go_simp
                                refine (between_c _ X.tk Y.tk X.c Y.c (.slice (some ⟨gx, 0, none⟩) n kx) (.slice (some ⟨gy, 0, none⟩) m ky) (wrs X.L n) Y.L t (rdS_row (HS.out.rowGet (e := 39) (s := 5) (v := (.slice (some ⟨gx, 0, none⟩) (n + 1) kx)) (n := n + 1) (xs := sns (wrs X.L n ++ [rm])) (by simp)) (by omega) (fun j x h => by rw [List.getElem?_append_left (List.getElem?_eq_some_iff.1 h).1]; exact h) HLN.out) (rdS_row (HS.out.rowGet (e := 39) (s := 5) (v := (.slice (some ⟨gy, 0, none⟩) (m + 1) ky)) (n := m + 1) (xs := sns (Y.L ++ [rm])) (by simp)) (by omega) (fun j x h => by rw [List.getElem?_append_left (List.getElem?_eq_some_iff.1 h).1]; exact h) HNM.out.2) HOX.out HYo.out.o (by have h1 := HLN.out; have h2 := HNB.out.1; omega) (by have h1 := HYo.out.n; omega)).mono ?_
                                rintro e w1 ⟨v1, P1, rfl, hP1, S1⟩
                                have HT1 := Keep.mk (Sep.merge HS.out S1)
                                have g1 := S1.1
                                clear S1
                                refine hK.out _ _ (fun h => World.grownBy.trans h g1) ?_
                                replace hHeld := World.grownBy.trans hHeld g1
                                clear hK K g1
                                as_aux_lemma =>
                                  refine wpAnyY_one (i := 7) (by kernel_rfl) rfl (fun K hK => ?_)
                                  go_simp
                                  refine (rbetween_c _ X.tk Y.tk X.c Y.c (.slice (some ⟨gx, 0, none⟩) n kx) (.slice (some ⟨gy, 0, none⟩) m ky) (wrs X.L n) Y.L t (rdS_row (HT1.out.rowGet (e := 39) (s := 5) (v := (.slice (some ⟨gx, 0, none⟩) (n + 1) kx)) (n := n + 1) (xs := sns (wrs X.L n ++ [rm])) (by simp)) (by omega) (fun j x h => by rw [List.getElem?_append_left (List.getElem?_eq_some_iff.1 h).1]; exact h) HLN.out) (rdS_row (HT1.out.rowGet (e := 39) (s := 5) (v := (.slice (some ⟨gy, 0, none⟩) (m + 1) ky)) (n := m + 1) (xs := sns (Y.L ++ [rm])) (by simp)) (by omega) (fun j x h => by rw [List.getElem?_append_left (List.getElem?_eq_some_iff.1 h).1]; exact h) HNM.out.2) (by have h1 := HLN.out; have h2 := HNB.out.1; omega) (by have h1 := HYo.out.n; omega)).mono ?_
                                  rintro e w2 ⟨v2, P2, rfl, hP2, S2⟩
                                  have HT2 := Keep.mk (Sep.merge HT1.out S2)
                                  have g2 := S2.1
                                  clear S2 HT1
                                  refine hK.out _ _ (fun h => World.grownBy.trans h g2) ?_
                                  replace hHeld := World.grownBy.trans hHeld g2
                                  clear hK K g2
                                  refine wpAnyY_one (i := 8) (by kernel_rfl) rfl (fun K hK => ?_)
                                  go_simp
                                  have hlP : P1.length ≤ 281474976710656 := by
                                    have h1 := congrArg List.length hP1
                                    rw [List.length_map] at h1
                                    have h2 := betV_len X.c Y.c (wrs X.L n) Y.L (V t)
                                    have h3 := HLN.out
                                    have h4 := HNB.out.1
                                    omega
                                  refine (same_c w2 v1 v2 P1 P2 (rdP_row (HT2.out.rowGet (by simp))) (rdP_row (HT2.out.rowGet (by simp))) (hP1.trans hP2.symm) hlP).mono ?_
                                  rintro e w3 ⟨rfl, g3⟩
                                  have HT3 := Keep.mk (HT2.out.grown g3)
                                  clear HT2 hlP hP1 hP2
                                  refine hK.out _ _ (fun h => World.grownBy.trans h g3) ?_
                                  replace hHeld := World.grownBy.trans hHeld g3
                                  clear hK K g3
                                  as_aux_lemma =>
                                    refine wpAnyY_pure (i := 9) (oi := _) (v := ?_) rfl (by kernel_rfl) (by kernel_rfl) (by kernel_rfl) (by kernel_rfl) (fun _ _ _ h => h) (Or.inl ⟨by rfl, ?_⟩) ?_
                                    rotate_left
                                    · (intro w hSw; go_simp; first | done | (with_reducible rfl))
                                    simp only [Act.put, List.getElem_toArray, List.getElem_cons_succ, List.getElem_cons_zero, List.setIfInBounds_toArray, List.set_cons_zero, List.set_cons_succ]
                                    refine wpAnyY_done (by kernel_rfl) ?_ _
                                    have HSF : Keep (Sep W0 w3 [boxA lb (vwv x ++ vwv y) 32]) := ⟨Sep.dropL (B := [_, _, _, _, _, _]) HT3.out⟩
                                    clear HT3 HS HLN HOX hHeld
                                    go_wp2_with fail
                                    go_roundw
                                    case rel => exact ⟨k + 1, by omega, rfl, HSF⟩
                                    case measure => simp [intOf]; omega
            · have hk1 : ¬ (k : Int) < 2 := by omega
              go_wp2_with fail
              go_roundw
              case rel => exact ⟨i + 1, by omega, rfl, HS⟩
              case measure => simp [intOf]; omega
      · have hi1 : ¬ (i : Int) < 2 := by omega
        go_wp2_with fail
        refine (alive_c wr).mono ?_
        rintro e W5 ⟨rfl, g⟩
        go_wp2_with fail
        go_ret
        exact ⟨rfl, HS.out.1.trans g⟩
end Go.Proofs.Ytfhhneibdmjfgab
