/- rows of floats of the call's own -/
import Derived.Test.YtfhhneibdmjfgaaL1
namespace Go.Proofs.Ytfhhneibdmjfgaa
open Go Go.RowKit Ieee Fx
namespace Sm
set_option maxRecDepth 100000
attribute [local go_sem] run_store_fl
theorem infoFl : ∃ i, Try.prog.info? 30 = some i ∧ i.size = 1 ∧ i.bytes = 4 ∧ i.zero = some (fv 0) := by
  have h : (Try.prog.info? 30).map (fun i => (i.size, i.bytes, i.zero)) = some (1, 4, some (fv 0)) := by kernel_rfl
  cases e : Try.prog.info? 30 with
  | none => rw [e] at h; cases h
  | some i =>
    rw [e] at h
    simp only [Option.map_some, Option.some.injEq, Prod.mk.injEq] at h
    exact ⟨i, rfl, h.1, h.2.1, h.2.2⟩
theorem fls_one (L : List Nat) : ∀ u ∈ L.map fv, u.oneCell' = true := by
  intro u hu
  obtain ⟨x, _, rfl⟩ := List.mem_map.1 hu
  rfl
theorem fls_get {L : List Nat} {j x : Nat} (h : L[j]? = some x) : (L.map fv)[j]? = some (fv x) := by rw [List.getElem?_map, h]; rfl
/-- many things more, out of any list -/
theorem Sep.appF {w0 W : World} {l : List As} {t e : TypeId} {i : TypeInfo} {z : Value} {s bytes : Nat} (ht : Try.prog.underlying t = some (.slice e)) (hi : Try.prog.info? e = some i) (hz : i.zero = some z) (hs : i.size = s) (hby : i.bytes = bytes) (hzs : z.cells.size = s) (hs0 : 0 < s)
    {v : Value} {n : Nat} {xs : List Value} (h : Sep w0 W (rowV e s v n xs :: l)) (a : Addr) (m c : Nat) (cs : List Value) (hcs : cs.length = m * s) (hc : ∀ (j : Nat) u, cs[j]? = some u → W.cell? (a.add j) = some u) (h1 : ∀ u ∈ cs, u.oneCell' = true) (hsz : (n + m) * bytes ≤ 140737488355328) (hb0 : 0 < bytes := by decide) :
    ∃ v' W', (Builtin.append_ #[t, t] t #[v, .slice (some a) m c]).run Try.prog W = .ok v' W' ∧ Sep w0 W' (rowV e s v' (n + m) (xs ++ cs) :: l) := by
  obtain ⟨F, ⟨ho, rfl⟩, _, hu⟩ := h.use
  have hle : n + m ≤ 140737488355328 := Nat.le_trans (Nat.le_mul_of_pos_right _ hb0) hsz
  obtain ⟨v', w', r1, r2, r3, _, r5⟩ := run_append_own_at (P := Try.prog) W 0 t t e i z s bytes ht hi hz hs hby hzs hs0 v n xs ho a m c cs hcs hc h1 (by unfold maxLen; omega) hsz (Nat.zero_le _)
  refine ⟨v', w', r1, hu w' [_] ((Fr.of r3).mono (fun i hi => .inl hi)) (Loc.one (a := rowV _ _ _ _ _) _ ⟨r2, rfl⟩ (fun i hi => ?_))⟩
  rcases r5 with q | q
  · exact .inl (by rw [← q]; exact hi)
  · rw [q] at hi
    injection hi with e
    exact .inr (by omega)
theorem app_nilF (c : Nat) (W : World) : (Builtin.append_ #[40, 40] 40 #[.slice none 0 0, .slice none 0 c]).run Try.prog W = .ok (.slice none 0 0) W := by
  obtain ⟨i, i1, _⟩ := infoFl
  have ht : Try.prog.underlying 40 = some (.slice 30) := Try.underlying40
  simp [Builtin.append_, run_underlying ht, sizeOf, typeInfo, i1, Builtin.lenOf, Builtin.firstCells]
/-- a list's copy -/
theorem Sep.copyF {w0 W : World} {l : List As} {va : Value} {L : List Nat} (h : Sep w0 W l) (hA : RdF W va L) (hn : L.length * 4 ≤ 140737488355328) :
    ∃ v' W', (Builtin.append_ #[40, 40] 40 #[.slice none 0 0, va]).run Try.prog W = .ok v' W' ∧ Sep w0 W' (rowV 30 1 v' L.length (L.map fv) :: l) := by
  obtain ⟨a, cap, rfl, hv⟩ := hA.o
  cases a with
  | none =>
    have h0 : L = [] := by
      cases L with
      | nil => rfl
      | cons x r => obtain ⟨g, o, e, _⟩ := hv (by simp); cases e
    subst h0
    exact ⟨_, W, app_nilF cap W, h.nilV 30 1⟩
  | some p =>
    obtain ⟨i, i1, i2, i3, i4⟩ := infoFl
    obtain ⟨v', W', r1, S2⟩ := Sep.appF (t := 40) Try.underlying40 i1 i4 i2 i3 rfl (by decide) (h.nilV 30 1) p L.length cap (L.map fv) (by simp) (fun j u hu => by
      obtain ⟨x, hx, rfl⟩ : ∃ x, L[j]? = some x ∧ u = fv x := by
        rw [List.getElem?_map] at hu
        cases hx : L[j]? with
        | none => rw [hx] at hu; cases hu
        | some x => rw [hx] at hu; exact ⟨x, rfl, (Option.some.inj hu).symm⟩
      obtain ⟨g, o, e, q⟩ := hv (by have := (List.getElem?_eq_some_iff.1 hx).1; omega)
      injection e with e
      subst e
      rw [Addr.add_mid]
      exact q j x hx) (fls_one L) (by omega)
    refine ⟨v', W', r1, ?_⟩
    rw [Nat.zero_add, List.nil_append] at S2
    exact S2
theorem row_cap {W : World} {e : TypeId} {s g n c : Nat} {xs : List Value} (h : W.ownsRow 0 e s (.slice (some ⟨g, 0, none⟩) n c) n xs) : n ≤ c := by
  rcases h.2 with ⟨q, _⟩ | ⟨g', cap, cur, q, _, _, h3, _⟩
  · cases q
  · injection q with _ _ e3
    omega
/-- the first n of a row -/
theorem rdF_row {W : World} {g n k c c' : Nat} {M : List Nat} (h : W.ownsRow 0 30 1 (.slice (some ⟨g, 0, none⟩) k c) k (M.map fv)) (hk : 0 < k) (hn : n ≤ M.length) : RdF W (.slice (some ⟨g, 0, none⟩) n c') (M.take n) := by
  obtain ⟨g', c2, e, q⟩ := own_any h hk
  injection e with e1 _ _
  injection e1 with e1
  injection e1 with e1 _ _
  subst e1
  refine ⟨⟨_, c', by rw [List.length_take, Nat.min_eq_left hn], fun _ => ⟨_, 0, rfl, fun j x hx => ?_⟩⟩⟩
  rw [Nat.zero_add]
  rw [List.getElem?_take] at hx
  split at hx
  · exact (q j _ (fls_get hx)).1
  · cases hx
theorem bs2 (W : World) : (Instr.buildSlice 40 2 #[(0, fv 1117388800), (1, fv 1117519872)]).run Try.prog W = .ok (.slice (some ⟨W.heap.size, 0, none⟩) 2 2) (W.alloc (.cells #[fv 1117388800, fv 1117519872] 30)) := by kernel_rfl
theorem rdF_nil (W : World) : RdF W (.slice none 0 0) [] := ⟨⟨none, 0, rfl, fun h => by simp at h⟩⟩
theorem wpList_bs2 {P : Program} {w : World} {ops : Array Oper} {rest : List Oper} {o : Oper} {a : Act} {Q : Exit → Act → World → Prop} (hgd : o.guard = none)
    (ho : o.op = .buildSlice 40 2 #[(0, .const (fv 1117388800)), (1, .const (fv 1117519872))]) {v' : Value} {w' : World}
    (hr : (Instr.buildSlice 40 2 #[(0, fv 1117388800), (1, fv 1117519872)]).run P w = .ok v' w') (h : wpList P ops Q rest (a.put o.dst v') w') : wpList P ops Q (o :: rest) a w :=
  wpList_plain hgd fun _ hK => by
    unfold Oper.wp
    simp only [execOp, ho, Sem.run_bind, Sem.run_pure, Result.andThen_ok, List.map_toArray, List.map_cons, List.map_nil, Act.eval, hr]
    exact hK _ _ h
theorem isV_sum (L : List Nat) (w : World) : IsV (sumV L) := by
  unfold sumV
  suffices h : ∀ s, IsV s → IsV (L.foldl (fun s x => oadd s (V x)) s) from h _ .c0
  induction L with
  | nil => exact fun s h => h
  | cons x r ih => exact fun s h => ih _ (h.add (.of x) w)
theorem IsV.quo {x y : OF} (hx : IsV x) (hy : IsV y) (w : World) : IsV (oquo x y) := by
  obtain ⟨a, rfl⟩ := hx; obtain ⟨b, rfl⟩ := hy
  obtain ⟨r, q, _, H⟩ := quo_run (P := Try.prog) 30 a b w
  exact ⟨r, H⟩
theorem isV_mean (L : List Nat) (w : World) : IsV (meanV L) := by
  unfold meanV
  split
  · exact .c0
  · exact (isV_sum L w).quo (.of _) w
theorem eq0 : (FloatKind.f32.format.order 1117388800 1117388800 != some .eq) = false := by decide +kernel
theorem eq1 : (FloatKind.f32.format.order 1117519872 1117519872 != some .eq) = false := by decide +kernel
set_option maxHeartbeats 16000000 in
theorem means_c (w0 : World) (va : Value) (L : List Nat) (hL : RdF w0 va L) (hn : L.length * 4 ≤ 140737488351232) : Calls Try.prog 4 #[va] w0 fun e w' => e = .returned (.bool true) ∧ w0.grownBy w' none := by
  obtain ⟨a, cap, hv, _⟩ := hL.o
  obtain ⟨n, hnL⟩ : ∃ n, L.length = n := ⟨_, rfl⟩
  have HL := Keep.mk hL
  have HN := Keep.mk hnL
  rw [hnL] at hv hn
  subst hv
  clear hL hnL
  go_enter Try.func4, Try.ntmps4
  go_wp2_with fail
  refine (alive_c w0).mono ?_
  rintro e W1 ⟨rfl, g1⟩
  have HG1 := Keep.mk g1
  clear g1
  have S1 : Sep w0 W1 [] := Sep.start HG1.out
  obtain ⟨v1, W2, ap1, S2⟩ := Sep.copyF S1 (HL.out.kept HG1.out) (by rw [HN.out]; omega)
  obtain ⟨i, i1, i2, i3, i4⟩ := infoFl
  have hap1 := Keep.mk ap1
  have S2b := (S2.newBox #[fv 1117388800, fv 1117519872] 30).swap
  obtain ⟨v2, W3, ap2, S3⟩ := Sep.appF (t := 40) Try.underlying40 i1 i4 i2 i3 rfl (by decide) S2b ⟨W2.heap.size, 0, none⟩ 2 2 [fv 1117388800, fv 1117519872] rfl (fun j u hu => by
      rw [Addr.add_mid, Nat.zero_add]; exact (S2b.boxGet k1m).cellv j u hu) (fun u hu => by
      rcases List.mem_cons.1 hu with rfl | hu
      · rfl
      · rcases List.mem_cons.1 hu with rfl | hu
        · rfl
        · cases hu) (by rw [HN.out]; omega)
  have hap2 := Keep.mk ap2
  obtain ⟨g, c, e2, _⟩ := own_any (S3.rowGet k0m) (by omega)
  subst e2
  have S4 := (S3.dropM [_] [_])
  have S5 : Sep w0 W3 [rowV 30 1 (.slice (some ⟨g, 0, none⟩) (n + 2) c) (n + 2) ((L ++ [1117388800, 1117519872]).map fv)] := by
    rw [List.map_append]
    rw [HN.out] at S4
    exact S4
  have HS := Keep.mk S5
  rw [HN.out] at hap2
  have hcap := row_cap (S5.rowGet k0m)
  obtain ⟨n2, hn2⟩ : ∃ n2, n + 2 = n2 := ⟨_, rfl⟩
  have HN2 := Keep.mk hn2
  rw [hn2] at HS hap2 hcap
  have hcn : (n : Int) ≤ (c : Int) := by omega
  have hn0 : (0 : Int) ≤ (n : Int) := by omega
  clear S1 ap1 S2 S2b ap2 S3 S4 S5 i1 i2 i3 i4 i hn2
  go_wp2_with (first
    | (with_reducible show wpList _ _ _ ({ dst := some 10, op := Op.call { callee := Callee.builtin Builtin.append, args := _, argTypes := _ }, type := _, pos := _, after := _, guard := _ } :: _) _ _
       refine wpList_append_run _ rfl (.tmp 8) (.tmp 9) 40 rfl _ _ rfl rfl hap1.out ?_)
    | (with_reducible show wpList _ _ _ ({ dst := some 12, op := Op.buildSlice 40 _ _, type := _, pos := _, after := _, guard := _ } :: _) _ _
       refine wpList_bs2 rfl rfl (bs2 _) ?_)
    | (with_reducible show wpList _ _ _ ({ dst := some 13, op := Op.call { callee := Callee.builtin Builtin.append, args := _, argTypes := _ }, type := _, pos := _, after := _, guard := _ } :: _) _ _
       refine wpList_append_run _ rfl (.tmp 11) (.tmp 12) 40 rfl _ _ rfl rfl hap2.out ?_))
  obtain ⟨M, hM⟩ : ∃ M, L ++ [1117388800, 1117519872] = M := ⟨_, rfl⟩
  have HM : Keep (M.length = n2 ∧ M.take n = L ∧ M[n]? = some 1117388800 ∧ M[n + 1]? = some 1117519872) := ⟨by
    rw [← hM, ← HN2.out]
    refine ⟨by simp [HN.out], by rw [← HN.out]; simp, ?_, ?_⟩
    · rw [List.getElem?_append_right (by rw [HN.out]; exact Nat.le_refl _), HN.out]; simp
    · rw [List.getElem?_append_right (by rw [HN.out]; omega), HN.out]; simp⟩
  rw [hM] at HS
  clear hM hap1 hap2
  have hm0 : 0 < n2 := by rw [← HN2.out]; omega
  refine (mean_c W3 _ (M.take n) (rdF_row (HS.out.rowGet k0m) hm0 (by rw [HM.out.1, ← HN2.out]; omega)) (by rw [HM.out.2.1, HN.out]; omega)).mono ?_
  rintro e W4 ⟨⟨v, rfl, r1, rfl, hr1⟩, g4⟩
  rw [HM.out.2.1] at hr1
  replace HS := Keep.mk (HS.out.grown g4)
  clear g4
  go_wp2_with fail
  refine (rmean_c W4 _ L (HL.out.kept HS.out.1) (by rw [HN.out]; omega)).mono ?_
  rintro e W5 ⟨⟨v, rfl, r2, rfl, hr2⟩, g5⟩
  replace HS := Keep.mk (HS.out.grown g5)
  clear g5
  have hal := alike_c r1 r2 (hr1.trans hr2.symm) W5
  have HA := Keep.mk hal
  clear hal hr1 hr2
  go_wp2_with fail
  refine HA.out.mono ?_
  rintro e W6 ⟨rfl, hw6⟩
  rw [hw6]
  clear hw6 HA W6
  have HC : Keep (W5.cell? ⟨g, n, none⟩ = some (fv 1117388800) ∧ W5.cell? ⟨g, n + 1, none⟩ = some (fv 1117519872)) := ⟨by
    obtain ⟨g', c', e, q⟩ := own_any (HS.out.rowGet k0m) hm0
    injection e with e _ _
    injection e with e
    injection e with e _ _
    subst e
    exact ⟨(q _ _ (fls_get HM.out.2.2.1)).1, (q _ _ (fls_get HM.out.2.2.2)).1⟩⟩
  obtain ⟨y0, y1⟩ := HC.out
  have e0 := eq0
  have e1 := eq1
  have hi0 : (n : Int) < (n2 : Int) := by rw [← HN2.out]; omega
  have hi1 : (n : Int) + 1 < (n2 : Int) := by rw [← HN2.out]; omega
  have hi2 : (0 : Int) ≤ (n : Int) + 1 := by omega
  have ht0 : ((n : Nat) : Int).toNat = n := by omega
  have ht1 : ((n : Int) + 1).toNat = n + 1 := by omega
  have hw1 : IntKind.i64.wrap ((n : Int) + 1) = (n : Int) + 1 := wi _ (by omega) (by omega)
  go_wp2_with fail
  clear y0 y1 e0 e1 hi0 hi1 hi2 ht0 ht1 hw1 HC
  go_loopw [4] (fun u wr => ∃ i : Nat, i ≤ n ∧ u = iv i ∧ Keep (Sep w0 wr [rowV 30 1 (.slice (some ⟨g, 0, none⟩) n2 c) n2 (M.map fv)])) (fun u _ => (n - intOf u).toNat)
  case atStart => exact ⟨0, by omega, rfl, HS⟩
  case round =>
    clear HS
    obtain ⟨i, hi, rfl, HS⟩ := hrel
    by_cases hlt : i < n
    · obtain ⟨x, hx⟩ : ∃ x, L[i]? = some x := ⟨_, List.getElem?_eq_getElem (by rw [HN.out]; exact hlt)⟩
      obtain ⟨a', cap', e, q⟩ := HL.out.o
      obtain ⟨b, o, ea, hc⟩ := q (by rw [HN.out]; omega)
      injection e with e _ _
      rw [ea] at e
      subst e
      have HX : Keep (∀ W, wr.grownBy W none → W.cell? ⟨g, i, none⟩ = some (fv x) ∧ W.cell? ⟨b, o + i, none⟩ = some (fv x)) := ⟨fun W gW => by
        refine ⟨?_, cell_kept (hc i x hx) (HS.out.1.trans gW)⟩
        obtain ⟨g', c', e, q⟩ := own_any ((HS.out.grown gW).rowGet k0m) hm0
        injection e with e _ _
        injection e with e
        injection e with e _ _
        subst e
        refine (q _ _ (fls_get (x := x) ?_)).1
        have h2 : (M.take n)[i]? = some x := by rw [HM.out.2.1]; exact hx
        rw [List.getElem?_take, if_pos hlt] at h2
        exact h2⟩
      clear q ea hc
      have hi0 : (0 : Int) ≤ (i : Int) := by omega
      have hi1 : (i : Int) < (n : Nat) := by omega
      have hi2 : (i : Int) < (n2 : Nat) := by rw [← HN2.out]; omega
      have hti : ((i : Nat) : Int).toNat = i := by omega
      have hwi : IntKind.i64.wrap ((i : Int) + 1) = ((i + 1 : Nat) : Int) := by rw [wi _ (by omega) (by omega)]; omega
      go_wp2_with fail
      refine region_R (fun w => wr.grownBy w none) [] [8] (fun i v => if i = 8 then (fun v => v = .bool true) v else False) 0 10 (by kernel_rfl) (by rfl) (gr_drew _ _) (fun hHeld => ?_)
      refine wpR_pure (i := 0) (oi := _) (v := ?_) rfl (by kernel_rfl) (by kernel_rfl) (by kernel_rfl) (by kernel_rfl) (by kernel_rfl) (by kernel_rfl) hHeld (Or.inl ⟨by rfl, ?_⟩) ?_
      rotate_left
      · (intro w hSw; go_simp; first | done | (with_reducible rfl))
      simp only [Act.put, List.getElem_toArray, List.getElem_cons_zero, List.setIfInBounds_toArray, List.set_cons_zero, List.set_cons_succ]
      refine wpR_pure (i := 1) (oi := _) (v := ?_) rfl (by kernel_rfl) (by kernel_rfl) (by kernel_rfl) (by kernel_rfl) (by kernel_rfl) (by kernel_rfl) hHeld (Or.inl ⟨by rfl, ?_⟩) ?_
      rotate_left
      · (intro w hSw; go_simp; first | done | (with_reducible rfl))
      simp only [Act.put, List.getElem_toArray, List.getElem_cons_succ, List.getElem_cons_zero, List.setIfInBounds_toArray, List.set_cons_zero, List.set_cons_succ]
      refine wpR_pure (i := 2) (oi := _) (v := ?_) rfl (by kernel_rfl) (by kernel_rfl) (by kernel_rfl) (by kernel_rfl) (by kernel_rfl) (by kernel_rfl) hHeld (Or.inl ⟨by rfl, ?_⟩) ?_
      rotate_left
      · (intro w hSw; go_simp; first | done | (with_reducible rfl))
      simp only [Act.put, List.getElem_toArray, List.getElem_cons_succ, List.getElem_cons_zero, List.setIfInBounds_toArray, List.set_cons_zero, List.set_cons_succ]
      refine wpR_pure (i := 3) (oi := _) (v := ?_) rfl (by kernel_rfl) (by kernel_rfl) (by kernel_rfl) (by kernel_rfl) (by kernel_rfl) (by kernel_rfl) hHeld (Or.inl ⟨by rfl, ?_⟩) ?_
      rotate_left
      · (intro w hSw; obtain ⟨q0, q1⟩ := HX.out w hSw; go_simp; first | done | (with_reducible rfl))
      simp only [Act.put, List.getElem_toArray, List.getElem_cons_succ, List.getElem_cons_zero, List.setIfInBounds_toArray, List.set_cons_zero, List.set_cons_succ]
      refine wpR_pure (i := 4) (oi := _) (v := ?_) rfl (by kernel_rfl) (by kernel_rfl) (by kernel_rfl) (by kernel_rfl) (by kernel_rfl) (by kernel_rfl) hHeld (Or.inl ⟨by rfl, ?_⟩) ?_
      rotate_left
      · (intro w hSw; go_simp; first | done | (with_reducible rfl))
      simp only [Act.put, List.getElem_toArray, List.getElem_cons_succ, List.getElem_cons_zero, List.setIfInBounds_toArray, List.set_cons_zero, List.set_cons_succ]
      refine wpR_pure (i := 5) (oi := _) (v := ?_) rfl (by kernel_rfl) (by kernel_rfl) (by kernel_rfl) (by kernel_rfl) (by kernel_rfl) (by kernel_rfl) hHeld (Or.inl ⟨by rfl, ?_⟩) ?_
      rotate_left
      · (intro w hSw; go_simp; first | done | (with_reducible rfl))
      simp only [Act.put, List.getElem_toArray, List.getElem_cons_succ, List.getElem_cons_zero, List.setIfInBounds_toArray, List.set_cons_zero, List.set_cons_succ]
      refine wpR_pure (i := 6) (oi := _) (v := ?_) rfl (by kernel_rfl) (by kernel_rfl) (by kernel_rfl) (by kernel_rfl) (by kernel_rfl) (by kernel_rfl) hHeld (Or.inl ⟨by rfl, ?_⟩) ?_
      rotate_left
      · (intro w hSw; go_simp; first | done | (with_reducible rfl))
      simp only [Act.put, List.getElem_toArray, List.getElem_cons_succ, List.getElem_cons_zero, List.setIfInBounds_toArray, List.set_cons_zero, List.set_cons_succ]
      refine wpR_pure (i := 7) (oi := _) (v := ?_) rfl (by kernel_rfl) (by kernel_rfl) (by kernel_rfl) (by kernel_rfl) (by kernel_rfl) (by kernel_rfl) hHeld (Or.inl ⟨by rfl, ?_⟩) ?_
      rotate_left
      · (intro w hSw; obtain ⟨q0, q1⟩ := HX.out w hSw; go_simp; first | done | (with_reducible rfl))
      simp only [Act.put, List.getElem_toArray, List.getElem_cons_succ, List.getElem_cons_zero, List.setIfInBounds_toArray, List.set_cons_zero, List.set_cons_succ]
      refine wpR_some (i := 8) (oi := _) rfl (by kernel_rfl) (by kernel_rfl) (by kernel_rfl) (by kernel_rfl) (by kernel_rfl) (by kernel_rfl) hHeld (fun v => v = .bool true) rfl ⟨_, rfl⟩ ⟨by rfl, ?_⟩ ?_
      · refine .inr ⟨12, #[fv x, fv x], fun w => ?_, fun w hSw => ?_⟩
        · (go_simp; first | done | (with_reducible rfl))
        refine (alike_c x x rfl w).mono ?_
        rintro e w' ⟨rfl, rfl⟩
        exact ⟨_, rfl, rfl, hSw⟩
      rintro v rfl
      simp only [Act.put, List.getElem_toArray, List.getElem_cons_succ, List.getElem_cons_zero, List.setIfInBounds_toArray, List.set_cons_zero, List.set_cons_succ]
      refine wpR_pure (i := 9) (oi := _) (v := ?_) rfl (by kernel_rfl) (by kernel_rfl) (by kernel_rfl) (by kernel_rfl) (by kernel_rfl) (by kernel_rfl) hHeld (Or.inl ⟨by rfl, ?_⟩) ?_
      rotate_left
      · (intro w hSw; go_simp; first | done | (with_reducible rfl))
      simp only [Act.put, List.getElem_toArray, List.getElem_cons_succ, List.getElem_cons_zero, List.setIfInBounds_toArray, List.set_cons_zero, List.set_cons_succ]
      refine wpR_end (by kernel_rfl) (fun w hSw => ?_)
      refine any_done (by kernel_rfl) ?_ _
      have HS2 := Keep.mk (HS.out.grown hSw)
      clear hSw HS hHeld
      go_wp2_with fail
      go_roundw
      case rel => exact ⟨i + 1, by omega, rfl, HS2⟩
      case measure => simp [intOf]; omega
    · have hi1 : ¬ (i : Int) < (n : Nat) := by omega
      have h0 : Keep (Sep w0 wr [rowV 30 1 (.slice (some ⟨g, 0, none⟩) n2 c) n2 (M.map fv)]) := HS
      go_wp2_with fail
      clear HS hi1 hlt hi
      have HB : Keep (M.length = n2) := ⟨HM.out.1⟩
      clear HM
      go_loopw [5] (fun u wr => ∃ (i : Nat) (M : List Nat), i ≤ n ∧ u = iv i ∧ Keep (M.length = n2) ∧ Keep (Sep w0 wr [rowV 30 1 (.slice (some ⟨g, 0, none⟩) n2 c) n2 (M.map fv)])) (fun u _ => (n - intOf u).toNat)
      case atStart => exact ⟨0, M, by omega, rfl, HB, h0⟩
      case round =>
        clear h0 HB
        obtain ⟨k, M', hk, rfl, HB, HS⟩ := hrel
        by_cases hlt : k < n
        · have hi0 : (0 : Int) ≤ (k : Int) := by omega
          have hi1 : (k : Int) < (n : Nat) := by omega
          have hi2 : (k : Int) < (n2 : Nat) := by rw [← HN2.out]; omega
          have hti : ((k : Nat) : Int).toNat = k := by omega
          have hwi : IntKind.i64.wrap ((k : Int) + 1) = ((k + 1 : Nat) : Int) := by rw [wi _ (by omega) (by omega)]; omega
          obtain ⟨g', c', e, q⟩ := own_any (HS.out.rowGet k0m) hm0
          injection e with e _ _
          injection e with e
          injection e with e _ _
          subst e
          obtain ⟨x, hx⟩ : ∃ x, M'[k]? = some x := ⟨_, List.getElem?_eq_getElem (by rw [HB.out, ← HN2.out]; omega)⟩
          obtain ⟨y0, y1⟩ := q _ _ (fls_get hx)
          clear q
          have HS2 := HS.out.rowSet k (fv (floatOfInt .f32 (k : Int)))
          rw [← List.map_set] at HS2
          have HS3 := Keep.mk HS2
          have HB2 : Keep ((M'.set k (floatOfInt .f32 (k : Int))).length = n2) := ⟨by rw [List.length_set]; exact HB.out⟩
          clear HS2 HS HB
          go_wp2_with fail
          go_roundw
          case rel => exact ⟨k + 1, _, by omega, rfl, HB2, HS3⟩
          case measure => simp [intOf]; omega
        · have hi1 : ¬ (k : Int) < (n : Nat) := by omega
          have hn1 : n ≤ M'.length := by rw [HB.out, ← HN2.out]; omega
          have hML : (M'.take n).length < 4611686018427387904 := by rw [List.length_take]; omega
          have HML := Keep.mk (And.intro hn1 hML)
          have d0 : (FloatKind.f32.format.order 0 0 == some .eq) = true := by decide +kernel
          clear hn1 hML
          go_wp2_with fail
          refine region_R (fun w => wr.grownBy w none) [18] [0, 7, 12, 13, 16] (fun i v => if i = 0 then (fun v => FV v k0) v else if i = 7 then (fun v => FV v (meanV (M'.take n))) v else if i = 12 then (fun v => FV v (meanV (M'.take n))) v else if i = 13 then (fun v => v = .bool true) v else if i = 16 then (fun v => v = .bool true) v else False) 1 18 (by kernel_rfl) (by rfl) (gr_drew _ _) (fun hHeld => ?_)
          refine wpR_some (i := 0) (oi := _) rfl (by kernel_rfl) (by kernel_rfl) (by kernel_rfl) (by kernel_rfl) (by kernel_rfl) (by kernel_rfl) hHeld (fun v => FV v k0) rfl ⟨_, 0, rfl, V0⟩ ⟨by rfl, ?_⟩ ?_
          · refine .inr ⟨13, #[.slice none 0 0], fun w => ?_, fun w hSw => ?_⟩
            · (go_simp; first | done | (with_reducible rfl))
            refine (mean_c w _ [] (rdF_nil w) (by decide)).mono ?_
            rintro e w' ⟨⟨v, rfl, hv⟩, g⟩
            exact ⟨v, rfl, hv, World.grownBy.trans hSw g⟩
          rintro v ⟨g0, rfl, hg0⟩
          have d0 : (FloatKind.f32.format.order g0 0 == some .eq) = true := eqF_c hg0 (by decide +kernel)
          simp only [Act.put, List.getElem_toArray, List.getElem_cons_zero, List.setIfInBounds_toArray, List.set_cons_zero, List.set_cons_succ]
          refine wpR_pure (i := 1) (oi := _) (v := ?_) rfl (by kernel_rfl) (by kernel_rfl) (by kernel_rfl) (by kernel_rfl) (by kernel_rfl) (by kernel_rfl) hHeld (Or.inl ⟨by rfl, ?_⟩) ?_
          rotate_left
          · (intro w hSw; go_simp; first | done | (with_reducible rfl))
          simp only [Act.put, List.getElem_toArray, List.getElem_cons_succ, List.getElem_cons_zero, List.setIfInBounds_toArray, List.set_cons_zero, List.set_cons_succ]
          refine wpR_pure (i := 2) (oi := _) (v := ?_) rfl (by kernel_rfl) (by kernel_rfl) (by kernel_rfl) (by kernel_rfl) (by kernel_rfl) (by kernel_rfl) hHeld (Or.inl ⟨by rfl, ?_⟩) ?_
          rotate_left
          · (intro w hSw; go_simp; first | done | (with_reducible rfl))
          simp only [Act.put, List.getElem_toArray, List.getElem_cons_succ, List.getElem_cons_zero, List.setIfInBounds_toArray, List.set_cons_zero, List.set_cons_succ]
          refine wpR_pure (i := 3) (oi := _) (v := ?_) rfl (by kernel_rfl) (by kernel_rfl) (by kernel_rfl) (by kernel_rfl) (by kernel_rfl) (by kernel_rfl) hHeld (Or.inl ⟨by rfl, ?_⟩) ?_
          rotate_left
          · (intro w hSw; go_simp; first | done | (with_reducible rfl))
          simp only [Act.put, List.getElem_toArray, List.getElem_cons_succ, List.getElem_cons_zero, List.setIfInBounds_toArray, List.set_cons_zero, List.set_cons_succ]
          refine wpR_pure (i := 4) (oi := _) (v := ?_) rfl (by kernel_rfl) (by kernel_rfl) (by kernel_rfl) (by kernel_rfl) (by kernel_rfl) (by kernel_rfl) hHeld (Or.inl ⟨by rfl, ?_⟩) ?_
          rotate_left
          · (intro w hSw; go_simp; first | done | (with_reducible rfl))
          simp only [Act.put, List.getElem_toArray, List.getElem_cons_succ, List.getElem_cons_zero, List.setIfInBounds_toArray, List.set_cons_zero, List.set_cons_succ]
          refine wpR_pure (i := 5) (oi := _) (v := ?_) rfl (by kernel_rfl) (by kernel_rfl) (by kernel_rfl) (by kernel_rfl) (by kernel_rfl) (by kernel_rfl) hHeld (Or.inl ⟨by rfl, ?_⟩) ?_
          rotate_left
          · (intro w hSw; go_simp; first | done | (with_reducible rfl))
          simp only [Act.put, List.getElem_toArray, List.getElem_cons_succ, List.getElem_cons_zero, List.setIfInBounds_toArray, List.set_cons_zero, List.set_cons_succ]
          refine wpR_pure (i := 6) (oi := _) (v := ?_) rfl (by kernel_rfl) (by kernel_rfl) (by kernel_rfl) (by kernel_rfl) (by kernel_rfl) (by kernel_rfl) hHeld (Or.inl ⟨by rfl, ?_⟩) ?_
          rotate_left
          · (intro w hSw; go_simp; first | done | (with_reducible rfl))
          simp only [Act.put, List.getElem_toArray, List.getElem_cons_succ, List.getElem_cons_zero, List.setIfInBounds_toArray, List.set_cons_zero, List.set_cons_succ]
          refine wpR_pure (i := 8) (oi := _) (v := ?_) rfl (by kernel_rfl) (by kernel_rfl) (by kernel_rfl) (by kernel_rfl) (by kernel_rfl) (by kernel_rfl) hHeld (Or.inl ⟨by rfl, ?_⟩) ?_
          rotate_left
          · (intro w hSw; go_simp; first | done | (with_reducible rfl))
          simp only [Act.put, List.getElem_toArray, List.getElem_cons_succ, List.getElem_cons_zero, List.setIfInBounds_toArray, List.set_cons_zero, List.set_cons_succ]
          refine wpR_pure (i := 9) (oi := _) (v := ?_) rfl (by kernel_rfl) (by kernel_rfl) (by kernel_rfl) (by kernel_rfl) (by kernel_rfl) (by kernel_rfl) hHeld (Or.inl ⟨by rfl, ?_⟩) ?_
          rotate_left
          · (intro w hSw; go_simp; first | done | (with_reducible rfl))
          simp only [Act.put, List.getElem_toArray, List.getElem_cons_succ, List.getElem_cons_zero, List.setIfInBounds_toArray, List.set_cons_zero, List.set_cons_succ]
          refine wpR_pure (i := 10) (oi := _) (v := ?_) rfl (by kernel_rfl) (by kernel_rfl) (by kernel_rfl) (by kernel_rfl) (by kernel_rfl) (by kernel_rfl) hHeld (Or.inl ⟨by rfl, ?_⟩) ?_
          rotate_left
          · (intro w hSw; go_simp; first | done | (with_reducible rfl))
          simp only [Act.put, List.getElem_toArray, List.getElem_cons_succ, List.getElem_cons_zero, List.setIfInBounds_toArray, List.set_cons_zero, List.set_cons_succ]
          refine wpR_pure (i := 11) (oi := _) (v := ?_) rfl (by kernel_rfl) (by kernel_rfl) (by kernel_rfl) (by kernel_rfl) (by kernel_rfl) (by kernel_rfl) hHeld (Or.inl ⟨by rfl, ?_⟩) ?_
          rotate_left
          · (intro w hSw; go_simp; first | done | (with_reducible rfl))
          simp only [Act.put, List.getElem_toArray, List.getElem_cons_succ, List.getElem_cons_zero, List.setIfInBounds_toArray, List.set_cons_zero, List.set_cons_succ]
          refine wpR_some (i := 7) (oi := _) rfl (by kernel_rfl) (by kernel_rfl) (by kernel_rfl) (by kernel_rfl) (by kernel_rfl) (by kernel_rfl) hHeld (fun v => FV v (meanV (M'.take n))) rfl (isV_mean _ w0).ex ⟨by rfl, ?_⟩ ?_
          · refine .inr ⟨13, #[.slice (some ⟨g, 0, none⟩) n c], fun w => ?_, fun w hSw => ?_⟩
            · (go_simp; first | done | (with_reducible rfl))
            refine (mean_c w _ (M'.take n) (rdF_row ((HS.out.grown hSw).rowGet k0m) hm0 HML.out.1) HML.out.2).mono ?_
            rintro e w' ⟨⟨v, rfl, hv⟩, g⟩
            exact ⟨v, rfl, hv, World.grownBy.trans hSw g⟩
          rintro v ⟨m1, rfl, hm1⟩
          simp only [Act.put, List.getElem_toArray, List.getElem_cons_succ, List.getElem_cons_zero, List.setIfInBounds_toArray, List.set_cons_zero, List.set_cons_succ]
          refine wpR_some (i := 12) (oi := _) rfl (by kernel_rfl) (by kernel_rfl) (by kernel_rfl) (by kernel_rfl) (by kernel_rfl) (by kernel_rfl) hHeld (fun v => FV v (meanV (M'.take n))) rfl (isV_mean _ w0).ex ⟨by rfl, ?_⟩ ?_
          · refine .inr ⟨14, #[.slice (some ⟨g, 0, none⟩) n c], fun w => ?_, fun w hSw => ?_⟩
            · (go_simp; first | done | (with_reducible rfl))
            refine (rmean_c w _ (M'.take n) (rdF_row ((HS.out.grown hSw).rowGet k0m) hm0 HML.out.1) HML.out.2).mono ?_
            rintro e w' ⟨⟨v, rfl, hv⟩, g⟩
            exact ⟨v, rfl, hv, World.grownBy.trans hSw g⟩
          rintro v ⟨m2, rfl, hm2⟩
          simp only [Act.put, List.getElem_toArray, List.getElem_cons_succ, List.getElem_cons_zero, List.setIfInBounds_toArray, List.set_cons_zero, List.set_cons_succ]
          refine wpR_some (i := 13) (oi := _) rfl (by kernel_rfl) (by kernel_rfl) (by kernel_rfl) (by kernel_rfl) (by kernel_rfl) (by kernel_rfl) hHeld (fun v => v = .bool true) rfl ⟨_, rfl⟩ ⟨by rfl, ?_⟩ ?_
          · refine .inr ⟨12, #[fv m1, fv m2], fun w => ?_, fun w hSw => ?_⟩
            · (go_simp; first | done | (with_reducible rfl))
            refine (alike_c m1 m2 (hm1.trans hm2.symm) w).mono ?_
            rintro e w' ⟨rfl, rfl⟩
            exact ⟨_, rfl, rfl, hSw⟩
          rintro v rfl
          simp only [Act.put, List.getElem_toArray, List.getElem_cons_succ, List.getElem_cons_zero, List.setIfInBounds_toArray, List.set_cons_zero, List.set_cons_succ]
          refine wpR_pure (i := 14) (oi := _) (v := ?_) rfl (by kernel_rfl) (by kernel_rfl) (by kernel_rfl) (by kernel_rfl) (by kernel_rfl) (by kernel_rfl) hHeld (Or.inl ⟨by rfl, ?_⟩) ?_
          rotate_left
          · (intro w hSw; go_simp; first | done | (with_reducible rfl))
          simp only [Act.put, List.getElem_toArray, List.getElem_cons_succ, List.getElem_cons_zero, List.setIfInBounds_toArray, List.set_cons_zero, List.set_cons_succ]
          refine wpR_pure (i := 15) (oi := _) (v := ?_) rfl (by kernel_rfl) (by kernel_rfl) (by kernel_rfl) (by kernel_rfl) (by kernel_rfl) (by kernel_rfl) hHeld (Or.inl ⟨by rfl, ?_⟩) ?_
          rotate_left
          · (intro w hSw; go_simp; first | done | (with_reducible rfl))
          simp only [Act.put, List.getElem_toArray, List.getElem_cons_succ, List.getElem_cons_zero, List.setIfInBounds_toArray, List.set_cons_zero, List.set_cons_succ]
          refine wpR_some (i := 16) (oi := _) rfl (by kernel_rfl) (by kernel_rfl) (by kernel_rfl) (by kernel_rfl) (by kernel_rfl) (by kernel_rfl) hHeld (fun v => v = .bool true) rfl ⟨_, rfl⟩ ⟨by rfl, ?_⟩ ?_
          · refine .inr ⟨9, #[], fun w => ?_, fun w hSw => ?_⟩
            · (go_simp; first | done | (with_reducible rfl))
            refine (alive_c w).mono ?_
            rintro e w' ⟨rfl, g⟩
            exact ⟨_, rfl, rfl, World.grownBy.trans hSw g⟩
          rintro v rfl
          simp only [Act.put, List.getElem_toArray, List.getElem_cons_succ, List.getElem_cons_zero, List.setIfInBounds_toArray, List.set_cons_zero, List.set_cons_succ]
          refine wpR_pure (i := 17) (oi := _) (v := ?_) rfl (by kernel_rfl) (by kernel_rfl) (by kernel_rfl) (by kernel_rfl) (by kernel_rfl) (by kernel_rfl) hHeld (Or.inl ⟨by rfl, ?_⟩) ?_
          rotate_left
          · (intro w hSw; go_simp; first | done | (with_reducible rfl))
          simp only [Act.put, List.getElem_toArray, List.getElem_cons_succ, List.getElem_cons_zero, List.setIfInBounds_toArray, List.set_cons_zero, List.set_cons_succ]
          refine wpR_end (by kernel_rfl) (fun w hSw => ?_)
          refine any_one (i := 18) (by kernel_rfl) rfl (fun K hK => ?_)
          go_simp
          refine hK.out _ _ ?_
          clear hK K
          have HF := Keep.mk (HS.out.1.trans hSw)
          refine any_done (by kernel_rfl) ?_ _
          go_wp2_with fail
          go_ret
          exact ⟨rfl, HF.out⟩
end Sm
end Go.Proofs.Ytfhhneibdmjfgaa
