/- thingOf, firstOnes -/
import Derived.Test.YtfhhneibdmjfgabM0
namespace Go.Proofs.Ytfhhneibdmjfgab
open Go Go.RowKit Go.Maps Sm
set_option maxRecDepth 100000

theorem und61 : ∃ d, Try.prog.underlying 52 = some d ∧ d.isRow = true := ⟨_, Try.underlying52, rfl⟩
theorem info61 : (Try.prog.info? 52).map (·.size) = some 2 := by kernel_rfl
theorem und33 : ∃ d, Try.prog.underlying 39 = some d ∧ d.isRow = true := ⟨_, Try.underlying39, rfl⟩
theorem info33 : (Try.prog.info? 39).map (·.size) = some 5 := by kernel_rfl
theorem thing_c (s : Sn) (w : World) : Calls Try.prog 16 #[snA s] w fun e W' => e = .returned (ce (s.k, s.i)) ∧ w.grownBy W' none := by
  have HB := Keep.mk (boxes2 w #[iv s.k, iv s.i, iv s.x, iv s.y, iv s.h] #[iv s.k, iv s.i] 39 52)
  go_enter Try.func16, Try.ntmps16
  go_wp2_with fail
  obtain ⟨du, hdu, hdr⟩ := und61
  exact ret_c rfl rfl HB.out.2.1 hdu hdr info61 rfl ⟨rfl, HB.out.2.2⟩
/-- a list of things as it is read -/
structure RdS (W : World) (v : Value) (L : List Sn) : Prop where
  o : ∃ a c, v = .slice a L.length c ∧ (0 < L.length → ∃ g o, a = some ⟨g, o, none⟩ ∧ ∀ j x, L[j]? = some x → W.rangeAt g (o + j * 5) (snv x))
theorem range_kept {W W' : World} {g o : Nat} {cs : List Value} (h : W.rangeAt g o cs) (hg : W.grownBy W' none) : W'.rangeAt g o cs := fun j v hv => cell_kept (h j v hv) hg
theorem RdS.kept {W W' : World} {v : Value} {L : List Sn} (h : RdS W v L) (g : W.grownBy W' none) : RdS W' v L := by
  obtain ⟨a, c, e, q⟩ := h.o
  exact ⟨a, c, e, fun hn => by
    obtain ⟨b, o, e2, r⟩ := q hn
    exact ⟨b, o, e2, fun j x hx => range_kept (r j x hx) g⟩⟩
theorem sn_cells {W : World} {g o : Nat} {s : Sn} (h : W.rangeAt g o (snv s)) : W.cell? ⟨g, o, none⟩ = some (iv s.k) ∧ W.cell? ⟨g, o + 1, none⟩ = some (iv s.i) ∧ W.cell? ⟨g, o + 2, none⟩ = some (iv s.x) ∧ W.cell? ⟨g, o + 3, none⟩ = some (iv s.y) ∧ W.cell? ⟨g, o + 4, none⟩ = some (iv s.h) :=
  ⟨h 0 _ rfl, h 1 _ rfl, h 2 _ rfl, h 3 _ rfl, h 4 _ rfl⟩
def SnOk (s : Sn) : Prop := I64 s.k ∧ I64 s.i ∧ I64 s.x ∧ I64 s.y ∧ I64 s.h
set_option maxHeartbeats 16000000 in
theorem first_c (w0 W : World) (l : List As) (v : Value) (L : List Sn) (hS : Sep w0 W l) (hL : RdS W v L) (hO : ∀ x ∈ L, SnOk x) (hn : L.length ≤ 281474976710656) :
    Calls Try.prog 15 #[v] W fun e W' => ∃ mb m, e = .returned (.map (some mb)) ∧ Sep w0 W' (mapA thM mb m (fst1 L) :: l) := by
  obtain ⟨a, cap, hv, hq⟩ := hL.o
  subst hv
  obtain ⟨n, hnL⟩ : ∃ n, L.length = n := ⟨_, rfl⟩
  have HN := Keep.mk hnL
  have HO := Keep.mk hO
  have HQ := Keep.mk hL
  rw [hnL] at hn HQ hq ⊢
  have HA : Keep (0 < n → ∃ g o, a = some ⟨g, o, none⟩ ∧ ∀ j x, L[j]? = some x → W.rangeAt g (o + j * 5) (snv x)) := ⟨hq⟩
  have HS := Keep.mk (hS.mapNew thM)
  clear hq hL hnL hS hO
  have hmm := @run_makeMap Try.prog
  go_enter Try.func15, Try.ntmps15
  go_wp2_with fail
  obtain ⟨mb, hmb⟩ : ∃ b, W.heap.size = b := ⟨_, rfl⟩
  have HG := Keep.mk (gr_alloc W (.map #[] 0) none)
  have HMB : Keep (W.heap.size ≤ mb) := ⟨by omega⟩
  rw [hmb] at HS ⊢
  clear hmb hmm
  generalize W.alloc (.map #[] 0) = W1 at HS HG ⊢
  go_loopw [11] (fun u wr => ∃ i m : Nat, i ≤ n ∧ m ≤ i ∧ u = iv i ∧ Keep (W.grownBy wr none) ∧ Keep (Sep w0 wr (mapA thM mb m (fst1 (L.take i)) :: l))) (fun u _ => (n - intOf u).toNat)
  case atStart => exact ⟨0, 0, by omega, by omega, rfl, HG, HS⟩
  case round =>
    clear HS HG
    obtain ⟨i, m, hi, hm, rfl, HG, HS⟩ := hrel
    by_cases hlt : i < n
    · obtain ⟨s, hs⟩ : ∃ s, L[i]? = some s := ⟨_, List.getElem?_eq_getElem (by rw [HN.out]; exact hlt)⟩
      have hok : I64p (s.k, s.i) := by
        have := HO.out s (List.mem_of_getElem? hs)
        exact ⟨this.1, this.2.1⟩
      obtain ⟨g, o, rfl, hc⟩ := HA.out (by omega)
      have HX := Keep.mk (sn_cells (range_kept (hc i s hs) HG.out))
      have hi0 : (0 : Int) ≤ (i : Int) := by omega
      have hi1 : (i : Int) < (n : Nat) := by omega
      have hti : ((i : Nat) : Int).toNat = i := by omega
      have hwi : IntKind.i64.wrap ((i : Int) + 1) = ((i + 1 : Nat) : Int) := by rw [wi _ (by omega) (by omega)]; omega
      obtain ⟨y0, y1, y2, y3, y4⟩ := HX.out
      have HK := Keep.mk (And.intro hs hok)
      have HS1 := Keep.mk (HS.out.newBox #[iv s.k, iv s.i, iv s.x, iv s.y, iv s.h] 39)
      have HG1 := Keep.mk (HG.out.trans (gr_alloc wr (.cells #[iv s.k, iv s.i, iv s.x, iv s.y, iv s.h] 39) none))
      obtain ⟨sb, hsb⟩ : ∃ b, wr.heap.size = b := ⟨_, rfl⟩
      rw [hsb] at HS1
      clear hc hs hok HX HS HG
      go_wp2_with fail
      clear y0 y1 y2 y3 y4
      try rw [hsb]
      clear hsb
      generalize wr.alloc (.cells #[iv s.k, iv s.i, iv s.x, iv s.y, iv s.h] 39) = W2 at HS1 HG1 ⊢
      refine (thing_c s W2).mono ?_
      rintro e W3 ⟨rfl, g3⟩
      have HS3 := Keep.mk (HS1.out.grown g3)
      have HG3 := Keep.mk (HG1.out.trans g3)
      clear HS1 HG1 g3
      have hlk := (HS3.out.mapGet k1m).look2 (s.k, s.i) HK.out.2
      change (Instr.lookup 48 (.map (some mb)) (ce (s.k, s.i)) true).run Try.prog W3 = .ok (.tuple #[snA ((fst1 (L.take i) (s.k, s.i)).getD zN), .bool (fst1 (L.take i) (s.k, s.i)).isSome]) W3 at hlk
      have HF0 : Keep (fst1 (L.take i) (s.k, s.i) = fst1 (L.take i) (s.k, s.i)) := ⟨rfl⟩
      cases hf : fst1 (L.take i) (s.k, s.i) with
      | none =>
        rw [hf] at hlk
        have HF := Keep.mk hf
        obtain ⟨zz, hzz⟩ : ∃ z, zN = z := ⟨_, rfl⟩
        change (Instr.lookup 48 (.map (some mb)) (ce (s.k, s.i)) true).run Try.prog W3 = .ok (.tuple #[snA zN, .bool false]) W3 at hlk
        rw [hzz] at hlk
        clear hf HF0 hzz
        have HG4 := Keep.mk (HG3.out.trans (gr_alloc W3 (.cells #[iv zz.k, iv zz.i, iv zz.x, iv zz.y, iv zz.h] 39) none))
        have HS4 := Keep.mk (HS3.out.grown (gr_alloc W3 (.cells #[iv zz.k, iv zz.i, iv zz.x, iv zz.y, iv zz.h] 39) none))
        go_wp2_with fail
        clear hlk HS3 HG3
        generalize W3.alloc (.cells #[iv zz.k, iv zz.i, iv zz.x, iv zz.y, iv zz.h] 39) = W4 at HS4 HG4 ⊢
        refine region_R (fun w => W4.grownBy w none) [4] [2] (fun i v => if i = 2 then (fun v => v = ce (s.k, s.i)) v else False) 1 4 (by kernel_rfl) (by rfl) (gr_drew _ _) (fun hHeld => ?_)
        refine wpR_pure (i := 0) (oi := _) (v := ?_) rfl (by kernel_rfl) (by kernel_rfl) (by kernel_rfl) (by kernel_rfl) (by kernel_rfl) (by kernel_rfl) hHeld (Or.inl ⟨by rfl, ?_⟩) ?_
        rotate_left
        · (intro w hSw; go_simp; first | done | (with_reducible rfl))
        simp only [Act.put, List.getElem_toArray, List.getElem_cons_zero, List.setIfInBounds_toArray, List.set_cons_zero, List.set_cons_succ]
        refine wpR_pure (i := 1) (oi := _) (v := ?_) rfl (by kernel_rfl) (by kernel_rfl) (by kernel_rfl) (by kernel_rfl) (by kernel_rfl) (by kernel_rfl) hHeld (Or.inl ⟨by rfl, ?_⟩) ?_
        rotate_left
        · (intro w hSw; have q0 := ((HS4.out.grown hSw).boxGet k0m).cellv 0 _ rfl; have q1 := ((HS4.out.grown hSw).boxGet k0m).cellv 1 _ rfl; have q2 := ((HS4.out.grown hSw).boxGet k0m).cellv 2 _ rfl; have q3 := ((HS4.out.grown hSw).boxGet k0m).cellv 3 _ rfl; have q4 := ((HS4.out.grown hSw).boxGet k0m).cellv 4 _ rfl; go_simp; first | done | (with_reducible rfl))
        simp only [Act.put, List.getElem_toArray, List.getElem_cons_succ, List.getElem_cons_zero, List.setIfInBounds_toArray, List.set_cons_zero, List.set_cons_succ]
        refine wpR_pure (i := 3) (oi := _) (v := ?_) rfl (by kernel_rfl) (by kernel_rfl) (by kernel_rfl) (by kernel_rfl) (by kernel_rfl) (by kernel_rfl) hHeld (Or.inl ⟨by rfl, ?_⟩) ?_
        rotate_left
        · (intro w hSw; have q0 := ((HS4.out.grown hSw).boxGet k0m).cellv 0 _ rfl; have q1 := ((HS4.out.grown hSw).boxGet k0m).cellv 1 _ rfl; have q2 := ((HS4.out.grown hSw).boxGet k0m).cellv 2 _ rfl; have q3 := ((HS4.out.grown hSw).boxGet k0m).cellv 3 _ rfl; have q4 := ((HS4.out.grown hSw).boxGet k0m).cellv 4 _ rfl; go_simp; first | done | (with_reducible rfl))
        simp only [Act.put, List.getElem_toArray, List.getElem_cons_succ, List.getElem_cons_zero, List.setIfInBounds_toArray, List.set_cons_zero, List.set_cons_succ]
        refine wpR_some (i := 2) (oi := _) rfl (by kernel_rfl) (by kernel_rfl) (by kernel_rfl) (by kernel_rfl) (by kernel_rfl) (by kernel_rfl) hHeld (fun v => v = ce (s.k, s.i)) rfl ⟨_, rfl⟩ ⟨by rfl, ?_⟩ ?_
        · refine .inr ⟨16, #[snA s], fun w => ?_, fun w hSw => ?_⟩
          · (go_simp; first | done | (with_reducible rfl))
          refine (thing_c s w).mono ?_
          rintro e w' ⟨rfl, g⟩
          exact ⟨_, rfl, rfl, World.grownBy.trans hSw g⟩
        rintro v rfl
        simp only [Act.put, List.getElem_toArray, List.getElem_cons_succ, List.getElem_cons_zero, List.setIfInBounds_toArray, List.set_cons_zero, List.set_cons_succ]
        refine wpR_end (by kernel_rfl) (fun w hSw => ?_)
        refine any_one (i := 4) (by kernel_rfl) rfl (fun K hK => ?_)
        obtain ⟨w5, r5, q5, g5, _⟩ := MapF.put ((HS4.out.grown hSw).mapGet k1m) (s.k, s.i) HK.out.2 s (by omega)
        change (Instr.mapUpdate 48 (.map (some mb)) (ce (s.k, s.i)) (snA s)).run Try.prog w = .ok () w5 at r5
        have HG5 := HG4.out.trans hSw
        have S5 := ((HS4.out.grown hSw).swap).mapTo q5 g5
        rw [fst1_put HK.out.1 HF.out, HF.out] at S5
        go_simp
        refine hK.out _ _ ?_
        clear hK K r5 q5
        have HS5 := Keep.mk (S5.dropM [_] [_])
        replace HG5 := Keep.mk (gr_new HG5 g5 (HMB.out))
        clear S5 g5 hSw
        refine any_done (by kernel_rfl) ?_ _
        go_wp2_with fail
        go_roundw
        case rel => exact ⟨i + 1, m + 1, by omega, by omega, rfl, HG5, HS5⟩
        case measure => simp [intOf]; omega
      | some u =>
        rw [hf] at hlk
        have HF := Keep.mk hf
        change (Instr.lookup 48 (.map (some mb)) (ce (s.k, s.i)) true).run Try.prog W3 = .ok (.tuple #[snA u, .bool true]) W3 at hlk
        clear hf HF0
        have HG4 := Keep.mk (HG3.out.trans (gr_alloc W3 (.cells #[iv u.k, iv u.i, iv u.x, iv u.y, iv u.h] 39) none))
        have HS4 := Keep.mk (HS3.out.grown (gr_alloc W3 (.cells #[iv u.k, iv u.i, iv u.x, iv u.y, iv u.h] 39) none)).tail
        rw [fst1_keep HK.out.1 HF.out] at HS4
        go_wp2_with fail
        go_roundw
        case rel => exact ⟨i + 1, m, by omega, by omega, rfl, HG4, HS4⟩
        case measure => simp [intOf]; omega
    · have hi1 : ¬ (i : Int) < (n : Nat) := by omega
      have hin : i = n := by omega
      rw [hin, ← HN.out, List.take_length] at HS
      clear hin
      go_wp2_with fail
      go_ret
      exact ⟨mb, rfl, m, HS.out⟩
end Go.Proofs.Ytfhhneibdmjfgab
