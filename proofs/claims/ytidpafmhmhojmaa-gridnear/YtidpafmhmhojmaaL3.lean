/- scripts; GridSides. -/
import Derived.Test.YtidpafmhmhojmaaL2
namespace Go.Proofs.Ytidpafmhmhojmaa
open Go Go.RowKit

/-- a script as it lies -/
structure SrO (W : World) (v : Value) (L : List Stp) : Prop where
  o : ∃ a cap, v = .slice a L.length cap ∧ (0 < L.length → ∃ g o, a = some ⟨g, o, none⟩ ∧ ∀ (j : Nat) (x : Stp), L[j]? = some x → W.rangeAt g (o + j * 6) (stv x))
  k : ∀ x ∈ L, SOk x
  len : L.length * 48 ≤ 140737488351232
theorem SrO.kept {W W' : World} {v : Value} {L : List Stp} (h : SrO W v L) (g : W.grownBy W' none) : SrO W' v L := by
  obtain ⟨a, cap, e, q⟩ := h.o
  refine ⟨⟨a, cap, e, fun hn => ?_⟩, h.k, h.len⟩
  obtain ⟨b, o, e1, q⟩ := q hn
  exact ⟨b, o, e1, fun j x hx k u hu => g.cell (q j x hx k u hu) (by simp)⟩
/-- a script's step, wherever the world grew -/
theorem SrO.at {w : World} {a : Option Addr} {n cap : Nat} {L : List Stp} (h : SrO w (.slice a n cap) L) (hn : L.length = n) {i : Nat} (hi : i < n) :
    ∃ b o s, a = some ⟨b, o, none⟩ ∧ L[i]? = some s ∧ SOk s ∧ ∀ W, w.grownBy W none → W.rangeAt b (o + i * 6) [iv s.op, iv s.id, iv s.x, iv s.y, iv s.r, iv s.n] := by
  obtain ⟨a', cap', e, q⟩ := h.o
  injection e with e1 e2 e3
  obtain ⟨b, o, e4, q⟩ := q (by omega)
  obtain ⟨x, hx⟩ : ∃ x, L[i]? = some x := ⟨_, List.getElem?_eq_getElem (by rw [hn]; exact hi)⟩
  exact ⟨b, o, x, e1.trans e4, hx, h.k x (List.mem_of_getElem? hx), fun W g k u hu => g.cell (q i x hx k u hu) (by simp)⟩

theorem ansL_len (M : List Pl) (s : Stp) : (ansL M s).length ≤ M.length + 4 := by
  unfold ansL
  rw [List.length_append, List.length_append, List.length_singleton, List.length_singleton]
  have h1 : (nrL M s.x s.y s.r).length ≤ M.length := by unfold nrL; rw [List.length_map]; exact nr_len M s.x s.y s.r
  have h2 : (nstL M s.x s.y s.r s.n).length ≤ M.length := by unfold nstL nst; rw [List.length_map, List.length_take, (srtD_perm s.x s.y _).length_eq]; have := nr_len M s.x s.y s.r; omega
  split
  · simp
  · split
    · split <;> simp
    · split
      · split <;> simp <;> omega
      · split
        · omega
        · split
          · omega
          · simp
set_option maxRecDepth 100000 in
set_option maxHeartbeats 16000000 in
theorem sides_c (W : World) (za zb : Int) (v : Value) (L : List Stp) (h : SrO W v L) : Calls Try.prog 4 #[iv za, iv zb, v] W fun e W' => e = .returned (.bool true) ∧ W.grownBy W' none := by
  have HH := Keep.mk h
  obtain ⟨a, cap, rfl, _⟩ := h.o
  obtain ⟨n, hn⟩ : ∃ n, L.length = n := ⟨_, rfl⟩
  rw [hn] at HH ⊢
  have hnb : n < 1000000000000000000 := by have := h.len; omega
  have HLN := Keep.mk hn
  clear h hn
  have HSA := Keep.mk (sdZ_ok za)
  have HSB := Keep.mk (sdZ_ok zb)
  have HCA := Keep.mk (fun w => side_c za w)
  have HCB := Keep.mk (fun w => side_c zb w)
  generalize sdZ za = sa at *
  generalize sdZ zb = sb at *
  obtain ⟨du, hdu, hdr⟩ := under34
  go_enter Try.func4, Try.ntmps4
  go_wp2_with fail
  refine (fixed_c W).mono ?_
  rintro e W1 ⟨rfl, g1⟩
  have HS := Keep.mk (Sep.start g1)
  clear g1
  go_wp2_with fail
  refine (HCA.out _).mono ?_
  rintro e w1 ⟨rfl, hw⟩
  rw [hw]
  clear hw w1
  go_wp2_with fail
  refine (new_c W W1 _ sa HSA.out HS.out).mono ?_
  rintro e W2 ⟨gb, rfl, S2⟩
  replace HS := Keep.mk S2
  clear S2
  go_wp2_with fail
  refine (HCB.out _).mono ?_
  rintro e w1 ⟨rfl, hw⟩
  rw [hw]
  clear hw w1
  go_wp2_with fail
  refine (new_c W W2 _ sb HSB.out HS.out).mono ?_
  rintro e W3 ⟨hb, rfl, S2⟩
  replace HS : Keep (Sep W W3 [gridA gb sa [], gridA hb sb []]) := ⟨S2.swap⟩
  clear S2 HCA HCB
  go_wp2_with fail
  go_loopw [11] (fun u wr => ∃ (i : Nat) (M : List Pl), i ≤ n ∧ i ≤ 300 ∧ u = iv i ∧ Keep (Sep W wr [gridA gb sa M, gridA hb sb M]) ∧ Keep (M.length ≤ i)) (fun u _ => (n - intOf u).toNat)
  case atStart => exact ⟨0, [], by omega, by omega, rfl, HS, ⟨by simp⟩⟩
  case round =>
    clear HS
    obtain ⟨i, M, hi, hi3, rfl, HB, hM⟩ := hrel
    by_cases hlt : i < n
    · have hi0 : (i : Int) < (n : Int) := by omega
      by_cases h300 : i < 300
      · have hi4 : (i : Int) < 300 := by omega
        obtain ⟨b0, o0, s, rfl, hs, hok, hrg⟩ := HH.out.at HLN.out hlt
        have HO := Keep.mk hok
        have HRG := Keep.mk hrg
        have HML : Keep (M.length ≤ 300) := ⟨by have := hM.out; omega⟩
        have HM2 : Keep ((ansM M s).length ≤ i + 1) := ⟨by have := ansM_len M s; have := hM.out; omega⟩
        have HAL : Keep ((ansL M s).length < 1000000000000000000) := ⟨by have := ansL_len M s; have := hM.out; omega⟩
        have hii : IntKind.i64.wrap ((i : Int) + 1) = ((i + 1 : Nat) : Int) := by rw [IntKind.wrap_i64]; omega
        have hti : ((i : Nat) : Int).toNat = i := by omega
        clear hs hok hrg hM
        go_wp2_with fail
        replace HB := Keep.mk (HB.out.grown (gr_drew _ none))
        refine region_X (S := fun w' => W.grownBy w' none) [] (by kernel_rfl) (HB.out.g) (fun hHeld => ?_)
        obtain ⟨W0, hW0⟩ : ∃ W_, wr.drew = W_ := ⟨_, rfl⟩
        rw [hW0] at HB hHeld ⊢
        clear hW0
        refine wpAnyX_take (i := 0) (oi := _) (v := ?_) rfl (by kernel_rfl) (by kernel_rfl) (by kernel_rfl) (by kernel_rfl) (by kernel_rfl) (fun _ _ _ h => h) (Or.inl ⟨by rfl, ?_⟩) (by assumption) ?_
        rotate_left
        · (intro w hSw; go_simp; first | done | (with_reducible rfl))
        simp only [Act.put, List.getElem_toArray, List.getElem_cons_zero, List.setIfInBounds_toArray, List.set_cons_zero, List.set_cons_succ]
        refine wpAnyX_take (i := 1) (oi := _) (v := ?_) rfl (by kernel_rfl) (by kernel_rfl) (by kernel_rfl) (by kernel_rfl) (by kernel_rfl) (fun _ _ _ h => h) (Or.inl ⟨by rfl, ?_⟩) (by assumption) ?_
        rotate_left
        · (intro w hSw; go_simp; first | done | (with_reducible rfl))
        simp only [Act.put, List.getElem_toArray, List.getElem_cons_succ, List.getElem_cons_zero, List.setIfInBounds_toArray, List.set_cons_zero, List.set_cons_succ]
        refine wpAnyX_take (i := 2) (oi := _) (v := ?_) rfl (by kernel_rfl) (by kernel_rfl) (by kernel_rfl) (by kernel_rfl) (by kernel_rfl) (fun _ _ _ h => h) (Or.inl ⟨by rfl, ?_⟩) (by assumption) ?_
        rotate_left
        · (intro w hSw; go_simp; first | done | (with_reducible rfl))
        simp only [Act.put, List.getElem_toArray, List.getElem_cons_succ, List.getElem_cons_zero, List.setIfInBounds_toArray, List.set_cons_zero, List.set_cons_succ]
        refine wpAnyX_take (i := 3) (oi := _) (v := ?_) rfl (by kernel_rfl) (by kernel_rfl) (by kernel_rfl) (by kernel_rfl) (by kernel_rfl) (fun _ _ _ h => h) (Or.inl ⟨by rfl, ?_⟩) (by assumption) ?_
        rotate_left
        · (intro w hSw; go_simp; first | done | (with_reducible rfl))
        simp only [Act.put, List.getElem_toArray, List.getElem_cons_succ, List.getElem_cons_zero, List.setIfInBounds_toArray, List.set_cons_zero, List.set_cons_succ]
        refine wpAnyX_take (i := 4) (oi := _) (v := _) rfl (by kernel_rfl) (by kernel_rfl) (by kernel_rfl) (by kernel_rfl) (by kernel_rfl) (fun _ _ _ h => h) (yieldsIf_load_mid (by rfl) 34 _ rfl _ _ rfl _ _ (fun w_ hS_ => HRG.out w_ hS_) hdu hdr info34) (by assumption) ?_
        simp only [Act.put, List.getElem_toArray, List.getElem_cons_succ, List.getElem_cons_zero, List.setIfInBounds_toArray, List.set_cons_zero, List.set_cons_succ]
        refine wpAnyX_take (i := 6) (oi := _) (v := ?_) rfl (by kernel_rfl) (by kernel_rfl) (by kernel_rfl) (by kernel_rfl) (by kernel_rfl) (fun _ _ _ h => h) (Or.inl ⟨by rfl, ?_⟩) (by assumption) ?_
        rotate_left
        · (intro w hSw; go_simp; first | done | (with_reducible rfl))
        simp only [Act.put, List.getElem_toArray, List.getElem_cons_succ, List.getElem_cons_zero, List.setIfInBounds_toArray, List.set_cons_zero, List.set_cons_succ]
        refine wpAnyX_take (i := 7) (oi := _) (v := ?_) rfl (by kernel_rfl) (by kernel_rfl) (by kernel_rfl) (by kernel_rfl) (by kernel_rfl) (fun _ _ _ h => h) (Or.inl ⟨by rfl, ?_⟩) (by assumption) ?_
        rotate_left
        · (intro w hSw; go_simp; first | done | (with_reducible rfl))
        simp only [Act.put, List.getElem_toArray, List.getElem_cons_succ, List.getElem_cons_zero, List.setIfInBounds_toArray, List.set_cons_zero, List.set_cons_succ]
        refine wpAnyX_take (i := 8) (oi := _) (v := ?_) rfl (by kernel_rfl) (by kernel_rfl) (by kernel_rfl) (by kernel_rfl) (by kernel_rfl) (fun _ _ _ h => h) (Or.inl ⟨by rfl, ?_⟩) (by assumption) ?_
        rotate_left
        · (intro w hSw; go_simp; first | done | (with_reducible rfl))
        simp only [Act.put, List.getElem_toArray, List.getElem_cons_succ, List.getElem_cons_zero, List.setIfInBounds_toArray, List.set_cons_zero, List.set_cons_succ]
        refine wpAnyX_take (i := 9) (oi := _) (v := ?_) rfl (by kernel_rfl) (by kernel_rfl) (by kernel_rfl) (by kernel_rfl) (by kernel_rfl) (fun _ _ _ h => h) (Or.inl ⟨by rfl, ?_⟩) (by assumption) ?_
        rotate_left
        · (intro w hSw; go_simp; first | done | (with_reducible rfl))
        simp only [Act.put, List.getElem_toArray, List.getElem_cons_succ, List.getElem_cons_zero, List.setIfInBounds_toArray, List.set_cons_zero, List.set_cons_succ]
        refine wpAnyX_take (i := 10) (oi := _) (v := _) rfl (by kernel_rfl) (by kernel_rfl) (by kernel_rfl) (by kernel_rfl) (by kernel_rfl) (fun _ _ _ h => h) (yieldsIf_load_mid (by rfl) 34 _ rfl _ _ rfl _ _ (fun w_ hS_ => HRG.out w_ hS_) hdu hdr info34) (by assumption) ?_
        simp only [Act.put, List.getElem_toArray, List.getElem_cons_succ, List.getElem_cons_zero, List.setIfInBounds_toArray, List.set_cons_zero, List.set_cons_succ]
        refine wpAnyX_one (i := 5) (by kernel_rfl) rfl (fun K hK => ?_)
        go_simp
        refine (answers_c W _ [gridA hb sb M] gb sa M s HO.out (by have := HML.out; omega) HB.out).mono ?_
        rintro e wg ⟨v1, rfl, S1⟩
        refine hK.out _ _ S1.g (fun hHeld => ?_)
        replace HB : Keep (Sep W wg (gridA hb sb M :: nums v1 (ansL M s) :: [gridA gb sa (ansM M s)])) := ⟨fr1 [_, _] S1⟩
        clear hK K S1
        refine wpAnyX_one (i := 11) (by kernel_rfl) rfl (fun K hK => ?_)
        go_simp
        refine (answers_c W _ _ hb sb M s HO.out (by have := HML.out; omega) HB.out).mono ?_
        rintro e wh ⟨v2, rfl, S1⟩
        refine hK.out _ _ S1.g (fun hHeld => ?_)
        replace HB : Keep (Sep W wh (nums v2 (ansL M s) :: gridA hb sb (ansM M s) :: nums v1 (ansL M s) :: [gridA gb sa (ansM M s)])) := ⟨S1⟩
        clear hK K S1
        refine wpAnyX_one (i := 12) (by kernel_rfl) rfl (fun K hK => ?_)
        go_simp
        refine (ints_c W _ _ v1 v2 (ansL M s) HAL.out HB.out k2m k0m).mono ?_
        rintro e wi ⟨rfl, g1⟩
        replace HB := Keep.mk (HB.out.grown g1)
        refine hK.out _ _ HB.out.g (fun hHeld => ?_)
        clear hK K g1
        refine wpAnyX_take (i := 13) (oi := _) (v := ?_) rfl (by kernel_rfl) (by kernel_rfl) (by kernel_rfl) (by kernel_rfl) (by kernel_rfl) (fun _ _ _ h => h) (Or.inl ⟨by rfl, ?_⟩) (by assumption) ?_
        rotate_left
        · (intro w hSw; go_simp; first | done | (with_reducible rfl))
        simp only [Act.put, List.getElem_toArray, List.getElem_cons_succ, List.getElem_cons_zero, List.setIfInBounds_toArray, List.set_cons_zero, List.set_cons_succ]
        refine wpAnyX_done (by kernel_rfl) ?_ _
        have HF : Keep (Sep W wi [gridA gb sa (ansM M s), gridA hb sb (ansM M s)]) := ⟨by
          have q := HB.out.tail
          exact (q.perm ((List.Perm.swap _ _ _).trans ((List.Perm.swap _ _ _).cons _))).tail.swap.swap⟩
        clear HB hHeld
        go_wp2_with fail
        go_roundw
        case rel => exact ⟨i + 1, ansM M s, by omega, by omega, rfl, HF, HM2⟩
        case measure => simp [intOf]; omega
      · have hi4 : ¬ (i : Int) < 300 := by omega
        have HF := Keep.mk HB.out.g
        go_wp2_with fail
        go_ret
        exact ⟨rfl, HF.out⟩
    · have hi0 : ¬ (i : Int) < (n : Int) := by omega
      have HF := Keep.mk HB.out.g
      go_wp2_with fail
      go_ret
      exact ⟨rfl, HF.out⟩
end Go.Proofs.Ytidpafmhmhojmaa
