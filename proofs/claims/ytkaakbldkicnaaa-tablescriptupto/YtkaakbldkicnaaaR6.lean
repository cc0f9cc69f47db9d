/- the document's table: Get, Put, New. -/
import Derived.Test.YtkaakbldkicnaaaR5
import Derived.Deep.RegionHeld
namespace Go.Proofs.Ytkaakbldkicnaaa
open Go Go.RowKit Go.Maps

theorem wp_append_run {P : Program} {o : Oper} {a : Act} {w : World} {K : Act → World → Prop} {Q : Exit → Act → World → Prop} (s x : Operand) (t : TypeId)
    (ho : o.op = .call { callee := .builtin .append, args := #[s, x], argTypes := #[t, t] }) (v u : Value) (hs : a.eval s = v) (hx : a.eval x = u) {v' : Value} {w' : World}
    (hr : (Builtin.append_ #[t, t] o.type #[v, u]).run P w = .ok v' w') (h : K (a.put o.dst v') w') : Oper.wp P o a w K Q := by
  unfold Oper.wp execOp
  simp only [ho, resolve, invoke, builtin, Sem.run_bind, Sem.run_pure, Result.andThen_ok, List.map_toArray, List.map_cons, List.map_nil, hs, hx, hr]
  exact h
theorem Has.one {W : World} {b : Nat} {v : Value} {cs : List Value} {t : TypeId} (h : Has W b (v :: cs) t) : W.cell? ⟨b, 0, none⟩ = some v := h.cellv 0 _ rfl

set_option maxRecDepth 100000 in
set_option maxHeartbeats 4000000 in
theorem rget_s {w0 W : World} {l : List As} {db sz : Nat} {L : KV} (k : ByteArray) (h : Sep w0 W (refA db sz L :: l)) (hn : L.length ≤ 4096) (hk : (Tb.keys L).Nodup) :
    Calls Try.prog 41 #[pt db, .string k] W fun r W' => r = .returned (.tuple #[iv ((Tb.look L k).getD 0), .bool (Tb.look L k).isSome]) ∧ Sep w0 W' (refA db sz (Tb.useL L k) :: l) := by
  obtain ⟨v, h⟩ := h.opn
  change Sep w0 W (boxA db [v, iv (sz : Nat)] 94 :: rowV 97 2 v L.length (its L) :: l) at h
  have c0 : W.cell? ⟨db, 0, none⟩ = some v := (h.boxGet k0m).cellv 0 _ rfl
  have hI := itm_of (h.rowGet k1m)
  rcases Tb.two L k hk with ⟨h1, h2⟩ | ⟨A, x, C, hL, hA, hC, h2⟩
  · rw [Tb.use_none h2, h2]
    have hp := place_no W db v L k c0 hI hn h1
    have H : Keep (Sep w0 W (refA db sz L :: l)) := ⟨Sep.cls (refL db sz L) v h⟩
    clear h hI h1 h2
    go_enter Try.func41, Try.ntmps41
    go_wp2_with fail
    refine hp.mono ?_
    rintro r w2 ⟨rfl, rfl⟩
    go_wp2_with fail
    go_ret2
    exact ⟨rfl, H.out⟩
  · rw [h2]
    have hp := place_at W db v L A C x k c0 hI hn hL hA
    obtain ⟨g, cap, rfl⟩ := hI.form (by rw [hL, List.length_append, List.length_cons]; omega)
    obtain ⟨c1, c2, f2⟩ := mid_at hI hL
    have S1 := h.newBox #[.string k, iv x] 97
    obtain ⟨W1, hW1⟩ : ∃ W1, W.alloc (.cells #[.string k, iv x] 97) = W1 := ⟨_, rfl⟩
    rw [hW1] at S1
    obtain ⟨xb, hxb⟩ : ∃ xb, W.heap.size = xb := ⟨_, rfl⟩
    rw [hxb] at S1
    have ho := out_c w0 W1 db A.length _ (iv (sz : Nat)) L _ (bk1 [_, _] S1) hn (by rw [hL]; simp)
    have er : L.eraseIdx A.length = A ++ C := by rw [hL, erase_mid]
    have eu : Tb.useL L k = A ++ C ++ [(k, x)] := by rw [hL, Tb.use_mid hA hC]
    have hl2 : (A ++ C).length ≤ 5000 := by rw [hL] at hn; simp at hn ⊢; omega
    obtain ⟨M, hM⟩ : ∃ M, A ++ C = M := ⟨_, rfl⟩
    rw [er, hM] at ho
    rw [eu, hM]
    rw [hM] at hl2
    clear hM
    obtain ⟨n, hnn⟩ : ∃ n, L.length = n := ⟨_, rfl⟩
    obtain ⟨m, hm⟩ : ∃ m, A.length = m := ⟨_, rfl⟩
    have hmn : m < n := by rw [← hnn, hL, ← hm]; simp
    rw [hnn] at c0
    rw [hm] at hp ho c1 c2
    have hi0 : (0 : Int) ≤ (m : Int) := by omega
    have hi1 : (m : Int) < (n : Nat) := by omega
    have hti : ((m : Nat) : Int).toNat = m := by omega
    have hlt0 : decide ((m : Int) < 0) = false := by simp
    clear h hI h2 hL hm hnn er eu S1 hn
    go_enter Try.func41, Try.ntmps41
    go_wp2_with fail
    refine hp.mono ?_
    rintro r w2 ⟨rfl, rfl⟩
    go_wp2_with fail
    refine ho.mono ?_
    rintro r w3 ⟨rfl, v', S3⟩
    clear ho hp c0 c1 c2
    change Sep w0 w3 (boxA db [v', iv (sz : Nat)] 94 :: rowV 97 2 v' M.length (its M) :: boxA xb [.string k, iv x] 97 :: l) at S3
    obtain ⟨a4, c4, rfl⟩ := own_slice (S3.rowGet k1m)
    have S4 := S3.grown (gr_drew w3 none)
    have HS3 := Keep.mk S3
    clear S3
    go_wp2_with fail
    refine wp_region_held_drew (S := fun _ => True) (by kernel_rfl) trivial (fun hHeld => ?_)
    generalize w3.drew = w4 at S4 ⊢
    obtain ⟨g5, c5, w5, ap, S5⟩ := S4.swap.item (k, x) hl2
    have S4a := S4.grown (World.grownBy_alloc w4 (.cells #[.string k, iv x] 97) none)
    have y0 := (S4.boxGet k0m).one
    have y0a := (S4a.boxGet k0m).one
    have y1 : w4.cell? ⟨xb, 0, none⟩ = some (.string k) := (S4.boxGet k2m).cellv 0 _ rfl
    have y2 : w4.cell? ⟨xb, 1, none⟩ = some (iv x) := (S4.boxGet k2m).cellv 1 _ rfl
    have z0 := (S5.boxGet k1m).one
    have z1 : w5.frozen? ⟨db, 0, none⟩ = false := (S5.boxGet k1m).frozen 0
    generalize hv5 : Value.slice (some ⟨g5, 0, none⟩) (M.length + 1) c5 = v5 at *
    have S6 := S5.swap.boxPut 0 v5
    have q2 : (w5.setCell ⟨db, 0, none⟩ v5).cell? ⟨xb, 1, none⟩ = some (iv x) := (S6.boxGet k2m).cellv 1 _ rfl
    have HF : Keep (Sep w0 (w5.setCell ⟨db, 0, none⟩ v5) (refA db sz (M ++ [(k, x)]) :: l)) := ⟨Sep.cls (refL db sz _) v5 (by
      have := (fr1 [_, _] S6).tail
      exact this)⟩
    have AP := Keep.mk ap
    subst hv5
    clear S4 S4a S5 S6 ap HS3
    refine wpAnyH_take (i := 0) (oi := _) (v := ?_) rfl (by kernel_rfl) (by kernel_rfl) (by kernel_rfl) (fun _ _ _ h => h) (Or.inl ⟨by rfl, ?_⟩) (by assumption) ?_
    rotate_left
    · (intro w hSw; go_simp; first | done | (with_reducible rfl))
    simp only [Act.put, List.getElem_toArray, List.getElem_cons_zero, List.setIfInBounds_toArray, List.set_cons_zero, List.set_cons_succ]
    refine wpAnyH_take (i := 1) (oi := _) (v := ?_) rfl (by kernel_rfl) (by kernel_rfl) (by kernel_rfl) (fun _ _ _ h => h) (Or.inl ⟨by rfl, ?_⟩) (by assumption) ?_
    rotate_left
    · (intro w hSw; go_simp; first | done | (with_reducible rfl))
    simp only [Act.put, List.getElem_toArray, List.getElem_cons_succ, List.getElem_cons_zero, List.setIfInBounds_toArray, List.set_cons_zero, List.set_cons_succ]
    refine wpAnyH_take (i := 2) (oi := _) (v := ?_) rfl (by kernel_rfl) (by kernel_rfl) (by kernel_rfl) (fun _ _ _ h => h) (Or.inl ⟨by rfl, ?_⟩) (by assumption) ?_
    rotate_left
    · (intro w hSw; go_simp; first | done | (with_reducible rfl))
    simp only [Act.put, List.getElem_toArray, List.getElem_cons_succ, List.getElem_cons_zero, List.setIfInBounds_toArray, List.set_cons_zero, List.set_cons_succ]
    refine wpAnyH_take (i := 3) (oi := _) (v := ?_) rfl (by kernel_rfl) (by kernel_rfl) (by kernel_rfl) (fun _ _ _ h => h) (Or.inl ⟨by rfl, ?_⟩) (by assumption) ?_
    rotate_left
    · (intro w hSw; go_simp; first | done | (with_reducible rfl))
    simp only [Act.put, List.getElem_toArray, List.getElem_cons_succ, List.getElem_cons_zero, List.setIfInBounds_toArray, List.set_cons_zero, List.set_cons_succ]
    refine wpAnyH_ready (rs := [4, 5]) (by kernel_rfl) (by simp) ?_
    refine AllReadyH.cons rfl (fun K hK => ?_) ?_
    · go_simp
      go_wp2_with fail
      refine hK.out _ _ trivial (fun _ => ?_)
      clear hK K
      refine wpAnyH_ready (rs := [5]) (by kernel_rfl) (by simp) ?_
      refine AllReadyH.cons rfl (fun K hK => ?_) AllReadyH.nil
      go_simp
      go_wp2_with fail
      refine hK.out _ _ trivial (fun _ => ?_)
      clear hK K
      refine wpAnyH_ready (rs := [6]) (by kernel_rfl) (by simp) ?_
      refine AllReadyH.cons rfl (fun K hK => ?_) AllReadyH.nil
      go_simp
      go_wp2_with fail
      refine hK.out _ _ trivial (fun _ => ?_)
      clear hK K
      refine wpAnyH_ready (rs := [7]) (by kernel_rfl) (by simp) ?_
      refine AllReadyH.cons rfl (fun K hK => ?_) AllReadyH.nil
      rw [if_pos (by rfl)]
      refine wp_append_run _ _ 92 rfl _ _ rfl rfl AP.out ?_
      refine hK.out _ _ trivial (fun _ => ?_)
      clear hK K
      refine wpAnyH_take (i := 8) (oi := _) (v := ?_) rfl (by kernel_rfl) (by kernel_rfl) (by kernel_rfl) (fun _ _ _ h => h) (Or.inl ⟨by rfl, ?_⟩) (by assumption) ?_
      rotate_left
      · (intro w hSw; go_simp; first | done | (with_reducible rfl))
      simp only [Act.put, List.getElem_toArray, List.getElem_cons_succ, List.getElem_cons_zero, List.setIfInBounds_toArray, List.set_cons_zero, List.set_cons_succ]
      refine wpAnyH_take (i := 9) (oi := _) (v := ?_) rfl (by kernel_rfl) (by kernel_rfl) (by kernel_rfl) (fun _ _ _ h => h) (Or.inl ⟨by rfl, ?_⟩) (by assumption) ?_
      rotate_left
      · (intro w hSw; go_simp; first | done | (with_reducible rfl))
      simp only [Act.put, List.getElem_toArray, List.getElem_cons_succ, List.getElem_cons_zero, List.setIfInBounds_toArray, List.set_cons_zero, List.set_cons_succ]
      refine wpAnyH_ready (rs := [10]) (by kernel_rfl) (by simp) ?_
      refine AllReadyH.cons rfl (fun K hK => ?_) AllReadyH.nil
      go_simp
      go_wp2_with fail
      refine hK.out _ _ trivial (fun _ => ?_)
      clear hK K
      refine wpAnyH_done (by kernel_rfl) ?_ _
      go_wp2_with fail
      go_ret2
      exact ⟨rfl, HF.out⟩
    refine AllReadyH.cons rfl (fun K hK => ?_) AllReadyH.nil
    go_simp
    go_wp2_with fail
    refine hK.out _ _ trivial (fun _ => ?_)
    clear hK K
    refine wpAnyH_ready (rs := [4, 6]) (by kernel_rfl) (by simp) ?_
    refine AllReadyH.cons rfl (fun K hK => ?_) ?_
    · go_simp
      go_wp2_with fail
      refine hK.out _ _ trivial (fun _ => ?_)
      clear hK K
      refine wpAnyH_ready (rs := [6]) (by kernel_rfl) (by simp) ?_
      refine AllReadyH.cons rfl (fun K hK => ?_) AllReadyH.nil
      go_simp
      go_wp2_with fail
      refine hK.out _ _ trivial (fun _ => ?_)
      clear hK K
      refine wpAnyH_ready (rs := [7]) (by kernel_rfl) (by simp) ?_
      refine AllReadyH.cons rfl (fun K hK => ?_) AllReadyH.nil
      rw [if_pos (by rfl)]
      refine wp_append_run _ _ 92 rfl _ _ rfl rfl AP.out ?_
      refine hK.out _ _ trivial (fun _ => ?_)
      clear hK K
      refine wpAnyH_take (i := 8) (oi := _) (v := ?_) rfl (by kernel_rfl) (by kernel_rfl) (by kernel_rfl) (fun _ _ _ h => h) (Or.inl ⟨by rfl, ?_⟩) (by assumption) ?_
      rotate_left
      · (intro w hSw; go_simp; first | done | (with_reducible rfl))
      simp only [Act.put, List.getElem_toArray, List.getElem_cons_succ, List.getElem_cons_zero, List.setIfInBounds_toArray, List.set_cons_zero, List.set_cons_succ]
      refine wpAnyH_take (i := 9) (oi := _) (v := ?_) rfl (by kernel_rfl) (by kernel_rfl) (by kernel_rfl) (fun _ _ _ h => h) (Or.inl ⟨by rfl, ?_⟩) (by assumption) ?_
      rotate_left
      · (intro w hSw; go_simp; first | done | (with_reducible rfl))
      simp only [Act.put, List.getElem_toArray, List.getElem_cons_succ, List.getElem_cons_zero, List.setIfInBounds_toArray, List.set_cons_zero, List.set_cons_succ]
      refine wpAnyH_ready (rs := [10]) (by kernel_rfl) (by simp) ?_
      refine AllReadyH.cons rfl (fun K hK => ?_) AllReadyH.nil
      go_simp
      go_wp2_with fail
      refine hK.out _ _ trivial (fun _ => ?_)
      clear hK K
      refine wpAnyH_done (by kernel_rfl) ?_ _
      go_wp2_with fail
      go_ret2
      exact ⟨rfl, HF.out⟩
    refine AllReadyH.cons rfl (fun K hK => ?_) AllReadyH.nil
    go_simp
    go_wp2_with fail
    refine hK.out _ _ trivial (fun _ => ?_)
    clear hK K
    refine wpAnyH_ready (rs := [4]) (by kernel_rfl) (by simp) ?_
    refine AllReadyH.cons rfl (fun K hK => ?_) AllReadyH.nil
    go_simp
    go_wp2_with fail
    refine hK.out _ _ trivial (fun _ => ?_)
    clear hK K
    refine wpAnyH_ready (rs := [7]) (by kernel_rfl) (by simp) ?_
    refine AllReadyH.cons rfl (fun K hK => ?_) AllReadyH.nil
    rw [if_pos (by rfl)]
    refine wp_append_run _ _ 92 rfl _ _ rfl rfl AP.out ?_
    refine hK.out _ _ trivial (fun _ => ?_)
    clear hK K
    refine wpAnyH_take (i := 8) (oi := _) (v := ?_) rfl (by kernel_rfl) (by kernel_rfl) (by kernel_rfl) (fun _ _ _ h => h) (Or.inl ⟨by rfl, ?_⟩) (by assumption) ?_
    rotate_left
    · (intro w hSw; go_simp; first | done | (with_reducible rfl))
    simp only [Act.put, List.getElem_toArray, List.getElem_cons_succ, List.getElem_cons_zero, List.setIfInBounds_toArray, List.set_cons_zero, List.set_cons_succ]
    refine wpAnyH_take (i := 9) (oi := _) (v := ?_) rfl (by kernel_rfl) (by kernel_rfl) (by kernel_rfl) (fun _ _ _ h => h) (Or.inl ⟨by rfl, ?_⟩) (by assumption) ?_
    rotate_left
    · (intro w hSw; go_simp; first | done | (with_reducible rfl))
    simp only [Act.put, List.getElem_toArray, List.getElem_cons_succ, List.getElem_cons_zero, List.setIfInBounds_toArray, List.set_cons_zero, List.set_cons_succ]
    refine wpAnyH_ready (rs := [10]) (by kernel_rfl) (by simp) ?_
    refine AllReadyH.cons rfl (fun K hK => ?_) AllReadyH.nil
    go_simp
    go_wp2_with fail
    refine hK.out _ _ trivial (fun _ => ?_)
    clear hK K
    refine wpAnyH_done (by kernel_rfl) ?_ _
    go_wp2_with fail
    go_ret2
    exact ⟨rfl, HF.out⟩
end Go.Proofs.Ytkaakbldkicnaaa
