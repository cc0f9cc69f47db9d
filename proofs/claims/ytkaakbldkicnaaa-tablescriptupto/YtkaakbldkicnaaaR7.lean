/- the document's table: Put, New. -/
import Derived.Test.YtkaakbldkicnaaaR6
namespace Go.Proofs.Ytkaakbldkicnaaa
open Go Go.RowKit Go.Maps

set_option maxHeartbeats 4000000 in
theorem rput_s {w0 W : World} {l : List As} {db sz : Nat} {L : KV} (k : ByteArray) (y : Int) (h : Sep w0 W (refA db sz L :: l)) (ok : TabOk sz L) :
    Calls Try.prog 43 #[pt db, .string k, iv y] W fun r W' => r = .returned (.tuple #[.string (Tb.goneK sz L k), .bool (Tb.goneB sz L k)]) ∧ Sep w0 W' (refA db sz (Tb.putL sz L k y) :: l) := by
  obtain ⟨v, h⟩ := h.opn
  change Sep w0 W (boxA db [v, iv (sz : Nat)] 94 :: rowV 97 2 v L.length (its L) :: l) at h
  have c0 : W.cell? ⟨db, 0, none⟩ = some v := (h.boxGet k0m).cellv 0 _ rfl
  have cz : W.cell? ⟨db, 1, none⟩ = some (iv (sz : Nat)) := (h.boxGet k0m).cellv 1 _ rfl
  have hI := itm_of (h.rowGet k1m)
  have hn : L.length ≤ 4096 := by have := ok.le; have := ok.hi; omega
  rcases Tb.two L k ok.nk with ⟨h1, h2⟩ | ⟨A, x, C, hL, hA, hC, h2⟩
  · have hp := place_no W db v L k c0 hI hn h1
    by_cases hf : L.length = sz
    · have e1 : Tb.goneB sz L k = true := by simp [Tb.goneB, h2, hf]
      obtain ⟨p, L', hL⟩ : ∃ p L', L = p :: L' := by
        cases L with
        | nil => have := ok.lo; simp at hf; omega
        | cons p L' => exact ⟨p, L', rfl⟩
      have e2 : Tb.goneK sz L k = p.1 := by unfold Tb.goneK; rw [e1, hL]; rfl
      have e3 : Tb.putL sz L k y = L' ++ [(k, y)] := by unfold Tb.putL; rw [h2, if_neg (by simp), if_pos hf, hL]; rfl
      have e4 : L.eraseIdx 0 = L' := by rw [hL]; rfl
      rw [e1, e2, e3]
      obtain ⟨g, cap, rfl⟩ := hI.form (by rw [hL]; simp)
      obtain ⟨a, cc, e, hq⟩ := hI.o
      injection e with ea
      subst ea
      obtain ⟨g', e, hq⟩ := hq (by rw [hL]; simp)
      injection e with e
      injection e with e
      subst e
      have cp := (hq 0 p (by rw [hL]; rfl)).1
      rw [Nat.zero_mul] at cp
      have ho : ∀ w, W.grownBy w none → Calls Try.prog 52 #[pt db, iv 0] w fun r W' => r = .returned (.tuple #[]) ∧ ∃ v', Sep w0 W' (boxA db [v', iv (sz : Nat)] 94 :: rowV 97 2 v' L'.length (its L') :: l) := fun w g => by
        have := out_c w0 w db 0 _ (iv (sz : Nat)) L l (h.grown g) hn (by rw [hL]; simp)
        rw [e4] at this
        exact this
      have HO := Keep.mk ho
      have hl2 : L'.length ≤ 5000 := by rw [hL] at hn; simp at hn; omega
      have hlp : (0 : Int) < (L.length : Nat) := by rw [hL, List.length_cons]; omega
      generalize L.length = n at *
      subst hf
      clear h hI h1 h2 e4 hq ho hL e1 e2 e3 ok
      go_enter Try.func43, Try.ntmps43
      go_wp2_with fail
      refine hp.mono ?_
      rintro r w2 ⟨rfl, rfl⟩
      clear hp
      go_wp2_with fail
      go_quiet (fail)
      generalize hw3 : World.drewN w2 _ = w3
      have g3 : w2.grownBy w3 none := by rw [← hw3]; exact gr_drewN _ _ _
      have c0' := g3.cell c0 (by simp)
      have cp' := g3.cell cp (by simp)
      clear hw3 c0 cp cz
      go_wp2_with fail
      refine (HO.out w3 g3).mono ?_
      rintro r w4 ⟨rfl, v', S4⟩
      clear HO g3 c0' cp'
      obtain ⟨a4, c4, rfl⟩ := own_slice (S4.rowGet k1m)
      obtain ⟨g5, c5, w5, ap, S5⟩ := S4.swap.item (k, y) hl2
      have y0 := (S4.boxGet k0m).one
      have z0 := (S5.boxGet k1m).one
      have z1 : w5.frozen? ⟨db, 0, none⟩ = false := (S5.boxGet k1m).frozen 0
      generalize hv5 : Value.slice (some ⟨g5, 0, none⟩) (L'.length + 1) c5 = v5 at *
      have S6 := S5.swap.boxPut 0 v5
      have HF : Keep (Sep w0 (w5.setCell ⟨db, 0, none⟩ v5) (refA db n (L' ++ [(k, y)]) :: l)) := ⟨Sep.cls (refL db n _) v5 S6⟩
      have AP := Keep.mk ap
      subst hv5
      clear S4 S5 S6 ap
      go_wp2_with ((first | (at_builtin; refine wpList_append_run _ rfl (.tmp 42) (.tmp 46) 92 rfl _ _ rfl rfl AP.out ?_)))
      go_ret2
      exact ⟨rfl, HF.out⟩
    · have hlt : L.length < sz := by have := ok.le; omega
      have e1 : Tb.goneB sz L k = false := by simp [Tb.goneB, hf]
      have e2 : Tb.goneK sz L k = ⟨#[]⟩ := by unfold Tb.goneK; rw [e1]; rfl
      have e3 : Tb.putL sz L k y = L ++ [(k, y)] := by unfold Tb.putL; rw [h2, if_neg (by simp), if_neg hf]
      rw [e1, e2, e3]
      obtain ⟨a4, c4, rfl⟩ := own_slice (h.rowGet k1m)
      have HS := Keep.mk h
      have hge : decide ((sz : Int) ≤ ((L.length : Nat) : Int)) = false := by simp; omega
      have hge2 : decide (sz ≤ L.length) = false := by simp; omega
      have hl2 : L.length ≤ 5000 := by omega
      clear h hI h1 h2 e1 e2 e3 ok hlt
      go_enter Try.func43, Try.ntmps43
      go_wp2_with fail
      refine hp.mono ?_
      rintro r w2 ⟨rfl, rfl⟩
      clear hp
      go_wp2_with fail
      go_quiet (fail)
      generalize hw3 : World.drewN w2 _ = w3
      have S4 := HS.out.grown (show w2.grownBy w3 none by rw [← hw3]; exact gr_drewN _ _ _)
      clear hw3 c0 cz HS
      obtain ⟨g5, c5, w5, ap, S5⟩ := S4.swap.item (k, y) hl2
      have y0 := (S4.boxGet k0m).one
      have z0 := (S5.boxGet k1m).one
      have z1 : w5.frozen? ⟨db, 0, none⟩ = false := (S5.boxGet k1m).frozen 0
      generalize hv5 : Value.slice (some ⟨g5, 0, none⟩) (L.length + 1) c5 = v5 at *
      have S6 := S5.swap.boxPut 0 v5
      have HF : Keep (Sep w0 (w5.setCell ⟨db, 0, none⟩ v5) (refA db sz (L ++ [(k, y)]) :: l)) := ⟨Sep.cls (refL db sz _) v5 S6⟩
      have AP := Keep.mk ap
      subst hv5
      clear S4 S5 S6 ap hf hge hge2
      go_wp2_with ((first | (at_builtin; refine wpList_append_run _ rfl (.tmp 42) (.tmp 46) 92 rfl _ _ rfl rfl AP.out ?_)))
      go_ret2
      exact ⟨rfl, HF.out⟩
  · have hp := place_at W db v L A C x k c0 hI hn hL hA
    have ho := out_c w0 W db A.length v (iv (sz : Nat)) L l h hn (by rw [hL]; simp)
    have er : L.eraseIdx A.length = A ++ C := by rw [hL, erase_mid]
    have e1 : Tb.goneB sz L k = false := by simp [Tb.goneB, h2]
    have e2 : Tb.goneK sz L k = ⟨#[]⟩ := by unfold Tb.goneK; rw [e1]; rfl
    have e3 : Tb.putL sz L k y = A ++ C ++ [(k, y)] := by rw [hL, Tb.put_mid hA hC]
    rw [e1, e2, e3]
    rw [er] at ho
    have hl2 : (A ++ C).length ≤ 5000 := by rw [hL] at hn; simp at hn ⊢; omega
    obtain ⟨M, hM⟩ : ∃ M, A ++ C = M := ⟨_, rfl⟩
    obtain ⟨m, hm⟩ : ∃ m, A.length = m := ⟨_, rfl⟩
    rw [hM] at ho hl2 ⊢
    rw [hm] at ho hp
    have hge0 : decide (0 ≤ (m : Int)) = true := by simp
    clear h hI h2 hL hm hM er e1 e2 e3 ok
    go_enter Try.func43, Try.ntmps43
    go_wp2_with fail
    refine hp.mono ?_
    rintro r w2 ⟨rfl, rfl⟩
    clear hp c0 cz
    go_wp2_with fail
    refine ho.mono ?_
    rintro r w4 ⟨rfl, v', S4⟩
    clear ho
    obtain ⟨a4, c4, rfl⟩ := own_slice (S4.rowGet k1m)
    obtain ⟨g5, c5, w5, ap, S5⟩ := S4.swap.item (k, y) hl2
    have y0 := (S4.boxGet k0m).one
    have z0 := (S5.boxGet k1m).one
    have z1 : w5.frozen? ⟨db, 0, none⟩ = false := (S5.boxGet k1m).frozen 0
    generalize hv5 : Value.slice (some ⟨g5, 0, none⟩) (M.length + 1) c5 = v5 at *
    have S6 := S5.swap.boxPut 0 v5
    have HF : Keep (Sep w0 (w5.setCell ⟨db, 0, none⟩ v5) (refA db sz (M ++ [(k, y)]) :: l)) := ⟨Sep.cls (refL db sz _) v5 S6⟩
    have AP := Keep.mk ap
    subst hv5
    clear S4 S5 S6 ap
    go_wp2_with ((first | (at_builtin; refine wpList_append_run _ rfl (.tmp 42) (.tmp 46) 92 rfl _ _ rfl rfl AP.out ?_)))
    go_ret2
    exact ⟨rfl, HF.out⟩
set_option maxHeartbeats 2000000 in
theorem rnew_yes {w0 W : World} {l : List As} (sz : Nat) (h : Sep w0 W l) (h1 : 1 ≤ sz) (h2 : sz ≤ 4096) :
    Calls Try.prog 40 #[iv (sz : Nat)] W fun r W' => ∃ db, r = .returned (.tuple #[pt db, iv 0]) ∧ Sep w0 W' (refA db sz [] :: l) := by
  have S := (h.nilV 97 2).newBox #[.slice none 0 0, iv (sz : Nat)] 94
  have HF : Keep (Sep w0 (W.alloc (.cells #[.slice none 0 0, iv (sz : Nat)] 94)) (refA W.heap.size sz [] :: l)) := ⟨Sep.cls (refL _ sz []) (.slice none 0 0) S⟩
  have a1 : ¬ (sz : Int) < 1 := by omega
  have a2 : ¬ (4096 : Int) < (sz : Int) := by omega
  clear h S
  go_enter Try.func40, Try.ntmps40
  go_wp2_with fail
  go_ret2
  exact ⟨_, rfl, HF.out⟩
set_option maxHeartbeats 2000000 in
theorem rnew_no (W : World) (sz : Int) (h : sz < 1 ∨ 4096 < sz) :
    Calls Try.prog 40 #[iv sz] W fun r W' => r = .returned (.tuple #[np, iv 110]) ∧ W' = W := by
  rcases h with h | h
  · go_enter Try.func40, Try.ntmps40
    go_wp2_with fail
    go_ret2
    exact ⟨rfl, rfl⟩
  · have a1 : ¬ (sz : Int) < 1 := by omega
    go_enter Try.func40, Try.ntmps40
    go_wp2_with fail
    go_ret2
    exact ⟨rfl, rfl⟩
end Go.Proofs.Ytkaakbldkicnaaa
