/- the order of cars and of shots -/
import Derived.Test.YtgedlabmndlooaaGreatC0
import Derived.Laws.EntriesVeiled
import Derived.Shelf.Abstract
import Derived.Lib.Small
namespace Go.Proofs.YtgedlabmndlooaaGreat
open Go Go.RowKit Go.Maps Go.Lib

theorem nan73 (a : Int) (W : World) : Calls Tryz.prog 73 #[.int .i64 a] W fun e w' => e = .returned (.bool false) ∧ w' = W := by
  go_enter Tryz.func73, Tryz.ntmps73
  go_wp2_with fail
  go_ret
  exact ⟨by simp, rfl⟩
set_option maxRecDepth 100000 in
set_option maxHeartbeats 16000000 in
theorem cmp56 (a b : Int) (W : World) : Calls Tryz.prog 56 #[.int .i64 a, .int .i64 b] W fun e w' => e = .returned (.int .i64 (Lib.compareInt a b)) ∧ w' = W := by
  by_cases h1 : a < b
  · skip
    have HE : Keep (Lib.compareInt a b = -1) := ⟨by unfold Lib.compareInt; simp [h1]⟩
    go_enter Tryz.func56, Tryz.ntmps56
    go_wp2_with (go_at_call 73; refine (nan73 _ _).mono ?_; rintro e w' ⟨rfl, rfl⟩)
    go_ret
    rw [HE.out]
    exact ⟨rfl, rfl⟩
  · by_cases h2 : b < a
    · skip
      have HE : Keep (Lib.compareInt a b = 1) := ⟨by unfold Lib.compareInt; simp [h1, h2]⟩
      go_enter Tryz.func56, Tryz.ntmps56
      go_wp2_with (go_at_call 73; refine (nan73 _ _).mono ?_; rintro e w' ⟨rfl, rfl⟩)
      go_ret
      rw [HE.out]
      exact ⟨rfl, rfl⟩
    · skip
      have HE : Keep (Lib.compareInt a b = 0) := ⟨by unfold Lib.compareInt; simp [h1, h2]⟩
      go_enter Tryz.func56, Tryz.ntmps56
      go_wp2_with (go_at_call 73; refine (nan73 _ _).mono ?_; rintro e w' ⟨rfl, rfl⟩)
      go_ret
      rw [HE.out]
      exact ⟨rfl, rfl⟩
theorem cmpI (a b : Int) : Lib.compareInt a b < 0 ↔ a < b := by
  unfold Lib.compareInt
  split
  · omega
  · split <;> omega
abbrev vlC (c : Cr) : Value := .agg #[iv c.pl, .string c.nm, iv c.x, iv c.y, iv c.sx, iv c.sy, iv c.hd, iv c.he, iv c.en, iv c.am, iv c.co, iv c.wa, iv c.sp, iv c.sc]
abbrev nvC : Value := .func (.func 44) #[] #[]
abbrev cvC (kb : Nat) : Value := .func (.func 55) #[] #[pt kb]
theorem enumC : ∀ args w, (callFunc 44 args).run Tryz.prog w = .ok (.enter 44 args) w := enters_of Tryz.func44 (by kernel_rfl) rfl
theorem ecmpC : ∀ args w, (callFunc 55 args).run Tryz.prog w = .ok (.enter 55 args) w := enters_of Tryz.func55 (by kernel_rfl) rfl
set_option maxRecDepth 100000 in
set_option maxHeartbeats 16000000 in
theorem numC (c : Cr) (W : World) : Calls Tryz.prog 44 #[vlC c] W fun e w' => e = .returned (iv c.pl) ∧ W.grownBy w' none := by
  have HG := Keep.mk (gr_alloc W (.cells #[iv c.pl, .string c.nm, iv c.x, iv c.y, iv c.sx, iv c.sy, iv c.hd, iv c.he, iv c.en, iv c.am, iv c.co, iv c.wa, iv c.sp, iv c.sc] 26) none)
  have h0 := (Has.newA W #[iv c.pl, .string c.nm, iv c.x, iv c.y, iv c.sx, iv c.sy, iv c.hd, iv c.he, iv c.en, iv c.am, iv c.co, iv c.wa, iv c.sp, iv c.sc] 26).cellv 0 _ rfl
  go_enter Tryz.func44, Tryz.ntmps44
  go_wp2_with fail
  go_ret
  exact ⟨rfl, HG.out⟩
set_option maxRecDepth 100000 in
set_option maxHeartbeats 16000000 in
theorem cmpC (kb : Nat) (x y : Cr) (W : World) (hk : Has W kb [nvC] 86) : Calls Tryz.prog 55 #[vlC x, vlC y, pt kb] W fun e w' => e = .returned (iv (Lib.compareInt x.pl y.pl)) ∧ W.grownBy w' none := by
  obtain ⟨W1, hW1⟩ : ∃ w, W.alloc (.cells #[iv x.pl, .string x.nm, iv x.x, iv x.y, iv x.sx, iv x.sy, iv x.hd, iv x.he, iv x.en, iv x.am, iv x.co, iv x.wa, iv x.sp, iv x.sc] 26) = w := ⟨_, rfl⟩
  obtain ⟨W2, hW2⟩ : ∃ w, W1.alloc (.cells #[iv y.pl, .string y.nm, iv y.x, iv y.y, iv y.sx, iv y.sy, iv y.hd, iv y.he, iv y.en, iv y.am, iv y.co, iv y.wa, iv y.sp, iv y.sc] 26) = w := ⟨_, rfl⟩
  obtain ⟨b1, hb1⟩ : ∃ b, W.heap.size = b := ⟨_, rfl⟩
  obtain ⟨b2, hb2⟩ : ∃ b, W1.heap.size = b := ⟨_, rfl⟩
  have g1 : W.grownBy W1 none := by rw [← hW1]; exact gr_alloc _ _ _
  have g2 : W1.grownBy W2 none := by rw [← hW2]; exact gr_alloc _ _ _
  have HG := Keep.mk (g1.trans g2)
  have HX : Keep (Has W2 b1 (crv x) 26) := ⟨by
    have q := Has.newA W #[iv x.pl, .string x.nm, iv x.x, iv x.y, iv x.sx, iv x.sy, iv x.hd, iv x.he, iv x.en, iv x.am, iv x.co, iv x.wa, iv x.sp, iv x.sc] 26
    rw [hW1, hb1] at q
    exact q.kept g2 (by simp)⟩
  have HY : Keep (Has W2 b2 (crv y) 26) := ⟨by
    have q := Has.newA W1 #[iv y.pl, .string y.nm, iv y.x, iv y.y, iv y.sx, iv y.sy, iv y.hd, iv y.he, iv y.en, iv y.am, iv y.co, iv y.wa, iv y.sp, iv y.sc] 26
    rw [hW2, hb2] at q
    exact q⟩
  have HK0 : Keep (Has W2 kb [nvC] 86) := ⟨(hk.kept g1 (by simp)).kept g2 (by simp)⟩
  obtain ⟨du, hdu⟩ := under26
  have en := enumC
  clear g1 g2 hk
  go_enter Tryz.func55, Tryz.ntmps55
  go_wp2_with fail
  clear hW1 hW2 hb1 hb2
  refine region_Y (S := fun w' => W2.grownBy w' none) [] (by kernel_rfl) ?_
  obtain ⟨W0, hW0⟩ : ∃ W_, W2.drew = W_ := ⟨_, rfl⟩
  have HB := Keep.mk (gr_drew W2 none)
  rw [hW0] at HB ⊢
  clear hW0
  have hHeld := HB.out
  refine yt (i := 0) (v := ?_) rfl (Or.inl ⟨by rfl, ?_⟩) (by assumption) ?_
  rotate_left
  · (intro w hSw; have q0 := (HK0.out.kept hSw (by simp)).cellv 0 _ rfl; go_simp; first | done | (with_reducible rfl))
  simp only [Act.put, A1, A3, A4, A5, A6]
  refine yt (i := 1) (v := .agg (crv x).toArray) rfl (yieldsIf_load_mid (by rfl) 26 _ rfl _ _ rfl _ _ (fun w hSw => ((HX.out).kept hSw (by simp)).range) hdu.1 hdu.2 info26) (by assumption) ?_
  simp only [Act.put, A1, A2, A3, A4, A5, A6]
  refine yt (i := 3) (v := ?_) rfl (Or.inl ⟨by rfl, ?_⟩) (by assumption) ?_
  rotate_left
  · (intro w hSw; have q0 := (HK0.out.kept hSw (by simp)).cellv 0 _ rfl; go_simp; first | done | (with_reducible rfl))
  simp only [Act.put, A1, A2, A3, A4, A5, A6]
  refine yt (i := 4) (v := .agg (crv y).toArray) rfl (yieldsIf_load_mid (by rfl) 26 _ rfl _ _ rfl _ _ (fun w hSw => ((HY.out).kept hSw (by simp)).range) hdu.1 hdu.2 info26) (by assumption) ?_
  simp only [Act.put, A1, A2, A3, A4, A5, A6]
  refine wpAnyY_one (i := 2) (by kernel_rfl) rfl (fun K hK => ?_)
  go_simp
  refine (numC x _).mono ?_
  rintro e wa ⟨rfl, hg⟩
  replace HB := Keep.mk (HB.out.trans hg)
  refine hK.out _ _ (fun h => h.trans hg) ?_
  clear hK K hg hHeld
  have hHeld := HB.out
  refine wpAnyY_one (i := 5) (by kernel_rfl) rfl (fun K hK => ?_)
  go_simp
  refine (numC y _).mono ?_
  rintro e wb ⟨rfl, hg⟩
  replace HB := Keep.mk (HB.out.trans hg)
  refine hK.out _ _ (fun h => h.trans hg) ?_
  clear hK K hg hHeld
  have hHeld := HB.out
  refine wpAnyY_one (i := 6) (by kernel_rfl) rfl (fun K hK => ?_)
  go_simp
  refine (cmp56 _ _ _).mono ?_
  rintro e wc ⟨rfl, hw⟩
  subst hw
  refine hK.out _ _ (fun h => h) ?_
  clear hK K
  refine wpAnyY_one (i := 7) (by kernel_rfl) rfl (fun K hK => ?_)
  go_simp
  refine hK.out _ _ (fun h => h) ?_
  clear hK K
  refine wpAnyY_done (by kernel_rfl) ?_ _
  go_wp2_with fail
  go_ret
  exact ⟨rfl, HG.out.trans HB.out⟩
abbrev vlS (c : Sh) : Value := .agg #[iv c.id, iv c.pl, iv c.x, iv c.y, iv c.sx, iv c.sy, iv c.lf]
abbrev nvS : Value := .func (.func 48) #[] #[]
abbrev cvS (kb : Nat) : Value := .func (.func 62) #[] #[pt kb]
theorem enumS : ∀ args w, (callFunc 48 args).run Tryz.prog w = .ok (.enter 48 args) w := enters_of Tryz.func48 (by kernel_rfl) rfl
theorem ecmpS : ∀ args w, (callFunc 62 args).run Tryz.prog w = .ok (.enter 62 args) w := enters_of Tryz.func62 (by kernel_rfl) rfl
set_option maxRecDepth 100000 in
set_option maxHeartbeats 16000000 in
theorem numS (c : Sh) (W : World) : Calls Tryz.prog 48 #[vlS c] W fun e w' => e = .returned (iv c.id) ∧ W.grownBy w' none := by
  have HG := Keep.mk (gr_alloc W (.cells #[iv c.id, iv c.pl, iv c.x, iv c.y, iv c.sx, iv c.sy, iv c.lf] 46) none)
  have h0 := (Has.newA W #[iv c.id, iv c.pl, iv c.x, iv c.y, iv c.sx, iv c.sy, iv c.lf] 46).cellv 0 _ rfl
  go_enter Tryz.func48, Tryz.ntmps48
  go_wp2_with fail
  go_ret
  exact ⟨rfl, HG.out⟩
set_option maxRecDepth 100000 in
set_option maxHeartbeats 16000000 in
theorem cmpS (kb : Nat) (x y : Sh) (W : World) (hk : Has W kb [nvS] 91) : Calls Tryz.prog 62 #[vlS x, vlS y, pt kb] W fun e w' => e = .returned (iv (Lib.compareInt x.id y.id)) ∧ W.grownBy w' none := by
  obtain ⟨W1, hW1⟩ : ∃ w, W.alloc (.cells #[iv x.id, iv x.pl, iv x.x, iv x.y, iv x.sx, iv x.sy, iv x.lf] 46) = w := ⟨_, rfl⟩
  obtain ⟨W2, hW2⟩ : ∃ w, W1.alloc (.cells #[iv y.id, iv y.pl, iv y.x, iv y.y, iv y.sx, iv y.sy, iv y.lf] 46) = w := ⟨_, rfl⟩
  obtain ⟨b1, hb1⟩ : ∃ b, W.heap.size = b := ⟨_, rfl⟩
  obtain ⟨b2, hb2⟩ : ∃ b, W1.heap.size = b := ⟨_, rfl⟩
  have g1 : W.grownBy W1 none := by rw [← hW1]; exact gr_alloc _ _ _
  have g2 : W1.grownBy W2 none := by rw [← hW2]; exact gr_alloc _ _ _
  have HG := Keep.mk (g1.trans g2)
  have HX : Keep (Has W2 b1 (shv x) 46) := ⟨by
    have q := Has.newA W #[iv x.id, iv x.pl, iv x.x, iv x.y, iv x.sx, iv x.sy, iv x.lf] 46
    rw [hW1, hb1] at q
    exact q.kept g2 (by simp)⟩
  have HY : Keep (Has W2 b2 (shv y) 46) := ⟨by
    have q := Has.newA W1 #[iv y.id, iv y.pl, iv y.x, iv y.y, iv y.sx, iv y.sy, iv y.lf] 46
    rw [hW2, hb2] at q
    exact q⟩
  have HK0 : Keep (Has W2 kb [nvS] 91) := ⟨(hk.kept g1 (by simp)).kept g2 (by simp)⟩
  obtain ⟨du, hdu⟩ := under46
  have en := enumS
  clear g1 g2 hk
  go_enter Tryz.func62, Tryz.ntmps62
  go_wp2_with fail
  clear hW1 hW2 hb1 hb2
  refine region_Y (S := fun w' => W2.grownBy w' none) [] (by kernel_rfl) ?_
  obtain ⟨W0, hW0⟩ : ∃ W_, W2.drew = W_ := ⟨_, rfl⟩
  have HB := Keep.mk (gr_drew W2 none)
  rw [hW0] at HB ⊢
  clear hW0
  have hHeld := HB.out
  refine yt (i := 0) (v := ?_) rfl (Or.inl ⟨by rfl, ?_⟩) (by assumption) ?_
  rotate_left
  · (intro w hSw; have q0 := (HK0.out.kept hSw (by simp)).cellv 0 _ rfl; go_simp; first | done | (with_reducible rfl))
  simp only [Act.put, A1, A3, A4, A5, A6]
  refine yt (i := 1) (v := .agg (shv x).toArray) rfl (yieldsIf_load_mid (by rfl) 46 _ rfl _ _ rfl _ _ (fun w hSw => ((HX.out).kept hSw (by simp)).range) hdu.1 hdu.2 info46) (by assumption) ?_
  simp only [Act.put, A1, A2, A3, A4, A5, A6]
  refine yt (i := 3) (v := ?_) rfl (Or.inl ⟨by rfl, ?_⟩) (by assumption) ?_
  rotate_left
  · (intro w hSw; have q0 := (HK0.out.kept hSw (by simp)).cellv 0 _ rfl; go_simp; first | done | (with_reducible rfl))
  simp only [Act.put, A1, A2, A3, A4, A5, A6]
  refine yt (i := 4) (v := .agg (shv y).toArray) rfl (yieldsIf_load_mid (by rfl) 46 _ rfl _ _ rfl _ _ (fun w hSw => ((HY.out).kept hSw (by simp)).range) hdu.1 hdu.2 info46) (by assumption) ?_
  simp only [Act.put, A1, A2, A3, A4, A5, A6]
  refine wpAnyY_one (i := 2) (by kernel_rfl) rfl (fun K hK => ?_)
  go_simp
  refine (numS x _).mono ?_
  rintro e wa ⟨rfl, hg⟩
  replace HB := Keep.mk (HB.out.trans hg)
  refine hK.out _ _ (fun h => h.trans hg) ?_
  clear hK K hg hHeld
  have hHeld := HB.out
  refine wpAnyY_one (i := 5) (by kernel_rfl) rfl (fun K hK => ?_)
  go_simp
  refine (numS y _).mono ?_
  rintro e wb ⟨rfl, hg⟩
  replace HB := Keep.mk (HB.out.trans hg)
  refine hK.out _ _ (fun h => h.trans hg) ?_
  clear hK K hg hHeld
  have hHeld := HB.out
  refine wpAnyY_one (i := 6) (by kernel_rfl) rfl (fun K hK => ?_)
  go_simp
  refine (cmp56 _ _ _).mono ?_
  rintro e wc ⟨rfl, hw⟩
  subst hw
  refine hK.out _ _ (fun h => h) ?_
  clear hK K
  refine wpAnyY_one (i := 7) (by kernel_rfl) rfl (fun K hK => ?_)
  go_simp
  refine hK.out _ _ (fun h => h) ?_
  clear hK K
  refine wpAnyY_done (by kernel_rfl) ?_ _
  go_wp2_with fail
  go_ret
  exact ⟨rfl, HG.out.trans HB.out⟩
end Go.Proofs.YtgedlabmndlooaaGreat
