/- the reference: Sin, Cos -/
import Derived.Test.YtmacmoikjgmaoaaDoorS1
namespace Go.Proofs.YtmacmoikjgmaoaaDoor
open Go Go.RowKit

set_option maxRecDepth 100000 in
theorem sinZ_low (h : Int) (h0 : 0 ≤ h) (h1 : h < 128) : sinZ h = rz h := by
  unfold sinZ
  rw [Int.emod_eq_of_lt h0 (by omega), if_neg (by omega)]

set_option maxRecDepth 100000 in
set_option maxHeartbeats 2000000 in
theorem rsin_low (h : Int) (h0 : 0 ≤ h) (h1 : h < 128) (w : World) :
    Calls Tryd.prog 59 #[.int .i64 h] w fun e w' => e = .returned (.int .i64 (rz h)) ∧ w.grownBy w' none := by
  have c1 := rsines_k w
  have hm : h % 256 = h := Int.emod_eq_of_lt h0 (by omega)
  unfold rz
  by_cases c : 64 < h
  · rw [if_pos c]
    obtain ⟨v, hv⟩ : ∃ v, sN (128 - h).toNat = v := ⟨_, rfl⟩
    rw [hv]
    go_enter Tryd.func59, Tryd.ntmps59
    go_wp2_with fail
    refine c1.mono ?_
    rintro e w' ⟨rfl, hg, hc⟩
    have k1 := hc (128 - h).toNat (by omega)
    rw [hv] at k1
    clear hc hv
    have HG := Keep.mk hg
    clear hg
    go_wp2_with fail
    go_ret
    exact ⟨rfl, HG.out⟩
  · rw [if_neg c]
    obtain ⟨v, hv⟩ : ∃ v, sN h.toNat = v := ⟨_, rfl⟩
    rw [hv]
    go_enter Tryd.func59, Tryd.ntmps59
    go_wp2_with fail
    refine c1.mono ?_
    rintro e w' ⟨rfl, hg, hc⟩
    have k1 := hc h.toNat (by omega)
    rw [hv] at k1
    clear hc hv
    have HG := Keep.mk hg
    clear hg
    go_wp2_with fail
    go_ret
    exact ⟨rfl, HG.out⟩

set_option maxRecDepth 100000 in
set_option maxHeartbeats 2000000 in
theorem rsin_c (h : Int) (hI : In h) (w : World) :
    Calls Tryd.prog 59 #[.int .i64 h] w fun e w' => e = .returned (.int .i64 (sinZ h)) ∧ w.grownBy w' none := by
  obtain ⟨hI1, hI2⟩ := hI
  obtain ⟨k, hz⟩ : ∃ k, h % 256 = k := ⟨_, rfl⟩
  have hk : 0 ≤ k ∧ k < 256 := by omega
  have HS : Keep (sinZ h = (if 128 ≤ k then -rz (k - 128) else rz k)) := ⟨by unfold sinZ; rw [hz]⟩
  rw [HS.out]
  clear HS
  obtain ⟨t, ht⟩ : ∃ t, h.tmod 256 = t := ⟨_, rfl⟩
  have htk : t = k ∨ t = k - 256 := by
    have h1 := Int.tmod_eq_emod (a := h) (b := 256)
    rw [ht, hz] at h1
    rw [h1]
    split <;> omega
  by_cases c : 128 ≤ k
  · rw [if_pos c]
    have c1 := rsin_low (k - 128) (by omega) (by omega) w
    have hr := rz_range (k - 128) (by omega) (by omega)
    generalize rz (k - 128) = v at *
    clear hz
    by_cases hn : t < 0
    · have hk2 : t + 256 = k := by omega
      clear htk
      go_enter Tryd.func59, Tryd.ntmps59
      go_wp2_with fail
      refine c1.mono ?_
      rintro e w' ⟨rfl, hg⟩
      have HG := Keep.mk hg
      clear hg
      go_wp2_with fail
      go_ret
      exact ⟨rfl, HG.out⟩
    · have hk2 : t = k := by omega
      subst hk2
      clear htk
      go_enter Tryd.func59, Tryd.ntmps59
      go_wp2_with fail
      refine c1.mono ?_
      rintro e w' ⟨rfl, hg⟩
      have HG := Keep.mk hg
      clear hg
      go_wp2_with fail
      go_ret
      exact ⟨rfl, HG.out⟩
  · rw [if_neg c]
    have c1 := rsines_k w
    clear hz
    unfold rz
    by_cases g : 64 < k
    · rw [if_pos g]
      obtain ⟨v, hv⟩ : ∃ v, sN (128 - k).toNat = v := ⟨_, rfl⟩
      rw [hv]
      by_cases hn : t < 0
      · have hk2 : t + 256 = k := by omega
        clear htk
        go_enter Tryd.func59, Tryd.ntmps59
        go_wp2_with fail
        refine c1.mono ?_
        rintro e w' ⟨rfl, hg, hc⟩
        have k1 := hc (128 - k).toNat (by omega)
        rw [hv] at k1
        clear hc hv
        have HG := Keep.mk hg
        clear hg
        go_wp2_with fail
        go_ret
        exact ⟨rfl, HG.out⟩
      · have hk2 : t = k := by omega
        subst hk2
        clear htk
        go_enter Tryd.func59, Tryd.ntmps59
        go_wp2_with fail
        refine c1.mono ?_
        rintro e w' ⟨rfl, hg, hc⟩
        have k1 := hc (128 - t).toNat (by omega)
        rw [hv] at k1
        clear hc hv
        have HG := Keep.mk hg
        clear hg
        go_wp2_with fail
        go_ret
        exact ⟨rfl, HG.out⟩
    · rw [if_neg g]
      obtain ⟨v, hv⟩ : ∃ v, sN k.toNat = v := ⟨_, rfl⟩
      rw [hv]
      by_cases hn : t < 0
      · have hk2 : t + 256 = k := by omega
        clear htk
        go_enter Tryd.func59, Tryd.ntmps59
        go_wp2_with fail
        refine c1.mono ?_
        rintro e w' ⟨rfl, hg, hc⟩
        have k1 := hc (k).toNat (by omega)
        rw [hv] at k1
        clear hc hv
        have HG := Keep.mk hg
        clear hg
        go_wp2_with fail
        go_ret
        exact ⟨rfl, HG.out⟩
      · have hk2 : t = k := by omega
        subst hk2
        clear htk
        go_enter Tryd.func59, Tryd.ntmps59
        go_wp2_with fail
        refine c1.mono ?_
        rintro e w' ⟨rfl, hg, hc⟩
        have k1 := hc (t).toNat (by omega)
        rw [hv] at k1
        clear hc hv
        have HG := Keep.mk hg
        clear hg
        go_wp2_with fail
        go_ret
        exact ⟨rfl, HG.out⟩

set_option maxRecDepth 100000 in
set_option maxHeartbeats 2000000 in
theorem rcos_c (h : Int) (w : World) :
    Calls Tryd.prog 58 #[.int .i64 h] w fun e w' => e = .returned (.int .i64 (sinZ (h + 64))) ∧ w.grownBy w' none := by
  obtain ⟨t, ht⟩ : ∃ t, h.tmod 256 = t := ⟨_, rfl⟩
  have htk : t = h % 256 ∨ t = h % 256 - 256 := by
    have h1 := Int.tmod_eq_emod (a := h) (b := 256)
    rw [ht] at h1
    rw [h1]
    split <;> omega
  have HS : Keep (sinZ (h + 64) = sinZ (t + 64)) := ⟨by
    have : (h + 64) % 256 = (t + 64) % 256 := by omega
    unfold sinZ; rw [this]⟩
  rw [HS.out]
  have hmod := Int.emod_nonneg h (show (256 : Int) ≠ 0 by omega)
  have hmod2 := Int.emod_lt_of_pos h (show (0 : Int) < 256 by omega)
  have tb : -256 ≤ t ∧ t < 256 := by rcases htk with e | e <;> omega
  clear hmod hmod2
  have hIn : In (t + 64) := by unfold In; omega
  have c1 := rsin_c (t + 64) hIn w
  clear hIn
  generalize sinZ (t + 64) = v at *
  clear HS htk
  go_enter Tryd.func58, Tryd.ntmps58
  go_wp2_with fail
  refine c1.mono ?_
  rintro e w' ⟨rfl, hg⟩
  have HG := Keep.mk hg
  clear hg
  go_wp2_with fail
  go_ret
  exact ⟨rfl, HG.out⟩
end Go.Proofs.YtmacmoikjgmaoaaDoor
