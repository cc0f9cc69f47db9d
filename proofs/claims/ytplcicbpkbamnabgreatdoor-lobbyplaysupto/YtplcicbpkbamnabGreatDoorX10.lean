import Derived.Test.YtplcicbpkbamnabGreatDoorX9
/- the reference: good, Check, Runes, Cut. -/
namespace Go.Proofs.YtplcicbpkbamnabGreatDoor.Lo.Na
open Go Go.RowKit

/-- runes that a slice shows -/
def SrcP (w : World) (A : Option Addr) (n c : Nat) (ps : List (Nat × List UInt8)) : Prop := n = ps.length ∧ n ≤ c ∧ (A = none → c = 0) ∧ ∀ ad, A = some ad → ∃ b o, ad = ⟨b, o, none⟩ ∧ ∀ (j : Nat) p, ps[j]? = some p → w.cell? ⟨b, o + j * 2, none⟩ = some (.int .i64 (p.1 : Int)) ∧ w.cell? ⟨b, o + j * 2 + 1, none⟩ = some (.string (mk p.2))
set_option maxRecDepth 100000 in
theorem pcs_get (ps : List (Nat × List UInt8)) (j : Nat) (p : Nat × List UInt8) (h : ps[j]? = some p) : (pcs ps)[j * 2]? = some (.int .i64 (p.1 : Int)) ∧ (pcs ps)[j * 2 + 1]? = some (.string (mk p.2)) := by
  induction ps generalizing j with
  | nil => simp at h
  | cons q r ih =>
    have e : pcs (q :: r) = .int .i64 (q.1 : Int) :: .string (mk q.2) :: pcs r := rfl
    rw [e]
    cases j with
    | zero => simp at h; subst h; exact ⟨rfl, rfl⟩
    | succ j =>
      have := ih j (by simpa using h)
      rw [show (j + 1) * 2 = j * 2 + 2 by omega]
      exact this
set_option maxRecDepth 100000 in
theorem RowP.src {B : Nat} {w : World} {v : Value} {ps : List (Nat × List UInt8)} (h : RowP B w v ps) : ∃ A c, v = .slice A ps.length c ∧ SrcP w A ps.length c ps := by
  have hc := fun g (hv : v.ownBlock = some g) => World.ownsRow.cells (w := w) h (g := g) hv
  obtain ⟨h1, h2⟩ := h
  rcases h2 with ⟨rfl, h0⟩ | ⟨g, cap, cur, rfl, hb, hheap, h1, h2, h3, h4⟩
  · exact ⟨none, 0, by rw [h0], rfl, by omega, fun _ => rfl, fun _ e => (by cases e)⟩
  · refine ⟨_, cap, rfl, rfl, h1, fun e => (by cases e), fun ad e => ?_⟩
    cases e
    refine ⟨g, 0, rfl, fun j p hp => ?_⟩
    obtain ⟨q1, q2⟩ := pcs_get ps j p hp
    have a1 := hc g rfl _ _ q1
    have a2 := hc g rfl _ _ q2
    rw [Addr.add_mid] at a1 a2
    rw [← Nat.add_assoc] at a2
    exact ⟨a1, a2⟩
set_option maxRecDepth 100000 in
theorem SrcP.kept {w w' : World} {A : Option Addr} {n c : Nat} {ps : List (Nat × List UInt8)} (h : SrcP w A n c ps) (hg : w.grownBy w' none) : SrcP w' A n c ps := by
  refine ⟨h.1, h.2.1, h.2.2.1, fun ad e => ?_⟩
  obtain ⟨b, o, e1, h2⟩ := h.2.2.2 ad e
  exact ⟨b, o, e1, fun j p hp => ⟨hg.cell (h2 j p hp).1 (by simp), hg.cell (h2 j p hp).2 (by simp)⟩⟩

/-- a name's rune, in the reference's words -/
def gdI (n : Int) : Prop := (97 ≤ n ∧ n ≤ 122) ∨ (65 ≤ n ∧ n ≤ 90) ∨ (48 ≤ n ∧ n ≤ 57) ∨ n = 95 ∨ n = 45 ∨ (192 ≤ n ∧ n ≤ 255 ∧ n ≠ 215 ∧ n ≠ 247) ∨ (945 ≤ n ∧ n ≤ 969)
instance (n : Int) : Decidable (gdI n) := by unfold gdI; exact inferInstance
set_option maxRecDepth 100000 in
theorem gd_fnd (n : Nat) : (fnd n).isSome = decide (gdI n) := by
  rw [Bool.eq_iff_iff, fnd_good, decide_eq_true_eq]
  unfold gdI
  omega
set_option maxRecDepth 100000 in
set_option maxHeartbeats 8000000 in
theorem good_c (n : Int) (w : World) (hn : 0 ≤ n) : Calls Tryz.prog 69 #[iv n] w fun e w' => e = .returned (.bool (decide (gdI n))) ∧ w' = w := by
  go_enter Tryz.func69, Tryz.ntmps69
  obtain ⟨G, hG⟩ : ∃ G, decide (gdI n) = G := ⟨_, rfl⟩
  rw [hG]
  have HG := Keep.mk hG
  clear hG
  by_cases i0 : n < 45
  case pos =>
    have e : G = false := by rw [← HG.out]; exact decide_eq_false (by unfold gdI; omega)
    subst e
    go_wp2_with fail
    go_ret
    exact ⟨by first | rfl | (simp; omega), rfl⟩
  case neg =>
  by_cases i1 : n < 46
  case pos =>
    obtain rfl : n = 45 := by omega
    have e : G = true := by rw [← HG.out]; exact decide_eq_true (by unfold gdI; omega)
    subst e
    go_wp2_with fail
    go_ret
    exact ⟨by first | rfl | (simp; omega), rfl⟩
  case neg =>
  by_cases i2 : n < 48
  case pos =>
    have e : G = false := by rw [← HG.out]; exact decide_eq_false (by unfold gdI; omega)
    subst e
    go_wp2_with fail
    go_ret
    exact ⟨by first | rfl | (simp; omega), rfl⟩
  case neg =>
  by_cases i3 : n < 58
  case pos =>
    have e : G = true := by rw [← HG.out]; exact decide_eq_true (by unfold gdI; omega)
    subst e
    go_wp2_with fail
    go_ret
    exact ⟨by first | rfl | (simp; omega), rfl⟩
  case neg =>
  by_cases i4 : n < 65
  case pos =>
    have e : G = false := by rw [← HG.out]; exact decide_eq_false (by unfold gdI; omega)
    subst e
    go_wp2_with fail
    go_ret
    exact ⟨by first | rfl | (simp; omega), rfl⟩
  case neg =>
  by_cases i5 : n < 91
  case pos =>
    have e : G = true := by rw [← HG.out]; exact decide_eq_true (by unfold gdI; omega)
    subst e
    go_wp2_with fail
    go_ret
    exact ⟨by first | rfl | (simp; omega), rfl⟩
  case neg =>
  by_cases i6 : n < 95
  case pos =>
    have e : G = false := by rw [← HG.out]; exact decide_eq_false (by unfold gdI; omega)
    subst e
    go_wp2_with fail
    go_ret
    exact ⟨by first | rfl | (simp; omega), rfl⟩
  case neg =>
  by_cases i7 : n < 96
  case pos =>
    obtain rfl : n = 95 := by omega
    have e : G = true := by rw [← HG.out]; exact decide_eq_true (by unfold gdI; omega)
    subst e
    go_wp2_with fail
    go_ret
    exact ⟨by first | rfl | (simp; omega), rfl⟩
  case neg =>
  by_cases i8 : n < 97
  case pos =>
    obtain rfl : n = 96 := by omega
    have e : G = false := by rw [← HG.out]; exact decide_eq_false (by unfold gdI; omega)
    subst e
    go_wp2_with fail
    go_ret
    exact ⟨by first | rfl | (simp; omega), rfl⟩
  case neg =>
  by_cases i9 : n < 123
  case pos =>
    have e : G = true := by rw [← HG.out]; exact decide_eq_true (by unfold gdI; omega)
    subst e
    go_wp2_with fail
    go_ret
    exact ⟨by first | rfl | (simp; omega), rfl⟩
  case neg =>
  by_cases i10 : n < 192
  case pos =>
    have e : G = false := by rw [← HG.out]; exact decide_eq_false (by unfold gdI; omega)
    subst e
    go_wp2_with fail
    go_ret
    exact ⟨by first | rfl | (simp; omega), rfl⟩
  case neg =>
  by_cases i11 : n < 215
  case pos =>
    have e : G = true := by rw [← HG.out]; exact decide_eq_true (by unfold gdI; omega)
    subst e
    go_wp2_with fail
    go_ret
    exact ⟨by first | rfl | (simp; omega), rfl⟩
  case neg =>
  by_cases i12 : n < 216
  case pos =>
    obtain rfl : n = 215 := by omega
    have e : G = false := by rw [← HG.out]; exact decide_eq_false (by unfold gdI; omega)
    subst e
    go_wp2_with fail
    go_ret
    exact ⟨by first | rfl | (simp; omega), rfl⟩
  case neg =>
  by_cases i13 : n < 247
  case pos =>
    have e : G = true := by rw [← HG.out]; exact decide_eq_true (by unfold gdI; omega)
    subst e
    go_wp2_with fail
    go_ret
    exact ⟨by first | rfl | (simp; omega), rfl⟩
  case neg =>
  by_cases i14 : n < 248
  case pos =>
    obtain rfl : n = 247 := by omega
    have e : G = false := by rw [← HG.out]; exact decide_eq_false (by unfold gdI; omega)
    subst e
    go_wp2_with fail
    go_ret
    exact ⟨by first | rfl | (simp; omega), rfl⟩
  case neg =>
  by_cases i15 : n < 256
  case pos =>
    have e : G = true := by rw [← HG.out]; exact decide_eq_true (by unfold gdI; omega)
    subst e
    go_wp2_with fail
    go_ret
    exact ⟨by first | rfl | (simp; omega), rfl⟩
  case neg =>
  by_cases i16 : n < 945
  case pos =>
    have e : G = false := by rw [← HG.out]; exact decide_eq_false (by unfold gdI; omega)
    subst e
    go_wp2_with fail
    go_ret
    exact ⟨by first | rfl | (simp; omega), rfl⟩
  case neg =>
  by_cases i17 : n < 970
  case pos =>
    have e : G = true := by rw [← HG.out]; exact decide_eq_true (by unfold gdI; omega)
    subst e
    go_wp2_with fail
    go_ret
    exact ⟨by first | rfl | (simp; omega), rfl⟩
  case neg =>
  have e : G = false := by rw [← HG.out]; exact decide_eq_false (by unfold gdI; omega)
  subst e
  go_wp2_with fail
  go_ret
  exact ⟨by first | rfl | (simp; omega), rfl⟩

set_option maxRecDepth 100000 in
set_option maxHeartbeats 8000000 in
theorem rcheck_c (s : ByteArray) (w : World) (hs : s.size ≤ 1048576) : Calls Tryz.prog 25 #[.string s] w fun e w' => e = .returned (iv (chk s)) ∧ w.grownBy w' none := by
  have hrn := rn_le s
  go_enter Tryz.func25, Tryz.ntmps25
  go_wp2_with fail
  refine (all_c s _ hs).mono ?_
  rintro e w1 ⟨v, rfl, hR, hG⟩
  obtain ⟨A, c, rfl, hS⟩ := hR.src
  have HG := Keep.mk hG
  have HS := Keep.mk hS
  clear hR hG hS
  obtain ⟨L, hL⟩ : ∃ L, pieces (sl s) = L := ⟨_, rfl⟩
  have HL : Keep (pieces (sl s) = L) := ⟨hL⟩
  have hrl : rn s = L.length := by unfold rn; rw [hL]
  rw [hL] at HS ⊢
  clear hL
  have hz : s.size = 0 ↔ L.length = 0 := by
    constructor
    · intro h; omega
    · intro h
      have := posn_end s
      rw [hrl, h] at this
      exact this.symm
  by_cases h1 : L.length < 1
  · have HC : Keep (chk s = 60) := ⟨chk_no (by intro h; simp only [chkOK, Bool.and_eq_true, decide_eq_true_eq] at h; exact h.1.1.1 (hz.2 (by omega)))⟩
    clear hz
    go_wp2_with fail
    go_ret
    rw [HC.out]
    exact ⟨rfl, HG.out⟩
  by_cases h2 : 12 < L.length
  · have HC : Keep (chk s = 60) := ⟨chk_no (by simp [chkOK]; intro _ _ h; omega)⟩
    clear hz
    go_wp2_with fail
    go_ret
    rw [HC.out]
    exact ⟨rfl, HG.out⟩
  by_cases h3 : 24 < s.size
  · have HC : Keep (chk s = 60) := ⟨chk_no (by simp [chkOK]; intro _ h; omega)⟩
    clear hz
    go_wp2_with fail
    go_ret
    rw [HC.out]
    exact ⟨rfl, HG.out⟩
  have hs0 : s.size ≠ 0 := by omega
  have HRL := Keep.mk hrl
  clear hz hrl
  go_wp2_with fail
  go_loopw [4] (fun i w' => ∃ k : Nat, i = .int .i64 k ∧ k ≤ L.length ∧ w' = w1 ∧ Keep (∀ p ∈ L.take k, (fnd p.1).isSome = true)) (fun i _ => L.length - (intOf i).toNat)
  case atStart => exact ⟨0, rfl, Nat.zero_le _, rfl, ⟨by simp⟩⟩
  case round =>
    obtain ⟨k, rfl, hk1, rfl, HA⟩ := hrel
    by_cases hk : k = L.length
    · have HC : Keep (chk s = 0) := ⟨by
        unfold chk
        rw [if_pos]
        have hA := HA.out
        rw [hk, List.take_length] at hA
        simp only [chkOK, Bool.and_eq_true, decide_eq_true_eq, List.all_eq_true]
        rw [HRL.out, HL.out]
        exact ⟨⟨⟨hs0, by omega⟩, by omega⟩, hA⟩⟩
      subst hk
      go_wp2_with fail
      go_ret
      rw [HC.out]
      exact ⟨rfl, HG.out⟩
    · obtain ⟨p, hp⟩ : ∃ p, L[k]? = some p := ⟨_, List.getElem?_eq_getElem (by omega)⟩
      cases A with
      | none => have := HS.out.2.2.1 rfl; have := HS.out.2.1; omega
      | some ad =>
        obtain ⟨b, o, rfl, hcs⟩ := HS.out.2.2.2 ad rfl
        obtain ⟨c1, c2⟩ := hcs k p hp
        have hkl : k < L.length := by omega
        have HP := Keep.mk hp
        clear hcs hp hk
        go_wp2_with fail
        refine (good_c p.1 _ (by omega)).mono ?_
        rintro e wq ⟨rfl, hwq⟩
        subst hwq
        by_cases hf : (fnd p.1).isSome = true
        · rw [← gd_fnd, hf]
          have HA2 : Keep (∀ p ∈ L.take (k + 1), (fnd p.1).isSome = true) := ⟨by
            rw [List.take_add_one, HP.out]
            intro q hq
            rcases List.mem_append.1 hq with hq | hq
            · exact HA.out q hq
            · simp at hq; subst hq; exact hf⟩
          clear hf
          go_wp2_with fail
          go_roundw
          case rel => exact ⟨k + 1, by simp, by omega, (by first | rfl | trivial), HA2⟩
          case measure => simp [intOf]; omega
        · have hf' : (fnd p.1).isSome = false := by simpa using hf
          rw [← gd_fnd, hf']
          have HC : Keep (chk s = 60) := ⟨chk_no (by
            intro h
            simp only [chkOK, Bool.and_eq_true, List.all_eq_true] at h
            exact hf (h.2 p (by rw [HL.out]; exact List.mem_of_getElem? HP.out)))⟩
          clear hf hf'
          go_wp2_with fail
          go_ret
          rw [HC.out]
          exact ⟨rfl, HG.out⟩
end Go.Proofs.YtplcicbpkbamnabGreatDoor.Lo.Na

