import Derived.Test.YtkdjcknikhgfkaaGreatDoorX26
import Derived.Test.YtkdjcknikhgfkaaGreatDoorX27
/- the reference's judged -/
namespace Go.Proofs.YtkdjcknikhgfkaaGreatDoor.Pk
open Go Go.RowKit
set_option maxRecDepth 100000 in
theorem mg (s : ByteArray) : ((s.extract 0 3).toList == [74, 48, 49]) = decide ((sl s).take 3 = magic) := by
  rw [ByteArray.toList_eq, ext_to, Bool.eq_iff_iff, beq_iff_eq, decide_eq_true_iff]
  exact Iff.rfl
set_option maxRecDepth 100000 in
theorem kind_is (s : ByteArray) (hm : (sl s).take 3 = magic) (h4 : 3 < s.size) {y : UInt8} (hy : (sl s)[3]? = some y) : kindL (sl s) = (y.toNat : Int) := by
  unfold kindL
  rw [if_neg (by rw [sl_len]; rintro (q | q); omega; exact q hm)]
  simp [List.getD, hy]
set_option maxRecDepth 100000 in
theorem zero_iff (s : List UInt8) (h : s.length = 96) : (s.drop 20).take 76 = zero76 ↔ ∀ j, 20 ≤ j → j < 96 → s.getD j 0 = 0 := by
  constructor
  · intro e j h1 h2
    have := congrArg (fun l => l.getD (j - 20) 0) e
    simp only [List.getD, List.getElem?_take, List.getElem?_drop, zero76] at this
    rw [if_pos (by omega), show 20 + (j - 20) = j by omega, List.getElem?_replicate, if_pos (by omega)] at this
    simpa [List.getD] using this
  · intro e
    apply List.ext_getElem?
    intro i
    rw [List.getElem?_take, List.getElem?_drop, zero76, List.getElem?_replicate]
    by_cases hi : i < 76
    · rw [if_pos hi, if_pos hi]
      have hj := e (20 + i) (by omega) (by omega)
      rw [List.getElem?_eq_getElem (by omega)]
      simp only [List.getD, List.getElem?_eq_getElem (show 20 + i < s.length by omega), Option.getD_some] at hj
      rw [hj]
    · rw [if_neg hi, if_neg hi]
set_option maxHeartbeats 4000000 in
set_option maxRecDepth 100000 in
theorem rj_big (s : ByteArray) (w : World) (h : 1200 < s.size) :
    Calls Tryz.prog 72 #[.string s] w fun e w' => e = .returned (.int .i64 (dec (sl s)).2) ∧ w' = w := by
  have hi : (1200 : Int) < (s.size : Int) := by omega
  rw [dec_big _ (by rw [sl_len]; exact h)]
  go_enter Tryz.func72, Tryz.ntmps72
  go_wp2_with fail
  go_ret
  exact ⟨rfl, rfl⟩
set_option maxHeartbeats 4000000 in
set_option maxRecDepth 100000 in
theorem rj_magic (s : ByteArray) (w : World) (h : ¬ 1200 < s.size) (hm : (sl s).take 3 ≠ magic) :
    Calls Tryz.prog 72 #[.string s] w fun e w' => e = .returned (.int .i64 (dec (sl s)).2) ∧ w' = w := by
  have hi : ¬ (1200 : Int) < (s.size : Int) := by omega
  rw [dec_magic _ (by rw [sl_len]; exact h) hm]
  have hg := mg s
  rw [decide_eq_false hm] at hg
  by_cases h3 : s.size < 3
  · have hi3 : (s.size : Int) < 3 := by omega
    go_enter Tryz.func72, Tryz.ntmps72
    go_wp2_with fail
    go_ret
    exact ⟨rfl, rfl⟩
  · have hi3 : ¬ (s.size : Int) < 3 := by omega
    go_enter Tryz.func72, Tryz.ntmps72
    go_wp2_with fail
    go_ret
    exact ⟨rfl, rfl⟩
set_option maxRecDepth 100000 in
theorem magic_len {s : ByteArray} (hm : (sl s).take 3 = magic) : 3 ≤ s.size := by
  have := congrArg List.length hm
  rw [List.length_take, sl_len] at this
  have e : magic.length = 3 := rfl
  omega
set_option maxHeartbeats 4000000 in
set_option maxRecDepth 100000 in
theorem rj_none (s : ByteArray) (w : World) (h : ¬ 1200 < s.size) (hm : (sl s).take 3 = magic) (hk : kindL (sl s) < 1 ∨ 7 < kindL (sl s)) :
    Calls Tryz.prog 72 #[.string s] w fun e w' => e = .returned (.int .i64 (dec (sl s)).2) ∧ w' = w := by
  have hi : ¬ (1200 : Int) < (s.size : Int) := by omega
  have h3 := magic_len hm
  have hi3 : ¬ (s.size : Int) < 3 := by omega
  rw [dec_none _ (by rw [sl_len]; exact h) hm hk]
  have hg := mg s
  rw [decide_eq_true hm] at hg
  by_cases h4 : s.size < 4
  · have hi4 : (s.size : Int) < 4 := by omega
    clear hk
    go_enter Tryz.func72, Tryz.ntmps72
    go_wp2_with fail
    go_ret
    exact ⟨rfl, rfl⟩
  · have hi4 : ¬ (s.size : Int) < 4 := by omega
    obtain ⟨y, hy⟩ : ∃ y, (sl s)[3]? = some y := ⟨_, List.getElem?_eq_getElem (by rw [sl_len]; omega)⟩
    rw [kind_is s hm (by omega) hy] at hk
    have ix : ∀ W, (Instr.index 9 (.string s) (.int .i64 3)).run Tryz.prog W = .ok (.int .u8 y.toNat) W := fun W => idx9 s 3 y (by omega) hy W
    generalize y.toNat = Y at *
    by_cases hk1 : (Y : Int) < 1
    · clear hk
      go_enter Tryz.func72, Tryz.ntmps72
      go_wp2_with fail
      go_ret
      exact ⟨rfl, rfl⟩
    · have hk7 : (7 : Int) < (Y : Int) := by omega
      clear hk
      go_enter Tryz.func72, Tryz.ntmps72
      go_wp2_with fail
      go_ret
      exact ⟨rfl, rfl⟩
set_option maxHeartbeats 4000000 in
set_option maxRecDepth 100000 in
theorem rj_1 (s : ByteArray) (w : World) (h : ¬ 1200 < s.size) (hm : (sl s).take 3 = magic) (hy : (sl s)[3]? = some 1) (h4 : 3 < s.size) :
    Calls Tryz.prog 72 #[.string s] w fun e w' => e = .returned (.int .i64 (dec (sl s)).2) ∧ w' = w := by
  have hi : ¬ (1200 : Int) < (s.size : Int) := by omega
  have hi3 : ¬ (s.size : Int) < 3 := by omega
  have hi4 : ¬ (s.size : Int) < 4 := by omega
  have HD := Keep.mk (dec_1 (sl s) (by rw [sl_len]; omega) hm (kind_is s hm h4 hy))
  rw [sl_len] at HD
  have hg := mg s
  rw [decide_eq_true hm] at hg
  have ix : ∀ W, (Instr.index 9 (.string s) (.int .i64 3)).run Tryz.prog W = .ok (.int .u8 1) W := fun W => idx9 s 3 1 h4 hy W
  have HC := Keep.mk (rlong_1 s w hy h4)
  by_cases hc : s.size = 96
  · have hb : ∀ (q : Prop) [Decidable q], q → decide q = true := fun q _ z => decide_eq_true z
    rw [hb _ (by omega)] at HC
    clear hb
    rw [if_pos hc] at HD
    have HZ := Keep.mk (zero_iff (sl s) (by rw [sl_len]; exact hc))
    obtain ⟨R, hR⟩ : ∃ R, (dec (sl s)).2 = R := ⟨_, rfl⟩
    have HRR := Keep.mk hR
    rw [hR]
    clear hR
    have HCC := Keep.mk hc
    clear hc hm hy
    go_enter Tryz.func72, Tryz.ntmps72
    go_wp2_with fail
    refine HC.out.mono ?_
    rintro e w1 ⟨rfl, rfl⟩
    go_wp2_with fail
    go_loopw [3] (fun x w' => ∃ i : Nat, 20 ≤ i ∧ i ≤ 96 ∧ x = .int .i64 (i : Nat) ∧ Keep (w' = w1) ∧ Keep (∀ j, 20 ≤ j → j < i → (sl s).getD j 0 = 0)) (fun x _ => 96 - (intOf x).toNat)
    case atStart => exact ⟨20, by omega, by omega, rfl, ⟨rfl⟩, ⟨fun j h1 h2 => by omega⟩⟩
    case round =>
      obtain ⟨i, i0, i1, rfl, HW, HL⟩ := hrel
      obtain rfl := HW.out
      clear HW
      by_cases hi9 : i < 96
      · have hia : (i : Int) < 96 := by omega
        have hwi : IntKind.i64.wrap ((i : Int) + 1) = ((i + 1 : Nat) : Int) := by rw [IntKind.wrap_i64]; omega
        obtain ⟨y, hyi⟩ : ∃ y, (sl s)[i]? = some y := ⟨_, List.getElem?_eq_getElem (by rw [sl_len, HCC.out]; omega)⟩
        have ixi : ∀ W, (Instr.index 9 (.string s) (.int .i64 (i : Int))).run Tryz.prog W = .ok (.int .u8 y.toNat) W := fun W => idx9 s i y (by rw [HCC.out]; omega) hyi W
        by_cases hz : y = 0
        · subst hz
          go_wp2_with fail
          refine ⟨⟨i + 1, by omega, by omega, rfl, ⟨by trivial⟩, ⟨fun j h1 h2 => ?_⟩⟩, ?_⟩
          · by_cases hji : j = i
            · subst hji; simp [List.getD, hyi]
            · exact HL.out j h1 (by omega)
          · simp only [intOf]; omega
        · have hyn : ((y.toNat : Int) == 0) = false := by
            have : y.toNat ≠ 0 := fun e => hz (UInt8.toNat_inj.1 (by simpa using e))
            simp; omega
          have hRe : R = 73 := by
            rw [← HRR.out, HD.out, if_neg]
            rw [HZ.out]
            intro e
            have := e i i0 hi9
            simp [List.getD, hyi] at this
            exact hz this
          subst hRe
          go_wp2_with fail
          go_ret
          exact ⟨rfl, rfl⟩
      · have hia : ¬ (i : Int) < 96 := by omega
        have hRe : R = 0 := by
          rw [← HRR.out, HD.out, if_pos]
          rw [HZ.out]
          exact fun j h1 h2 => HL.out j h1 (by omega)
        subst hRe
        go_wp2_with fail
        go_ret
        exact ⟨rfl, rfl⟩
  · have hb : ∀ (q : Prop) [Decidable q], ¬ q → decide q = false := fun q _ z => decide_eq_false z
    rw [hb _ (by omega)] at HC
    clear hb
    rw [if_neg hc] at HD
    rw [HD.out]
    clear hc hm hy
    go_enter Tryz.func72, Tryz.ntmps72
    go_wp2_with fail
    refine HC.out.mono ?_
    rintro e w1 ⟨rfl, rfl⟩
    go_wp2_with fail
    go_ret
    exact ⟨rfl, rfl⟩
set_option maxHeartbeats 4000000 in
set_option maxRecDepth 100000 in
theorem rj_2 (s : ByteArray) (w : World) (h : ¬ 1200 < s.size) (hm : (sl s).take 3 = magic) (hy : (sl s)[3]? = some 2) (h4 : 3 < s.size) :
    Calls Tryz.prog 72 #[.string s] w fun e w' => e = .returned (.int .i64 (dec (sl s)).2) ∧ w' = w := by
  have hi : ¬ (1200 : Int) < (s.size : Int) := by omega
  have hi3 : ¬ (s.size : Int) < 3 := by omega
  have hi4 : ¬ (s.size : Int) < 4 := by omega
  have HD := Keep.mk (dec_2 (sl s) (by rw [sl_len]; omega) hm (kind_is s hm h4 hy))
  rw [sl_len] at HD
  have hg := mg s
  rw [decide_eq_true hm] at hg
  have ix : ∀ W, (Instr.index 9 (.string s) (.int .i64 3)).run Tryz.prog W = .ok (.int .u8 2) W := fun W => idx9 s 3 2 h4 hy W
  have HC := Keep.mk (rlong_2 s w hy h4)
  by_cases hc : s.size = 60
  · have hb : ∀ (q : Prop) [Decidable q], q → decide q = true := fun q _ z => decide_eq_true z
    rw [hb _ (by omega)] at HC
    clear hb
    rw [if_pos hc] at HD
    rw [HD.out]
    clear hc hm hy
    go_enter Tryz.func72, Tryz.ntmps72
    go_wp2_with fail
    refine HC.out.mono ?_
    rintro e w1 ⟨rfl, rfl⟩
    go_wp2_with fail
    go_ret
    exact ⟨rfl, rfl⟩
  · have hb : ∀ (q : Prop) [Decidable q], ¬ q → decide q = false := fun q _ z => decide_eq_false z
    rw [hb _ (by omega)] at HC
    clear hb
    rw [if_neg hc] at HD
    rw [HD.out]
    clear hc hm hy
    go_enter Tryz.func72, Tryz.ntmps72
    go_wp2_with fail
    refine HC.out.mono ?_
    rintro e w1 ⟨rfl, rfl⟩
    go_wp2_with fail
    go_ret
    exact ⟨rfl, rfl⟩
set_option maxHeartbeats 4000000 in
set_option maxRecDepth 100000 in
theorem rj_3 (s : ByteArray) (w : World) (h : ¬ 1200 < s.size) (hm : (sl s).take 3 = magic) (hy : (sl s)[3]? = some 3) (h4 : 3 < s.size) :
    Calls Tryz.prog 72 #[.string s] w fun e w' => e = .returned (.int .i64 (dec (sl s)).2) ∧ w' = w := by
  have hi : ¬ (1200 : Int) < (s.size : Int) := by omega
  have hi3 : ¬ (s.size : Int) < 3 := by omega
  have hi4 : ¬ (s.size : Int) < 4 := by omega
  have HD := Keep.mk (dec_3 (sl s) (by rw [sl_len]; omega) hm (kind_is s hm h4 hy))
  rw [sl_len] at HD
  have hg := mg s
  rw [decide_eq_true hm] at hg
  have ix : ∀ W, (Instr.index 9 (.string s) (.int .i64 3)).run Tryz.prog W = .ok (.int .u8 3) W := fun W => idx9 s 3 3 h4 hy W
  have HC := Keep.mk (rlong_3 s w hy h4)
  by_cases hc : 93 ≤ s.size ∧ s.size = 93 + ((sl s).getD 60 0).toNat
  · have hb : ∀ (q : Prop) [Decidable q], q → decide q = true := fun q _ z => decide_eq_true z
    rw [hb _ (by exact hc)] at HC
    clear hb
    rw [if_pos hc] at HD
    rw [HD.out]
    clear hc hm hy
    go_enter Tryz.func72, Tryz.ntmps72
    go_wp2_with fail
    refine HC.out.mono ?_
    rintro e w1 ⟨rfl, rfl⟩
    go_wp2_with fail
    go_ret
    exact ⟨rfl, rfl⟩
  · have hb : ∀ (q : Prop) [Decidable q], ¬ q → decide q = false := fun q _ z => decide_eq_false z
    rw [hb _ (by exact hc)] at HC
    clear hb
    rw [if_neg hc] at HD
    rw [HD.out]
    clear hc hm hy
    go_enter Tryz.func72, Tryz.ntmps72
    go_wp2_with fail
    refine HC.out.mono ?_
    rintro e w1 ⟨rfl, rfl⟩
    go_wp2_with fail
    go_ret
    exact ⟨rfl, rfl⟩
set_option maxHeartbeats 4000000 in
set_option maxRecDepth 100000 in
theorem rj_4 (s : ByteArray) (w : World) (h : ¬ 1200 < s.size) (hm : (sl s).take 3 = magic) (hy : (sl s)[3]? = some 4) (h4 : 3 < s.size) :
    Calls Tryz.prog 72 #[.string s] w fun e w' => e = .returned (.int .i64 (dec (sl s)).2) ∧ w' = w := by
  have hi : ¬ (1200 : Int) < (s.size : Int) := by omega
  have hi3 : ¬ (s.size : Int) < 3 := by omega
  have hi4 : ¬ (s.size : Int) < 4 := by omega
  have HD := Keep.mk (dec_4 (sl s) (by rw [sl_len]; omega) hm (kind_is s hm h4 hy))
  rw [sl_len] at HD
  have hg := mg s
  rw [decide_eq_true hm] at hg
  have ix : ∀ W, (Instr.index 9 (.string s) (.int .i64 3)).run Tryz.prog W = .ok (.int .u8 4) W := fun W => idx9 s 3 4 h4 hy W
  have HC := Keep.mk (rlong_4 s w hy h4)
  by_cases hc : s.size = 77
  · have hb : ∀ (q : Prop) [Decidable q], q → decide q = true := fun q _ z => decide_eq_true z
    rw [hb _ (by omega)] at HC
    clear hb
    rw [if_pos hc] at HD
    rw [HD.out]
    clear hc hm hy
    go_enter Tryz.func72, Tryz.ntmps72
    go_wp2_with fail
    refine HC.out.mono ?_
    rintro e w1 ⟨rfl, rfl⟩
    go_wp2_with fail
    go_ret
    exact ⟨rfl, rfl⟩
  · have hb : ∀ (q : Prop) [Decidable q], ¬ q → decide q = false := fun q _ z => decide_eq_false z
    rw [hb _ (by omega)] at HC
    clear hb
    rw [if_neg hc] at HD
    rw [HD.out]
    clear hc hm hy
    go_enter Tryz.func72, Tryz.ntmps72
    go_wp2_with fail
    refine HC.out.mono ?_
    rintro e w1 ⟨rfl, rfl⟩
    go_wp2_with fail
    go_ret
    exact ⟨rfl, rfl⟩
set_option maxHeartbeats 4000000 in
set_option maxRecDepth 100000 in
theorem rj_5 (s : ByteArray) (w : World) (h : ¬ 1200 < s.size) (hm : (sl s).take 3 = magic) (hy : (sl s)[3]? = some 5) (h4 : 3 < s.size) :
    Calls Tryz.prog 72 #[.string s] w fun e w' => e = .returned (.int .i64 (dec (sl s)).2) ∧ w' = w := by
  have hi : ¬ (1200 : Int) < (s.size : Int) := by omega
  have hi3 : ¬ (s.size : Int) < 3 := by omega
  have hi4 : ¬ (s.size : Int) < 4 := by omega
  have HD := Keep.mk (dec_5 (sl s) (by rw [sl_len]; omega) hm (kind_is s hm h4 hy))
  rw [sl_len] at HD
  have hg := mg s
  rw [decide_eq_true hm] at hg
  have ix : ∀ W, (Instr.index 9 (.string s) (.int .i64 3)).run Tryz.prog W = .ok (.int .u8 5) W := fun W => idx9 s 3 5 h4 hy W
  have HC := Keep.mk (rlong_5 s w hy h4)
  by_cases hc : s.size = 55
  · have hb : ∀ (q : Prop) [Decidable q], q → decide q = true := fun q _ z => decide_eq_true z
    rw [hb _ (by omega)] at HC
    clear hb
    rw [if_pos hc] at HD
    obtain ⟨y, hy2⟩ : ∃ y, (sl s)[22]? = some y := ⟨_, List.getElem?_eq_getElem (by rw [sl_len, hc]; omega)⟩
    have ix2 : ∀ W, (Instr.index 9 (.string s) (.int .i64 22)).run Tryz.prog W = .ok (.int .u8 y.toNat) W := fun W => idx9 s 22 y (by omega) hy2 W
    have hv : val (((sl s).drop 22).take 1) = y.toNat := by
      have hlt : 22 < (sl s).length := by rw [sl_len]; omega
      have e : (sl s).drop 22 = y :: (sl s).drop 23 := by
        rw [List.drop_eq_getElem_cons hlt]
        congr 1
        rw [List.getElem?_eq_getElem hlt] at hy2
        exact Option.some.inj hy2
      rw [e]
      simp [val]
    rw [hv] at HD
    obtain ⟨R, hR⟩ : ∃ R, (dec (sl s)).2 = R := ⟨_, rfl⟩
    have HRR := Keep.mk hR
    rw [hR]
    clear hR hv hc hm hy hy2
    generalize y.toNat = Y at *
    by_cases hY : Y ≤ 3
    · have hYi : ¬ (3 : Int) < (Y : Int) := by omega
      have hRe : R = 0 := by rw [← HRR.out, HD.out, if_pos hY]
      subst hRe
      go_enter Tryz.func72, Tryz.ntmps72
      go_wp2_with fail
      refine HC.out.mono ?_
      rintro e w1 ⟨rfl, rfl⟩
      go_wp2_with fail
      go_ret
      exact ⟨rfl, rfl⟩
    · have hYi : (3 : Int) < (Y : Int) := by omega
      have hRe : R = 73 := by rw [← HRR.out, HD.out, if_neg hY]
      subst hRe
      go_enter Tryz.func72, Tryz.ntmps72
      go_wp2_with fail
      refine HC.out.mono ?_
      rintro e w1 ⟨rfl, rfl⟩
      go_wp2_with fail
      go_ret
      exact ⟨rfl, rfl⟩
  · have hb : ∀ (q : Prop) [Decidable q], ¬ q → decide q = false := fun q _ z => decide_eq_false z
    rw [hb _ (by omega)] at HC
    clear hb
    rw [if_neg hc] at HD
    rw [HD.out]
    clear hc hm hy
    go_enter Tryz.func72, Tryz.ntmps72
    go_wp2_with fail
    refine HC.out.mono ?_
    rintro e w1 ⟨rfl, rfl⟩
    go_wp2_with fail
    go_ret
    exact ⟨rfl, rfl⟩
set_option maxHeartbeats 4000000 in
set_option maxRecDepth 100000 in
theorem rj_6 (s : ByteArray) (w : World) (h : ¬ 1200 < s.size) (hm : (sl s).take 3 = magic) (hy : (sl s)[3]? = some 6) (h4 : 3 < s.size) :
    Calls Tryz.prog 72 #[.string s] w fun e w' => e = .returned (.int .i64 (dec (sl s)).2) ∧ w' = w := by
  have hi : ¬ (1200 : Int) < (s.size : Int) := by omega
  have hi3 : ¬ (s.size : Int) < 3 := by omega
  have hi4 : ¬ (s.size : Int) < 4 := by omega
  have HD := Keep.mk (dec_6 (sl s) (by rw [sl_len]; omega) hm (kind_is s hm h4 hy))
  rw [sl_len] at HD
  have hg := mg s
  rw [decide_eq_true hm] at hg
  have ix : ∀ W, (Instr.index 9 (.string s) (.int .i64 3)).run Tryz.prog W = .ok (.int .u8 6) W := fun W => idx9 s 3 6 h4 hy W
  have HC := Keep.mk (rlong_6 s w hy h4)
  by_cases hc : 52 ≤ s.size
  · have hb : ∀ (q : Prop) [Decidable q], q → decide q = true := fun q _ z => decide_eq_true z
    rw [hb _ (by omega)] at HC
    clear hb
    rw [if_pos hc] at HD
    rw [HD.out]
    clear hc hm hy
    go_enter Tryz.func72, Tryz.ntmps72
    go_wp2_with fail
    refine HC.out.mono ?_
    rintro e w1 ⟨rfl, rfl⟩
    go_wp2_with fail
    go_ret
    exact ⟨rfl, rfl⟩
  · have hb : ∀ (q : Prop) [Decidable q], ¬ q → decide q = false := fun q _ z => decide_eq_false z
    rw [hb _ (by omega)] at HC
    clear hb
    rw [if_neg hc] at HD
    rw [HD.out]
    clear hc hm hy
    go_enter Tryz.func72, Tryz.ntmps72
    go_wp2_with fail
    refine HC.out.mono ?_
    rintro e w1 ⟨rfl, rfl⟩
    go_wp2_with fail
    go_ret
    exact ⟨rfl, rfl⟩
set_option maxHeartbeats 4000000 in
set_option maxRecDepth 100000 in
theorem rj_7 (s : ByteArray) (w : World) (h : ¬ 1200 < s.size) (hm : (sl s).take 3 = magic) (hy : (sl s)[3]? = some 7) (h4 : 3 < s.size) :
    Calls Tryz.prog 72 #[.string s] w fun e w' => e = .returned (.int .i64 (dec (sl s)).2) ∧ w' = w := by
  have hi : ¬ (1200 : Int) < (s.size : Int) := by omega
  have hi3 : ¬ (s.size : Int) < 3 := by omega
  have hi4 : ¬ (s.size : Int) < 4 := by omega
  have HD := Keep.mk (dec_7 (sl s) (by rw [sl_len]; omega) hm (kind_is s hm h4 hy))
  rw [sl_len] at HD
  have hg := mg s
  rw [decide_eq_true hm] at hg
  have ix : ∀ W, (Instr.index 9 (.string s) (.int .i64 3)).run Tryz.prog W = .ok (.int .u8 7) W := fun W => idx9 s 3 7 h4 hy W
  have HC := Keep.mk (rlong_7 s w hy h4)
  by_cases hc : s.size = 52
  · have hb : ∀ (q : Prop) [Decidable q], q → decide q = true := fun q _ z => decide_eq_true z
    rw [hb _ (by omega)] at HC
    clear hb
    rw [if_pos hc] at HD
    rw [HD.out]
    clear hc hm hy
    go_enter Tryz.func72, Tryz.ntmps72
    go_wp2_with fail
    refine HC.out.mono ?_
    rintro e w1 ⟨rfl, rfl⟩
    go_wp2_with fail
    go_ret
    exact ⟨rfl, rfl⟩
  · have hb : ∀ (q : Prop) [Decidable q], ¬ q → decide q = false := fun q _ z => decide_eq_false z
    rw [hb _ (by omega)] at HC
    clear hb
    rw [if_neg hc] at HD
    rw [HD.out]
    clear hc hm hy
    go_enter Tryz.func72, Tryz.ntmps72
    go_wp2_with fail
    refine HC.out.mono ?_
    rintro e w1 ⟨rfl, rfl⟩
    go_wp2_with fail
    go_ret
    exact ⟨rfl, rfl⟩
set_option maxRecDepth 100000 in
theorem rjudged_c (s : ByteArray) (w : World) : Calls Tryz.prog 72 #[.string s] w fun e w' => e = .returned (.int .i64 (dec (sl s)).2) ∧ w' = w := by
  by_cases h : 1200 < s.size
  · exact rj_big s w h
  by_cases hm : (sl s).take 3 = magic
  case neg => exact rj_magic s w h hm
  by_cases hk : kindL (sl s) < 1 ∨ 7 < kindL (sl s)
  · exact rj_none s w h hm hk
  have h3 := magic_len hm
  have h4 : 3 < s.size := by
    refine Classical.byContradiction fun q => hk (.inl ?_)
    unfold kindL
    rw [if_pos (.inl (by rw [sl_len]; omega))]; omega
  obtain ⟨y, hy⟩ : ∃ y, (sl s)[3]? = some y := ⟨_, List.getElem?_eq_getElem (by rw [sl_len]; omega)⟩
  rw [kind_is s hm h4 hy] at hk
  have hc : y = 1 ∨ y = 2 ∨ y = 3 ∨ y = 4 ∨ y = 5 ∨ y = 6 ∨ y = 7 := by
    have e : y = UInt8.ofNat y.toNat := by simp
    have : y.toNat = 1 ∨ y.toNat = 2 ∨ y.toNat = 3 ∨ y.toNat = 4 ∨ y.toNat = 5 ∨ y.toNat = 6 ∨ y.toNat = 7 := by omega
    rcases this with q | q | q | q | q | q | q <;> rw [q] at e <;> simp [e]
  rcases hc with rfl | rfl | rfl | rfl | rfl | rfl | rfl
  · exact rj_1 s w h hm hy h4
  · exact rj_2 s w h hm hy h4
  · exact rj_3 s w h hm hy h4
  · exact rj_4 s w h hm hy h4
  · exact rj_5 s w h hm hy h4
  · exact rj_6 s w h hm hy h4
  · exact rj_7 s w h hm hy h4
end Go.Proofs.YtkdjcknikhgfkaaGreatDoor.Pk
