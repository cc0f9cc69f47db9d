/- fix.Mul -/
import Derived.Test.YtmacmoikjgmaoaaDoorF1
namespace Go.Proofs.YtmacmoikjgmaoaaDoor
open Go Go.RowKit

def mulZ (a b : Int) : Int := bd (a * b / 65536)
set_option maxRecDepth 100000 in
set_option maxHeartbeats 2000000 in
theorem mul_c (a b : Int) (ha : In a) (hb : In b) (w : World) :
    Calls Tryd.prog 56 #[.int .i64 a, .int .i64 b] w fun e w' => e = .returned (.int .i64 (mulZ a b)) ∧ w' = w := by
  obtain ⟨H1, H2, H3, H4⟩ := mul_high a b ha hb
  have c := mul64_c (IntKind.u64.wrap a) (IntKind.u64.wrap b) (by rw [IntKind.wrap_u64]; omega) (by rw [IntKind.wrap_u64]; omega) (by rw [IntKind.wrap_u64]; omega) (by rw [IntKind.wrap_u64]; omega) w
  rw [H2] at c
  have HK : Keep (mulZ a b = bd (a * b / 65536)) := ⟨rfl⟩
  generalize mulZ a b = R at *
  have HP : ∃ P, a * b = P := ⟨_, rfl⟩
  obtain ⟨P, hP⟩ := HP
  rw [hP] at H1 H3 H4 c HK
  clear hP H2
  obtain ⟨u, hu⟩ : ∃ u, IntKind.u64.wrap a * IntKind.u64.wrap b / 18446744073709551616 = u := ⟨_, rfl⟩
  rw [hu] at c H1
  clear hu
  obtain ⟨hi, hhi⟩ : ∃ hi, P / 18446744073709551616 = hi := ⟨_, rfl⟩
  obtain ⟨lo, hlo⟩ : ∃ lo, P % 18446744073709551616 = lo := ⟨_, rfl⟩
  rw [hlo] at c
  rw [hhi] at H1 H3 H4
  have h29 := most_c (decide (hi < 0)) w
  have h30 := bounded_c (hi * 281474976710656 + lo / 65536) w
  have hl0 : 0 ≤ lo ∧ lo < 18446744073709551616 := by omega
  have HR : Keep (bd (P / 65536) = if hi < -1 ∨ 0 < hi then mostZ (decide (hi < 0)) else bd (hi * 281474976710656 + lo / 65536)) := ⟨by
    unfold mostZ
    rw [bd_eq, bd_eq]
    simp only [decide_eq_true_eq]
    split <;> split <;> (repeat' split) <;> omega⟩
  have HO : (¬ (hi < -1 ∨ 0 < hi)) → bits .or .i64 (IntKind.i64.wrap (hi * 281474976710656)) (lo / 65536) = hi * 281474976710656 + lo / 65536 := fun h => or_shift hi _ (by omega) (by omega) (by omega)
  clear hhi hlo
  rw [HK.out, HR.out]
  clear HR HK
  go_enter Tryd.func56, Tryd.ntmps56
  by_cases ca : a < 0
  · by_cases cb : b < 0
    · have H1' : IntKind.i64.wrap (IntKind.u64.wrap (IntKind.u64.wrap (u - IntKind.u64.wrap b) - IntKind.u64.wrap a)) = hi := by
        rw [← H1]; simp only [ca, cb, if_true, IntKind.wrap_u64, IntKind.wrap_i64] <;> omega
      clear H1
      by_cases c1 : hi < -1
      · rw [if_pos (Or.inl c1)]; clear HO
        go_wp2_with first | (go_at_call 65; refine c.mono ?_; rintro e w' ⟨rfl, hw⟩; rw [hw]) | (go_at_call 50; refine h29.mono ?_; rintro e w' ⟨rfl, hw⟩; rw [hw])
        go_ret
        exact ⟨rfl, rfl⟩
      · by_cases c2 : 0 < hi
        · rw [if_pos (Or.inr c2)]; clear HO
          go_wp2_with first | (go_at_call 65; refine c.mono ?_; rintro e w' ⟨rfl, hw⟩; rw [hw]) | (go_at_call 50; refine h29.mono ?_; rintro e w' ⟨rfl, hw⟩; rw [hw])
          go_ret
          exact ⟨rfl, rfl⟩
        · have c3 : ¬ (hi < -1 ∨ 0 < hi) := by omega
          have HO2 := HO c3
          have hwr : IntKind.i64.wrap (hi * 281474976710656) = hi * 281474976710656 := by rw [IntKind.wrap_i64]; omega
          rw [hwr] at HO2; clear hwr
          rw [if_neg c3]; clear HO c3
          go_wp2_with first | (go_at_call 65; refine c.mono ?_; rintro e w' ⟨rfl, hw⟩; rw [hw]) | (go_at_call 51; refine h30.mono ?_; rintro e w' ⟨rfl, hw⟩; rw [hw])
          go_ret
          exact ⟨rfl, rfl⟩
    · have H1' : IntKind.i64.wrap (IntKind.u64.wrap (u - IntKind.u64.wrap b)) = hi := by
        rw [← H1]; simp only [ca, cb, if_true, if_false, IntKind.wrap_u64, IntKind.wrap_i64] <;> omega
      clear H1
      by_cases c1 : hi < -1
      · rw [if_pos (Or.inl c1)]; clear HO
        go_wp2_with first | (go_at_call 65; refine c.mono ?_; rintro e w' ⟨rfl, hw⟩; rw [hw]) | (go_at_call 50; refine h29.mono ?_; rintro e w' ⟨rfl, hw⟩; rw [hw])
        go_ret
        exact ⟨rfl, rfl⟩
      · by_cases c2 : 0 < hi
        · rw [if_pos (Or.inr c2)]; clear HO
          go_wp2_with first | (go_at_call 65; refine c.mono ?_; rintro e w' ⟨rfl, hw⟩; rw [hw]) | (go_at_call 50; refine h29.mono ?_; rintro e w' ⟨rfl, hw⟩; rw [hw])
          go_ret
          exact ⟨rfl, rfl⟩
        · have c3 : ¬ (hi < -1 ∨ 0 < hi) := by omega
          have HO2 := HO c3
          have hwr : IntKind.i64.wrap (hi * 281474976710656) = hi * 281474976710656 := by rw [IntKind.wrap_i64]; omega
          rw [hwr] at HO2; clear hwr
          rw [if_neg c3]; clear HO c3
          go_wp2_with first | (go_at_call 65; refine c.mono ?_; rintro e w' ⟨rfl, hw⟩; rw [hw]) | (go_at_call 51; refine h30.mono ?_; rintro e w' ⟨rfl, hw⟩; rw [hw])
          go_ret
          exact ⟨rfl, rfl⟩
  · by_cases cb : b < 0
    · have H1' : IntKind.i64.wrap (IntKind.u64.wrap (u - IntKind.u64.wrap a)) = hi := by
        rw [← H1]; simp only [ca, cb, if_true, if_false, IntKind.wrap_u64, IntKind.wrap_i64] <;> omega
      clear H1
      by_cases c1 : hi < -1
      · rw [if_pos (Or.inl c1)]; clear HO
        go_wp2_with first | (go_at_call 65; refine c.mono ?_; rintro e w' ⟨rfl, hw⟩; rw [hw]) | (go_at_call 50; refine h29.mono ?_; rintro e w' ⟨rfl, hw⟩; rw [hw])
        go_ret
        exact ⟨rfl, rfl⟩
      · by_cases c2 : 0 < hi
        · rw [if_pos (Or.inr c2)]; clear HO
          go_wp2_with first | (go_at_call 65; refine c.mono ?_; rintro e w' ⟨rfl, hw⟩; rw [hw]) | (go_at_call 50; refine h29.mono ?_; rintro e w' ⟨rfl, hw⟩; rw [hw])
          go_ret
          exact ⟨rfl, rfl⟩
        · have c3 : ¬ (hi < -1 ∨ 0 < hi) := by omega
          have HO2 := HO c3
          have hwr : IntKind.i64.wrap (hi * 281474976710656) = hi * 281474976710656 := by rw [IntKind.wrap_i64]; omega
          rw [hwr] at HO2; clear hwr
          rw [if_neg c3]; clear HO c3
          go_wp2_with first | (go_at_call 65; refine c.mono ?_; rintro e w' ⟨rfl, hw⟩; rw [hw]) | (go_at_call 51; refine h30.mono ?_; rintro e w' ⟨rfl, hw⟩; rw [hw])
          go_ret
          exact ⟨rfl, rfl⟩
    · have H1' : IntKind.i64.wrap u = hi := by
        rw [← H1]; simp only [ca, cb, if_false, IntKind.wrap_u64, IntKind.wrap_i64] <;> omega
      clear H1
      by_cases c1 : hi < -1
      · rw [if_pos (Or.inl c1)]; clear HO
        go_wp2_with first | (go_at_call 65; refine c.mono ?_; rintro e w' ⟨rfl, hw⟩; rw [hw]) | (go_at_call 50; refine h29.mono ?_; rintro e w' ⟨rfl, hw⟩; rw [hw])
        go_ret
        exact ⟨rfl, rfl⟩
      · by_cases c2 : 0 < hi
        · rw [if_pos (Or.inr c2)]; clear HO
          go_wp2_with first | (go_at_call 65; refine c.mono ?_; rintro e w' ⟨rfl, hw⟩; rw [hw]) | (go_at_call 50; refine h29.mono ?_; rintro e w' ⟨rfl, hw⟩; rw [hw])
          go_ret
          exact ⟨rfl, rfl⟩
        · have c3 : ¬ (hi < -1 ∨ 0 < hi) := by omega
          have HO2 := HO c3
          have hwr : IntKind.i64.wrap (hi * 281474976710656) = hi * 281474976710656 := by rw [IntKind.wrap_i64]; omega
          rw [hwr] at HO2; clear hwr
          rw [if_neg c3]; clear HO c3
          go_wp2_with first | (go_at_call 65; refine c.mono ?_; rintro e w' ⟨rfl, hw⟩; rw [hw]) | (go_at_call 51; refine h30.mono ?_; rintro e w' ⟨rfl, hw⟩; rw [hw])
          go_ret
          exact ⟨rfl, rfl⟩
end Go.Proofs.YtmacmoikjgmaoaaDoor
