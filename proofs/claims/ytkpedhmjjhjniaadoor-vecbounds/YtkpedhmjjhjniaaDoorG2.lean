/- Root: the digits, over Int; fix.Root -/
import Derived.Test.YtkpedhmjjhjniaaDoorF1
namespace Go.Proofs.YtkpedhmjjhjniaaDoor
open Go Go.RowKit

structure IsRt (n r : Int) : Prop where
  p : 0 ≤ r
  le : r * r ≤ n
  lt : n < (r + 1) * (r + 1)
structure RtI (n root b : Int) : Prop where
  le : root * root ≤ n
  lt : n < (root + 2 * b) * (root + 2 * b)
structure RInv (n root b : Int) : Prop where
  r0 : 0 ≤ root
  b0 : 0 ≤ b
  b1 : b ≤ 1099511627776
  or : (∃ k : Nat, b = ((2 ^ k : Nat) : Int) ∧ RtI n root b) ∨ (b = 0 ∧ IsRt n root)

theorem sq_le {a b : Int} (h0 : 0 ≤ a) (h : a ≤ b) : a * a ≤ b * b := Int.mul_le_mul h h h0 (by omega)
theorem IsRt.eq {n r s : Int} (h : IsRt n r) (k : IsRt n s) : r = s := by
  have h1 := h.p; have h2 := k.p
  have a : r < s + 1 := Int.lt_of_not_ge fun c => by
    have := sq_le (show 0 ≤ s + 1 by omega) c
    have := h.le; have := k.lt; omega
  have b : s < r + 1 := Int.lt_of_not_ge fun c => by
    have := sq_le (show 0 ≤ r + 1 by omega) c
    have := k.le; have := h.lt; omega
  omega

theorem RInv.root_lt {n root b : Int} (h : RInv n root b) (hn : n < 604462909807314587353088) : root < 1099511627776 := by
  apply Int.lt_of_not_ge
  intro c
  have h1 := sq_le (show (0 : Int) ≤ 1099511627776 by omega) c
  have : root * root ≤ n := by
    rcases h.or with ⟨_, _, h⟩ | ⟨_, h⟩
    · exact h.le
    · exact h.le
  omega

theorem RInv.first {n b : Int} (k : Nat) (hb : b = ((2 ^ k : Nat) : Int)) (b1 : b ≤ 1099511627776) (hn : 0 ≤ n) (h : n < (2 * b) * (2 * b)) : RInv n 0 b :=
  ⟨by omega, by rw [hb]; exact Int.natCast_nonneg _, b1, .inl ⟨k, hb, by simpa using hn, by simpa using h⟩⟩

theorem RInv.next {n root b : Int} (h : RInv n root b) (hb : 0 < b) :
    ((root + b) * (root + b) ≤ n → RInv n (root + b) (b / 2)) ∧ (¬ (root + b) * (root + b) ≤ n → RInv n root (b / 2)) := by
  have r0 := h.r0; have b1 := h.b1
  rcases h.or with ⟨k, e, i⟩ | ⟨e, _⟩
  · cases k with
    | zero =>
      have e1 : b = 1 := by rw [e]; rfl
      subst e1
      have hlt := i.lt
      refine ⟨fun c => ⟨by omega, by omega, by omega, .inr ⟨by omega, by omega, c, ?_⟩⟩, fun c => ⟨by omega, by omega, by omega, .inr ⟨by omega, r0, i.le, by omega⟩⟩⟩
      rw [show root + 1 + 1 = root + 2 * 1 by omega]; exact hlt
    | succ k =>
      have e1 : b / 2 = ((2 ^ k : Nat) : Int) := by rw [e, Nat.pow_succ]; omega
      have e2 : 2 * (b / 2) = b := by rw [e, Nat.pow_succ]; omega
      have hlt := i.lt
      refine ⟨fun c => ⟨by omega, by omega, by omega, .inl ⟨k, e1, c, ?_⟩⟩, fun c => ⟨by omega, by omega, by omega, .inl ⟨k, e1, i.le, ?_⟩⟩⟩
      · rw [e2, show root + b + b = root + 2 * b by omega]; exact hlt
      · rw [e2]; omega
  · omega

theorem RInv.last {n root : Int} (h : RInv n root 0) : IsRt n root := by
  rcases h.or with ⟨k, e, _⟩ | ⟨_, i⟩
  · have := Nat.two_pow_pos k; omega
  · exact i

/-- the greatest root -/
def RootI (a r : Int) : Prop := if a < 0 then r = 0 else IsRt (a * 65536) r
noncomputable def rootZ (a : Int) : Int := Classical.epsilon (RootI a)
theorem rootZ_eq {a r : Int} (h : RootI a r) : rootZ a = r := by
  have k : RootI a (rootZ a) := Classical.epsilon_spec ⟨r, h⟩
  unfold RootI at h k
  by_cases c : a < 0
  · rw [if_pos c] at h k; rw [h, k]
  · rw [if_neg c] at h k; exact k.eq h
theorem rootZ_neg {a : Int} (h : a < 0) : rootZ a = 0 := rootZ_eq (by unfold RootI; rw [if_pos h])
theorem rootZ_of {a r : Int} (h : ¬ a < 0) (k : IsRt (a * 65536) r) : rootZ a = r := rootZ_eq (by unfold RootI; rw [if_neg h]; exact k)

theorem halves (x n : Int) : (x / 18446744073709551616 < n / 18446744073709551616 ∨ (x / 18446744073709551616 = n / 18446744073709551616 ∧ x % 18446744073709551616 ≤ n % 18446744073709551616)) ↔ x ≤ n := by omega

set_option maxHeartbeats 4000000 in
theorem root_some_c (a : Int) (h0 : 0 ≤ a) (h1 : a ≤ 9223372036854775807) (w : World) :
    Calls Tryd.prog 40 #[.int .i64 a] w fun e w' => (∃ r, e = .returned (.int .i64 r) ∧ IsRt (a * 65536) r) ∧ w' = w := by
  have c := raised_c a h0 (by omega) w
  obtain ⟨n, hn⟩ : ∃ n, a * 65536 = n := ⟨_, rfl⟩
  obtain ⟨hi, hhi⟩ : ∃ z, n / 18446744073709551616 = z := ⟨_, rfl⟩
  obtain ⟨lo, hlo⟩ : ∃ z, n % 18446744073709551616 = z := ⟨_, rfl⟩
  have e1 : a / 281474976710656 = hi := by omega
  rw [e1, hn, hlo] at c
  have HN : Keep (n / 18446744073709551616 = hi ∧ n % 18446744073709551616 = lo ∧ 0 ≤ n ∧ n < 604462909807314587353088) := ⟨by omega⟩
  have HI : Keep (RInv n 0 549755813888) := ⟨RInv.first 39 rfl (by omega) (by omega) (by omega)⟩
  have b : 0 ≤ hi ∧ hi < 18446744073709551616 ∧ 0 ≤ lo ∧ lo < 18446744073709551616 := by omega
  have an : ¬ a < 0 := by omega
  rw [hn]
  clear hhi hlo e1 hn
  go_enter Tryd.func40, Tryd.ntmps40
  go_wp2_with fail
  refine c.mono ?_
  rintro e w' ⟨rfl, hw⟩; rw [hw]
  go_wp2_with fail
  go_loopw [5, 6] (fun s5 s6 w' => ∃ root b : Int, 0 ≤ root ∧ root < 1099511627776 ∧ 0 ≤ b ∧ b ≤ 1099511627776 ∧ s5 = .int .u64 root ∧ s6 = .int .u64 b ∧ w' = w ∧ Keep (RInv n root b)) (fun _ s6 _ => (intOf s6).toNat)
  case atStart => exact ⟨0, 549755813888, by omega, by omega, by omega, by omega, rfl, rfl, rfl, HI⟩
  case round =>
    clear HI
    obtain ⟨root, bt, r0, r1, b0, b1, rfl, rfl, rfl, HI⟩ := hrel
    by_cases c1 : 0 < bt
    · have m := mul64_c (root + bt) (root + bt) (by omega) (by omega) (by omega) (by omega) wr
      obtain ⟨S, hS⟩ : ∃ z, (root + bt) * (root + bt) = z := ⟨_, rfl⟩
      rw [hS] at m
      obtain ⟨N1, N2⟩ := HI.out.next c1
      rw [hS] at N1 N2
      have hv := halves S n
      rw [HN.out.1, HN.out.2.1] at hv
      have hS0 : 0 ≤ S % 18446744073709551616 ∧ S % 18446744073709551616 < 18446744073709551616 := by omega
      obtain ⟨H, hH⟩ : ∃ z, S / 18446744073709551616 = z := ⟨_, rfl⟩
      obtain ⟨Lw, hL⟩ : ∃ z, S % 18446744073709551616 = z := ⟨_, rfl⟩
      rw [hH, hL] at m hv
      rw [hL] at hS0
      clear hH hL hS
      by_cases d1 : H < hi
      · have HS := Keep.mk (N1 (hv.1 (.inl d1)))
        have hr := HS.out.root_lt HN.out.2.2.2
        clear N1 N2 hv HI
        go_wp2_with fail
        refine m.mono ?_
        rintro e w' ⟨rfl, hw⟩; rw [hw]
        go_wp2_with fail
        refine ⟨⟨root + bt, bt / 2, by omega, hr, by omega, by omega, rfl, rfl, trivial, HS⟩, ?_⟩
        simp only [intOf]; omega
      · by_cases d2 : H = hi
        · by_cases d3 : Lw ≤ lo
          · have HS := Keep.mk (N1 (hv.1 (.inr ⟨d2, d3⟩)))
            have hr := HS.out.root_lt HN.out.2.2.2
            clear N1 N2 hv HI
            go_wp2_with fail
            refine m.mono ?_
            rintro e w' ⟨rfl, hw⟩; rw [hw]
            go_wp2_with fail
            refine ⟨⟨root + bt, bt / 2, by omega, hr, by omega, by omega, rfl, rfl, trivial, HS⟩, ?_⟩
            simp only [intOf]; omega
          · have HS := Keep.mk (N2 (fun h => by have := hv.2 h; omega))
            clear N1 N2 hv HI
            go_wp2_with fail
            refine m.mono ?_
            rintro e w' ⟨rfl, hw⟩; rw [hw]
            go_wp2_with fail
            refine ⟨⟨root, bt / 2, by omega, r1, by omega, by omega, rfl, rfl, trivial, HS⟩, ?_⟩
            simp only [intOf]; omega
        · have HS := Keep.mk (N2 (fun h => by have := hv.2 h; omega))
          clear N1 N2 hv HI
          go_wp2_with fail
          refine m.mono ?_
          rintro e w' ⟨rfl, hw⟩; rw [hw]
          go_wp2_with fail
          refine ⟨⟨root, bt / 2, by omega, r1, by omega, by omega, rfl, rfl, trivial, HS⟩, ?_⟩
          simp only [intOf]; omega
    · obtain rfl : bt = 0 := by omega
      have HE := Keep.mk HI.out.last
      clear HI
      go_wp2_with fail
      go_ret
      exact ⟨⟨root, rfl, HE.out⟩, rfl⟩

set_option maxHeartbeats 1000000 in
theorem root_c (a : Int) (h : In a) (w : World) :
    Calls Tryd.prog 40 #[.int .i64 a] w fun e w' => e = .returned (.int .i64 (rootZ a)) ∧ w' = w := by
  by_cases hn : a < 0
  · rw [rootZ_neg hn]
    go_enter Tryd.func40, Tryd.ntmps40
    go_wp2_with fail
    go_ret
    exact ⟨rfl, rfl⟩
  · exact (root_some_c a (by omega) h.2 w).mono fun e w' ⟨⟨r, he, hr⟩, hw⟩ => ⟨by rw [he, rootZ_of hn hr], hw⟩
end Go.Proofs.YtkpedhmjjhjniaaDoor
