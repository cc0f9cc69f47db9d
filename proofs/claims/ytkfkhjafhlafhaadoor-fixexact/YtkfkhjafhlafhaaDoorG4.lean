/- the reference: Root -/
import Derived.Test.YtkfkhjafhlafhaaDoorG3
namespace Go.Proofs.YtkfkhjafhlafhaaDoor
open Go Go.RowKit

set_option maxHeartbeats 4000000 in
theorem rroot_some_c (a : Int) (h0 : 0 ≤ a) (h1 : a ≤ 9223372036854775807) (w : World) :
    Calls Tryd.prog 24 #[.int .i64 a] w fun e w' => (∃ r, e = .returned (.int .i64 r) ∧ IsRt (a * 65536) r) ∧ w' = w := by
  have c := product_c a 65536 h0 (by omega) (by omega) (by omega) w
  obtain ⟨n, hn⟩ : ∃ n, a * 65536 = n := ⟨_, rfl⟩
  obtain ⟨hi, hhi⟩ : ∃ z, n / 18446744073709551616 = z := ⟨_, rfl⟩
  obtain ⟨lo, hlo⟩ : ∃ z, n % 18446744073709551616 = z := ⟨_, rfl⟩
  rw [hn, hhi, hlo] at c
  have HN : Keep (n / 18446744073709551616 = hi ∧ n % 18446744073709551616 = lo ∧ 0 ≤ n ∧ n < 604462909807314587353088) := ⟨by omega⟩
  have HI : Keep (RInv n 0 1099511627776) := ⟨RInv.first 40 rfl (by omega) (by omega) (by omega)⟩
  have b : 0 ≤ hi ∧ hi < 18446744073709551616 ∧ 0 ≤ lo ∧ lo < 18446744073709551616 := by omega
  have an : ¬ a < 0 := by omega
  rw [hn]
  clear hhi hlo hn
  go_enter Tryd.func24, Tryd.ntmps24
  go_wp2_with fail
  refine c.mono ?_
  rintro e w' ⟨rfl, hw⟩; rw [hw]
  go_wp2_with fail
  go_loopw [5, 6] (fun s5 s6 w' => ∃ root b : Int, 0 ≤ root ∧ root < 1099511627776 ∧ 0 ≤ b ∧ b ≤ 1099511627776 ∧ s5 = .int .u64 root ∧ s6 = .int .u64 b ∧ w' = w ∧ Keep (RInv n root b)) (fun _ s6 _ => (intOf s6).toNat)
  case atStart => exact ⟨0, 1099511627776, by omega, by omega, by omega, by omega, rfl, rfl, rfl, HI⟩
  case round =>
    clear HI
    obtain ⟨root, bt, r0, r1, b0, b1, rfl, rfl, rfl, HI⟩ := hrel
    by_cases c1 : 0 < bt
    · have m := product_c (root + bt) (root + bt) (by omega) (by omega) (by omega) (by omega) wr
      obtain ⟨S, hS⟩ : ∃ z, (root + bt) * (root + bt) = z := ⟨_, rfl⟩
      rw [hS] at m
      obtain ⟨N1, N2⟩ := HI.out.next c1
      rw [hS] at N1 N2
      have hv := halves S n
      rw [HN.out.1, HN.out.2.1] at hv
      have hS0 : 0 ≤ S % 18446744073709551616 ∧ S % 18446744073709551616 < 18446744073709551616 := by omega
      obtain ⟨H, hH⟩ : ∃ z, S / 18446744073709551616 = z := ⟨_, rfl⟩
      obtain ⟨Lw, hL⟩ : ∃ z, S % 18446744073709551616 = z := ⟨_, rfl⟩
      rw [hH, hL] at m hv
      rw [hL] at hS0
      clear hH hL hS
      by_cases d1 : H < hi
      · have HS := Keep.mk (N1 (hv.1 (.inl d1)))
        have hr := HS.out.root_lt HN.out.2.2.2
        clear N1 N2 hv HI
        go_wp2_with fail
        refine m.mono ?_
        rintro e w' ⟨rfl, hw⟩; rw [hw]
        go_wp2_with fail
        refine ⟨⟨root + bt, bt / 2, by omega, hr, by omega, by omega, rfl, rfl, trivial, HS⟩, ?_⟩
        simp only [intOf]; omega
      · by_cases d2 : H = hi
        · by_cases d3 : Lw ≤ lo
          · have HS := Keep.mk (N1 (hv.1 (.inr ⟨d2, d3⟩)))
            have hr := HS.out.root_lt HN.out.2.2.2
            clear N1 N2 hv HI
            go_wp2_with fail
            refine m.mono ?_
            rintro e w' ⟨rfl, hw⟩; rw [hw]
            go_wp2_with fail
            refine ⟨⟨root + bt, bt / 2, by omega, hr, by omega, by omega, rfl, rfl, trivial, HS⟩, ?_⟩
            simp only [intOf]; omega
          · have HS := Keep.mk (N2 (fun h => by have := hv.2 h; omega))
            clear N1 N2 hv HI
            go_wp2_with fail
            refine m.mono ?_
            rintro e w' ⟨rfl, hw⟩; rw [hw]
            go_wp2_with fail
            refine ⟨⟨root, bt / 2, by omega, r1, by omega, by omega, rfl, rfl, trivial, HS⟩, ?_⟩
            simp only [intOf]; omega
        · have HS := Keep.mk (N2 (fun h => by have := hv.2 h; omega))
          clear N1 N2 hv HI
          go_wp2_with fail
          refine m.mono ?_
          rintro e w' ⟨rfl, hw⟩; rw [hw]
          go_wp2_with fail
          refine ⟨⟨root, bt / 2, by omega, r1, by omega, by omega, rfl, rfl, trivial, HS⟩, ?_⟩
          simp only [intOf]; omega
    · obtain rfl : bt = 0 := by omega
      have HE := Keep.mk HI.out.last
      clear HI
      go_wp2_with fail
      go_ret
      exact ⟨⟨root, rfl, HE.out⟩, rfl⟩

set_option maxHeartbeats 1000000 in
theorem rroot_c (a : Int) (h : In a) (w : World) :
    Calls Tryd.prog 24 #[.int .i64 a] w fun e w' => e = .returned (.int .i64 (rootZ a)) ∧ w' = w := by
  by_cases hn : a < 0
  · rw [rootZ_neg hn]
    go_enter Tryd.func24, Tryd.ntmps24
    go_wp2_with fail
    go_ret
    exact ⟨rfl, rfl⟩
  · exact (rroot_some_c a (by omega) h.2 w).mono fun e w' ⟨⟨r, he, hr⟩, hw⟩ => ⟨by rw [he, rootZ_of hn hr], hw⟩

end Go.Proofs.YtkfkhjafhlafhaaDoor
