/- the reference's Ticks; the laws' fixed. -/
import Derived.Test.YtgdifgflofjeiaaA3
namespace Go.Proofs.Ytgdifgflofjeiaa
open Go Go.RowKit
/-- where Ticks' loop stands -/
structure RT (w wr : World) (r u y n i x : Int) : Prop where
  a : Has wr w.heap.size (bks r (16 * u) x) 41
  b : Has wr (w.heap.size + 1) (bks 0 0 0) 41
  g : w.grownBy wr none
  x0 : 0 ≤ x
  x1 : x ≤ 16 * u
  e : x = min (y + r * i) (16 * u)
theorem rt_done {r u y n i x : Int} (hr : 0 ≤ r) (hi : 0 ≤ i) (hin : i ≤ n) (hi2 : i ≤ 16000) (e : x = min (y + r * i) (16 * u)) (h : ¬ i < n ∨ ¬ 0 < r ∨ ¬ x < 16 * u) : x = tk r u y n := by
  unfold tk
  rcases h with h | h | h
  · have : min n 16000 = i := by omega
    rw [this]; exact e
  · have : r = 0 := by omega
    subst this
    rw [Int.zero_mul] at e ⊢; exact e
  · have : r * i ≤ r * min n 16000 := Int.mul_le_mul_of_nonneg_left (by omega) hr
    omega
theorem rt_next {r u y i x : Int} (hr : 0 < r) (hu : u ≤ 1000) (hy : 0 ≤ y) (hi : 0 ≤ i) (e : x = min (y + r * i) (16 * u)) (h : x < 16 * u) : i + 1 ≤ 16000 ∧ min (x + r) (16 * u) = min (y + r * (i + 1)) (16 * u) := by
  have : i ≤ r * i := by
    have := Int.mul_le_mul_of_nonneg_right (show 1 ≤ r by omega) hi
    omega
  rw [Int.mul_add, Int.mul_one]
  omega
set_option maxHeartbeats 8000000 in
theorem rticks_c (r u y n : Int) (w : World) (hk : okay r u) (h0 : 0 ≤ y) (h1 : y ≤ 16 * u) (hn : 0 ≤ n) :
    Calls Try.prog 17 #[bv r (16 * u) y, .int .u64 n] w fun e w' => e = .returned (bv r (16 * u) (tk r u y n)) ∧ w.grownBy w' none := by
  obtain ⟨d, hdu, hdr⟩ := under41
  have hu : u ≤ 1000 := hk.2.2.2
  have hr0 : 0 ≤ r := hk.1
  have hr1 : r ≤ 1000 := hk.2.1
  clear hk
  have A2 := (Has.new (w.alloc (.cells (bks r (16 * u) y).toArray 41)) (bks 0 0 0) 41)
  rw [World.size_alloc] at A2
  have HI : Keep (RT w ((w.alloc (.cells #[.int .i64 r, .int .i64 (16 * u), .int .i64 y] 41)).alloc (.cells #[.int .i64 0, .int .i64 0, .int .i64 0] 41)) r u y n 0 y) :=
    ⟨(Has.new w (bks r (16 * u) y) 41).alloc _, A2, gr_al (World.grownBy_alloc _ _ _), h0, h1, by omega⟩
  clear A2
  obtain ⟨m, hm⟩ : ∃ m, 16 * u = m := ⟨_, rfl⟩
  have HMK : Keep (16 * u = m) := ⟨hm⟩
  rw [hm] at h1 HI
  rw [hm]
  have hm1 : m ≤ 16000 := by omega
  clear hm
  go_enter Try.func17, Try.ntmps17
  go_wp2_with fail
  go_loopw [5] (fun s5 w' => ∃ i x : Int, 0 ≤ i ∧ i ≤ n ∧ i ≤ 16000 ∧ s5 = .int .u64 i ∧ Keep (RT w w' r u y n i x)) (fun s5 _ => 16000 - (intOf s5).toNat)
  case atStart => exact ⟨0, y, by omega, hn, by omega, rfl, HI⟩
  case round =>
    clear HI
    obtain ⟨i, x, i0, i1, i2, rfl, HI⟩ := hrel
    have c0 := HI.out.a.cellv 0 _ rfl
    have c1 := HI.out.a.cellv 1 _ rfl
    have c2 := HI.out.a.cellv 2 _ rfl
    rw [HMK.out] at c1
    by_cases hg : i < n ∧ 0 < r ∧ x < m
    · obtain ⟨g1, g2, g3⟩ := hg
      go_wp2_with fail
      have hx0 := HI.out.x0
      have hx1 := HI.out.x1
      rw [HMK.out] at hx1
      refine (rtick_c r m x wr hx0 (by omega) hr0 hr1).mono ?_
      rintro e w3 ⟨rfl, g⟩
      have hnx := rt_next g2 hu h0 i0 HI.out.e (by rw [HMK.out]; exact g3)
      have h3a := HI.out.a.kept g (by simp)
      have h3b := HI.out.b.kept g (by simp)
      have HG : Keep (w.grownBy w3 none) := ⟨HI.out.g.trans g⟩
      have z0 := h3a.frozen 0
      have z1 := h3a.frozen 1
      have z2 := h3a.frozen 2
      have q0 := h3a.cellv 0 _ rfl
      have q1 := h3a.cellv 1 _ rfl
      have q2 := h3a.cellv 2 _ rfl
      have HR : Keep (Has w3 w.heap.size (bks r (16 * u) x) 41 ∧ Has w3 (w.heap.size + 1) (bks 0 0 0) 41) := ⟨h3a, h3b⟩
      rw [HMK.out] at q1
      obtain ⟨z, hz⟩ : ∃ z, min (x + r) m = z := ⟨_, rfl⟩
      have HZ : Keep (0 ≤ z ∧ z ≤ 16 * u ∧ z = min (y + r * (i + 1)) (16 * u) ∧ i + 1 ≤ 16000) := ⟨by have := HMK.out; omega, by have := HMK.out; omega, by rw [← hnx.2, HMK.out, hz], hnx.1⟩
      rw [hz]
      clear hz hnx h3a h3b g c0 c1 c2 HI hx0 hx1
      have hw1 : i + 1 ≤ 16000 := HZ.out.2.2.2
      go_wp2_with fail
      refine ⟨⟨i + 1, z, by omega, by omega, by omega, rfl, ⟨⟨?_, ?_, ?_, HZ.out.1, HZ.out.2.1, HZ.out.2.2.1⟩⟩⟩, ?_⟩
      · rw [HMK.out]
        exact (((HR.out.1.setCell 0 _).setCell 1 _).setCell 2 _)
      · exact (((HR.out.2.other ⟨w.heap.size, 0, none⟩ _ (by simp)).other ⟨w.heap.size, 1, none⟩ _ (by simp)).other ⟨w.heap.size, 2, none⟩ _ (by simp))
      · exact gr_put (gr_put (gr_put HG.out (by omega)) (by omega)) (by omega)
      · simp only [intOf]; omega
    · have HG : Keep (¬ i < n ∨ ¬ 0 < r ∨ ¬ x < 16 * u) := ⟨by rw [HMK.out]; omega⟩
      have HD : Keep (x = tk r u y n) := ⟨rt_done hr0 i0 i1 i2 HI.out.e HG.out⟩
      have z0 := HI.out.b.frozen 0
      have z1 := HI.out.b.frozen 1
      have z2 := HI.out.b.frozen 2
      have q0 := HI.out.b.cellv 0 _ rfl
      have q1 := HI.out.b.cellv 1 _ rfl
      have q2 := HI.out.b.cellv 2 _ rfl
      have hc : ¬ i < n ∨ (i < n ∧ ¬ 0 < r) ∨ (i < n ∧ 0 < r ∧ ¬ x < m) := by omega
      clear HG hg
      rcases hc with g1 | ⟨g1, g2⟩ | ⟨g1, g2, g3⟩
      all_goals
        go_wp2_with fail
        refine ret_cell rfl rfl (cs := bks r m x) (t := 41) (((HI.out.b.setCell 0 _).setCell 1 _).setCell 2 _) hdu hdr info41 rfl ⟨by rw [← HD.out], ?_⟩
        exact gr_put (gr_put (gr_put HI.out.g (by omega)) (by omega)) (by omega)
/-- a bucket of the call's own -/
structure MB (w0 w : World) (kb : Nat) (r u y : Int) : Prop where
  b : BK w kb r u y
  g : w0.grownBy w none
  lo : w0.heap.size ≤ kb
theorem BK.kept {w w' : World} {kb : Nat} {r u y : Int} (h : BK w kb r u y) (g : w.grownBy w' none) : BK w' kb r u y := ⟨h.has.kept g (by simp), h.r0, h.r1, h.u0, h.u1, h.h0, h.h1⟩
theorem BK.other {w w' : World} {kb kc : Nat} {r u y : Int} (h : BK w kb r u y) (g : w.grownBy w' (some kc)) (hne : kb ≠ kc) : BK w' kb r u y := ⟨h.has.kept g (by simp [hne]), h.r0, h.r1, h.u0, h.u1, h.h0, h.h1⟩
theorem MB.kept {w0 w w' : World} {kb : Nat} {r u y : Int} (h : MB w0 w kb r u y) (g : w.grownBy w' none) : MB w0 w' kb r u y := ⟨h.b.kept g, h.g.trans g, h.lo⟩
theorem MB.al {w0 w : World} {kb : Nat} {r u y : Int} (h : MB w0 w kb r u y) (o : Obj) : MB w0 (w.alloc o) kb r u y := h.kept (World.grownBy_alloc _ _ _)
theorem MB.via {w0 w w' : World} {kb : Nat} {r u y z : Int} (h : MB w0 w kb r u y) (b : BK w' kb r u z) (g : w.grownBy w' (some kb)) : MB w0 w' kb r u z := ⟨b, gr_new h.g g h.lo, h.lo⟩
theorem MB.other {w0 w w' : World} {kb kc : Nat} {r u y : Int} (h : MB w0 w kb r u y) (g : w.grownBy w' (some kc)) (hc : w0.heap.size ≤ kc) (hne : kb ≠ kc) : MB w0 w' kb r u y := ⟨h.b.other g hne, gr_new h.g g hc, h.lo⟩
theorem MB.copy {w0 w : World} {kb : Nat} {r u y : Int} (h : MB w0 w kb r u y) : MB w0 (w.alloc (.cells #[.int .i64 r, .int .i64 u, .int .i64 y] 24)) w.heap.size r u y :=
  ⟨⟨Has.new w (bks r u y) 24, h.b.r0, h.b.r1, h.b.u0, h.b.u1, h.b.h0, h.b.h1⟩, gr_al h.g, h.g.size⟩
theorem MB.full {w0 w : World} (g : w0.grownBy w none) {r u : Int} (hk : okay r u) : MB w0 (w.alloc (.cells #[.int .i64 r, .int .i64 u, .int .i64 (16 * u)] 24)) w.heap.size r u (16 * u) :=
  ⟨⟨Has.new w (bks r u (16 * u)) 24, hk.1, hk.2.1, hk.2.2.1, hk.2.2.2, by have := hk.2.2.1; omega, by omega⟩, gr_al g, g.size⟩
theorem MB.lt {w0 w : World} {kb : Nat} {r u y : Int} (h : MB w0 w kb r u y) : kb < w.heap.size := h.b.has.lt
theorem my_take {w0 w : World} {kb : Nat} {r u y : Int} (h : MB w0 w kb r u y) : Calls Try.prog 8 #[.pointer (some ⟨kb, 0, none⟩)] w fun e w' => e = .returned (.int .i64 (tcode y)) ∧ MB w0 w' kb r u (took y) ∧ w.grownBy w' (some kb) :=
  (take_c kb r u y w h.b).mono (fun _ _ q => ⟨q.1, h.via q.2.1 q.2.2, q.2.2⟩)
theorem my_ticks {w0 w : World} {kb : Nat} {r u y : Int} (n : Int) (h : MB w0 w kb r u y) (hn : 0 ≤ n) (hn1 : n < 18446744073709551616) : Calls Try.prog 10 #[.pointer (some ⟨kb, 0, none⟩), .int .u64 n] w fun e w' => e = .returned (.tuple #[]) ∧ MB w0 w' kb r u (tk r u y n) ∧ w.grownBy w' (some kb) :=
  (ticks_c kb r u y n w h.b hn hn1).mono (fun _ _ q => ⟨q.1, h.via q.2.1 q.2.2, q.2.2⟩)
theorem my_tick {w0 w : World} {kb : Nat} {r u y : Int} (h : MB w0 w kb r u y) : Calls Try.prog 9 #[.pointer (some ⟨kb, 0, none⟩)] w fun e w' => e = .returned (.tuple #[]) ∧ MB w0 w' kb r u (tk r u y 1) ∧ w.grownBy w' (some kb) :=
  (tick_c kb r u y w h.b).mono (fun _ _ q => ⟨q.1, h.via q.2.1 q.2.2, q.2.2⟩)
theorem my_left {w0 w : World} {kb : Nat} {r u y : Int} (h : MB w0 w kb r u y) : Calls Try.prog 11 #[.pointer (some ⟨kb, 0, none⟩)] w fun e w' => e = .returned (.int .i64 (y / 16)) ∧ w' = w := left_c kb r u y w h.b
set_option maxHeartbeats 8000000 in
theorem fixed_c (w : World) : Calls Try.prog 12 #[] w fun e w' => e = .returned (.bool true) ∧ w.grownBy w' none := by
  go_enter Try.func12, Try.ntmps12
  go_wp2_with fail
  refine (new_yes 32 3 _ ⟨by omega, by omega, by omega, by omega⟩).mono ?_
  rintro e w1 ⟨rfl, g1⟩
  have HM : Keep (MB w (w1.alloc (.cells #[.int .i64 32, .int .i64 3, .int .i64 48] 24)) w1.heap.size 32 3 48) := ⟨MB.full g1 ⟨by omega, by omega, by omega, by omega⟩⟩
  clear g1
  go_wp2_with fail
  refine (new_no 0 0 _ (fun h => by unfold okay at h; omega)).mono ?_
  rintro e w2 ⟨rfl, g2⟩
  have HB : Keep (MB w (w2.alloc (.cells #[.int .i64 0, .int .i64 0, .int .i64 0] 24)) w1.heap.size 32 3 48) := ⟨(HM.out.kept g2).al _⟩
  clear g2 HM
  generalize w1.heap.size = kb at *
  clear w1
  go_wp2_with fail
  generalize w2.alloc _ = w3 at *
  have c := my_left HB.out
  rw [show (48 / 16 : Int) = 3 from rfl] at c
  refine c.mono ?_
  rintro e w4 ⟨rfl, rfl⟩
  clear c
  go_wp2_with fail
  have c := my_take HB.out
  rw [show tcode 48 = 0 from rfl, show took 48 = 32 from rfl] at c
  refine c.mono ?_
  rintro e w5 ⟨rfl, hb, -⟩
  replace HB := Keep.mk hb
  clear c hb
  go_wp2_with fail
  have c := my_take HB.out
  rw [show tcode 32 = 0 from rfl, show took 32 = 16 from rfl] at c
  refine c.mono ?_
  rintro e w6 ⟨rfl, hb, -⟩
  replace HB := Keep.mk hb
  clear c hb
  go_wp2_with fail
  have c := my_take HB.out
  rw [show tcode 16 = 0 from rfl, show took 16 = 0 from rfl] at c
  refine c.mono ?_
  rintro e w7 ⟨rfl, hb, -⟩
  replace HB := Keep.mk hb
  clear c hb
  go_wp2_with fail
  have c := my_take HB.out
  rw [show tcode 0 = 80 from rfl, show took 0 = 0 from rfl] at c
  refine c.mono ?_
  rintro e w8 ⟨rfl, hb, -⟩
  replace HB := Keep.mk hb
  clear c hb
  go_wp2_with fail
  have c := my_tick HB.out
  rw [show tk 32 3 0 1 = 32 from rfl] at c
  refine c.mono ?_
  rintro e w9 ⟨rfl, hb, -⟩
  replace HB := Keep.mk hb
  clear c hb
  have q0 := HB.out.b.has.cellv 0 _ rfl
  have q1 := HB.out.b.has.cellv 1 _ rfl
  have q2 := HB.out.b.has.cellv 2 _ rfl
  have HC := Keep.mk HB.out.copy
  have HB2 : Keep (MB w (w9.alloc (.cells #[.int .i64 32, .int .i64 3, .int .i64 32] 24)) kb 32 3 32) := ⟨HB.out.al _⟩
  have HN : Keep (kb ≠ w9.heap.size) := ⟨by have := HB.out.lt; omega⟩
  go_wp2_with fail
  clear q0 q1 q2 HB
  generalize w9.heap.size = kc at *
  generalize w9.alloc _ = w10 at *
  have c := my_ticks 1 HC.out (by omega) (by omega)
  rw [show tk 32 3 32 1 = 48 from rfl] at c
  refine c.mono ?_
  rintro e w11 ⟨rfl, hb, g⟩
  replace HB2 := Keep.mk (HB2.out.other g HC.out.lo HN.out)
  replace HC := Keep.mk hb
  clear c hb g
  go_wp2_with fail
  have c := my_left HB2.out
  rw [show (32 / 16 : Int) = 2 from rfl] at c
  refine c.mono ?_
  rintro e w12 ⟨rfl, rfl⟩
  clear c
  go_wp2_with fail
  have c := my_left HC.out
  rw [show (48 / 16 : Int) = 3 from rfl] at c
  refine c.mono ?_
  rintro e w13 ⟨rfl, rfl⟩
  clear c
  go_wp2_with fail
  go_ret
  exact ⟨rfl, HB2.out.g⟩
end Go.Proofs.Ytgdifgflofjeiaa
