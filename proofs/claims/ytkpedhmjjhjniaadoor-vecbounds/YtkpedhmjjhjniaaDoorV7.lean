/- vec: Len, the reference's; the laws' in, small, size. -/
import Derived.Test.YtkpedhmjjhjniaaDoorV6
namespace Go.Proofs.YtkpedhmjjhjniaaDoor
open Go Go.RowKit

theorem root_steps : ∀ (k : Nat) (n root : Int), RInv n root (((2 ^ k : Nat) : Int)) → ∃ r, IsRt n r
  | 0, n, root, h => by
    have h1 : ((2 ^ 0 : Nat) : Int) = 1 := rfl
    rw [h1] at h
    obtain ⟨a, b⟩ := h.next (by omega)
    have e : (1 : Int) / 2 = 0 := by decide
    rw [e] at a b
    by_cases c : (root + 1) * (root + 1) ≤ n
    · exact ⟨_, (a c).last⟩
    · exact ⟨_, (b c).last⟩
  | k + 1, n, root, h => by
    have hp := Nat.two_pow_pos (k + 1)
    obtain ⟨a, b⟩ := h.next (by omega)
    have e : ((2 ^ (k + 1) : Nat) : Int) / 2 = ((2 ^ k : Nat) : Int) := by rw [Nat.pow_succ]; omega
    rw [e] at a b
    by_cases c : (root + ((2 ^ (k + 1) : Nat) : Int)) * (root + ((2 ^ (k + 1) : Nat) : Int)) ≤ n
    · exact root_steps k n _ (a c)
    · exact root_steps k n _ (b c)
theorem root_is (a : Int) (c : ¬ a < 0) (h : In a) : ∃ r, IsRt (a * 65536) r ∧ r < 1099511627776 := by
  obtain ⟨h1, h2⟩ := h
  have e : ((2 ^ 39 : Nat) : Int) = 549755813888 := rfl
  obtain ⟨r, hr⟩ := root_steps 39 (a * 65536) 0 (RInv.first 39 rfl (by rw [e]; omega) (by omega) (by rw [e]; omega))
  refine ⟨r, hr, Int.lt_of_not_ge fun g => ?_⟩
  have h1 := sq_le (show (0 : Int) ≤ 1099511627776 by omega) g
  have h2 := hr.le
  omega
/-- the greatest whole number whose square is at most s -/
noncomputable def rt (s : Int) : Int := rootZ s / 256
theorem rt_is (s : Int) (h0 : 0 ≤ s) (h1 : s ≤ 9223372036854775807) : IsRt s (rt s) ∧ 0 ≤ rootZ s ∧ rootZ s < 1099511627776 := by
  obtain ⟨r, hr, hl⟩ := root_is s (by omega) ⟨by omega, by omega⟩
  unfold rt
  rw [rootZ_of (by omega) hr]
  have p := hr.p
  refine ⟨⟨by omega, ?_, ?_⟩, p, hl⟩
  · have h3 : (r / 256 * 256) * (r / 256 * 256) ≤ r * r := sq_le (by omega) (by omega)
    have h4 := hr.le
    have h5 : (r / 256 * 256) * (r / 256 * 256) = (r / 256) * (r / 256) * 65536 := by grind
    rw [h5] at h3
    generalize r / 256 * (r / 256) = z at *
    omega
  · have h3 : (r + 1) * (r + 1) ≤ ((r / 256 + 1) * 256) * ((r / 256 + 1) * 256) := sq_le (by omega) (by omega)
    have h4 := hr.lt
    have h5 : ((r / 256 + 1) * 256) * ((r / 256 + 1) * 256) = (r / 256 + 1) * (r / 256 + 1) * 65536 := by grind
    rw [h5] at h3
    generalize (r / 256 + 1) * (r / 256 + 1) = z at *
    omega
theorem rt_eq {s r : Int} (h0 : 0 ≤ s) (h1 : s ≤ 9223372036854775807) (h : IsRt s r) : rt s = r := (rt_is s h0 h1).1.eq h
def kf (x : Int) : Int := kz x (-2147483647) 2147483647
theorem kf_range (x : Int) : -2147483647 ≤ kf x ∧ kf x ≤ 2147483647 := by unfold kf kz; omega
def sq2 (x y : Int) : Int := kf x * kf x + kf y * kf y
theorem sq2_range (x y : Int) : 0 ≤ sq2 x y ∧ sq2 x y ≤ 9223372028264841218 := by
  have h1 := sq_bd _ (kf_range x)
  have h2 := sq_bd _ (kf_range y)
  unfold sq2
  omega
set_option maxHeartbeats 2000000 in
theorem len_c (x y : Int) (w : World) (hk : Kc w) :
    Calls Tryd.prog 18 #[vv x y] w fun e w' => e = .returned (.int .i64 (rt (sq2 x y))) ∧ w.grownBy w' none := by
  have c1 := fun W => vcap_c x y 2147483647 W
  have e0 : kz 2147483647 0 1099511627776 = 2147483647 := by decide
  rw [e0] at c1
  have c2 := fun W => square_c (kf x) (kf y) (kf_range x) (kf_range y) W
  have hs := sq2_range x y
  have c3 := fun W => root_c (sq2 x y) ⟨by omega, by omega⟩ W
  have hr := (rt_is (sq2 x y) hs.1 (by omega)).2
  have e1 : kf x * kf x + kf y * kf y = sq2 x y := rfl
  have e2 : kz x (-2147483647) 2147483647 = kf x := rfl
  have e3 : kz y (-2147483647) 2147483647 = kf y := rfl
  rw [e1] at c2
  rw [e2, e3] at c1
  unfold rt
  clear e1 e2 e3 e0 hs
  generalize sq2 x y = s at *
  generalize kf x = u at *
  generalize kf y = v at *
  generalize rootZ s = r at *
  have HB := Keep.mk ((Bx.start hk).new x y)
  clear hk
  go_enter Tryd.func18, Tryd.ntmps18
  go_wp2_with fail
  generalize w.alloc (.cells #[.int .i64 x, .int .i64 y] 25) = W at HB ⊢
  refine (c1 _).mono ?_
  rintro e w1 ⟨rfl, hg⟩
  have HB1 := Keep.mk (HB.out.kept hg)
  clear hg HB c1
  go_wp2_with fail
  refine (c2 _).mono ?_
  rintro e w2 ⟨rfl, hg⟩
  have HB := Keep.mk (HB1.out.kept hg)
  clear hg HB1 c2
  go_wp2_with fail
  refine (c3 _).mono ?_
  rintro e w' ⟨rfl, hw⟩; rw [hw]
  go_wp2_with fail
  go_ret
  exact ⟨rfl, HB.out.g⟩
set_option maxHeartbeats 4000000 in
theorem rlen_c (x y : Int) (w : World) (hk : Kc w) :
    Calls Tryd.prog 29 #[vv x y] w fun e w' => e = .returned (.int .i64 (rt (sq2 x y))) ∧ w.grownBy w' none := by
  have c1 := fun W => keep_c x 2147483647 (by omega) W
  have c2 := fun W => keep_c y 2147483647 (by omega) W
  have e1 : kf x * kf x + kf y * kf y = sq2 x y := rfl
  have e2 : kz x (-2147483647) 2147483647 = kf x := rfl
  have e3 : kz y (-2147483647) 2147483647 = kf y := rfl
  rw [e2] at c1
  rw [e3] at c2
  have s1 := sq_bd _ (kf_range x)
  have s2 := sq_bd _ (kf_range y)
  have hs := sq2_range x y
  have HQ : Keep (∀ r, IsRt (sq2 x y) r → rt (sq2 x y) = r) := ⟨fun r h => rt_eq hs.1 (by omega) h⟩
  generalize sq2 x y = s at *
  generalize rt s = R at *
  generalize kf x = u at *
  generalize kf y = v at *
  have f1 : IntKind.i64.wrap (u * u) = u * u := by rw [IntKind.wrap_i64]; omega
  have f2 : IntKind.i64.wrap (v * v) = v * v := by rw [IntKind.wrap_i64]; omega
  have f3 : IntKind.u64.wrap (u * u) = u * u := by rw [IntKind.wrap_u64]; omega
  have f4 : IntKind.u64.wrap (v * v) = v * v := by rw [IntKind.wrap_u64]; omega
  have f5 : IntKind.u64.wrap (u * u + v * v) = s := by rw [IntKind.wrap_u64]; omega
  have HI : Keep (RInv s 0 2147483648) := ⟨RInv.first 31 rfl (by omega) (by omega) (by omega)⟩
  clear s1 s2 e1 e2 e3
  have HB := Keep.mk ((Bx.start hk).new x y)
  clear hk
  have x0 := (HB.out.has _ _ _ (.head _)).cellv 0 _ rfl
  have x1 := (HB.out.has _ _ _ (.head _)).cellv 1 _ rfl
  go_enter Tryd.func29, Tryd.ntmps29
  go_wp2_with fail
  refine (c1 _).mono ?_
  rintro e w' ⟨rfl, hw⟩; rw [hw]
  go_wp2_with fail
  refine (c2 _).mono ?_
  rintro e w' ⟨rfl, hw⟩; rw [hw]
  go_wp2_with fail
  clear x0 x1 c1 c2
  generalize w.alloc (.cells #[.int .i64 x, .int .i64 y] 25) = W at HB ⊢
  go_loopw [6, 7] (fun s6 s7 w' => ∃ root b : Int, 0 ≤ root ∧ root + 2 * b ≤ 4294967296 ∧ 0 ≤ b ∧ s6 = .int .u64 root ∧ s7 = .int .u64 b ∧ w' = W ∧ Keep (RInv s root b)) (fun _ s7 _ => (intOf s7).toNat)
  case atStart => exact ⟨0, 2147483648, by omega, by omega, by omega, rfl, rfl, rfl, HI⟩
  case round =>
    clear HI
    obtain ⟨root, bt, r0, r1, b0, rfl, rfl, rfl, HI⟩ := hrel
    by_cases c1 : 0 < bt
    · obtain ⟨N1, N2⟩ := HI.out.next c1
      have hS : 0 ≤ (root + bt) * (root + bt) ∧ (root + bt) * (root + bt) < 18446744073709551616 := by
        have h1 := sq_le (show 0 ≤ root + bt by omega) (show root + bt ≤ 4294967295 by omega)
        have h2 := sq0 (root + bt)
        omega
      have e1 : IntKind.u64.wrap ((root + bt) * (root + bt)) = (root + bt) * (root + bt) := by rw [IntKind.wrap_u64]; omega
      by_cases d : (root + bt) * (root + bt) ≤ s
      · have HS := Keep.mk (N1 d)
        clear N1 N2 HI hS
        go_wp2_with fail
        refine ⟨⟨root + bt, bt / 2, by omega, by omega, by omega, rfl, rfl, trivial, HS⟩, ?_⟩
        simp only [intOf]; omega
      · have HS := Keep.mk (N2 d)
        clear N1 N2 HI hS
        go_wp2_with fail
        refine ⟨⟨root, bt / 2, by omega, by omega, by omega, rfl, rfl, trivial, HS⟩, ?_⟩
        simp only [intOf]; omega
    · obtain rfl : bt = 0 := by omega
      have HE := HI.out.last
      have HE := Keep.mk (HQ.out _ HE)
      clear HI HQ
      go_wp2_with fail
      go_ret
      exact ⟨ret_int HE.out.symm, HB.out.g⟩
def inB (x m : Int) : Bool := decide (-m ≤ x) && decide (x ≤ m)
theorem in_c (x m : Int) (hm : -9223372036854775807 ≤ m ∧ m ≤ 9223372036854775807) (w : World) :
    Calls Tryd.prog 11 #[.int .i64 x, .int .i64 m] w fun e w' => e = .returned (.bool (inB x m)) ∧ w' = w := by
  have hwm : IntKind.i64.wrap (-m) = -m := by rw [IntKind.wrap_i64]; omega
  unfold inB
  by_cases c1 : -m ≤ x
  · by_cases c2 : x ≤ m
    · rw [decide_eq_true c1, decide_eq_true c2]
      go_enter Tryd.func11, Tryd.ntmps11
      go_wp2
      go_ret
      exact ⟨rfl, rfl⟩
    · rw [decide_eq_true c1, decide_eq_false c2]
      have c3 : m < x := by omega
      go_enter Tryd.func11, Tryd.ntmps11
      go_wp2
      go_ret
      exact ⟨rfl, rfl⟩
  · rw [decide_eq_false c1]
    have c3 : x < -m := by omega
    go_enter Tryd.func11, Tryd.ntmps11
    go_wp2
    go_ret
    exact ⟨rfl, rfl⟩
theorem size_c (x : Int) (w : World) :
    Calls Tryd.prog 19 #[.int .i64 x] w fun e w' => e = .returned (.int .i64 (abs64 (kf x))) ∧ w' = w := by
  by_cases c1 : 2147483647 < x
  · have e : abs64 (kf x) = 2147483647 := by unfold abs64 kf kz; split <;> omega
    rw [e]
    go_enter Tryd.func19, Tryd.ntmps19
    go_wp2
    go_ret
    exact ⟨rfl, rfl⟩
  · by_cases c2 : x < -2147483647
    · have e : abs64 (kf x) = 2147483647 := by unfold abs64 kf kz; split <;> omega
      rw [e]
      go_enter Tryd.func19, Tryd.ntmps19
      go_wp2
      go_ret
      exact ⟨rfl, rfl⟩
    · by_cases c3 : x < 0
      · have e : abs64 (kf x) = -x := by unfold abs64 kf kz; split <;> omega
        rw [e]
        go_enter Tryd.func19, Tryd.ntmps19
        go_wp2
        go_ret
        exact ⟨rfl, rfl⟩
      · have e : abs64 (kf x) = x := by unfold abs64 kf kz; split <;> omega
        rw [e]
        go_enter Tryd.func19, Tryd.ntmps19
        go_wp2
        go_ret
        exact ⟨rfl, rfl⟩
def smB (ax ay bx by' : Int) : Bool := inB ax 536870912 && (inB ay 536870912 && (inB bx 536870912 && inB by' 536870912))
set_option maxHeartbeats 2000000 in
theorem small_c (ax ay bx by' : Int) (w : World) (hk : Kc w) :
    Calls Tryd.prog 13 #[vv ax ay, vv bx by'] w fun e w' => e = .returned (.bool (smB ax ay bx by')) ∧ w.grownBy w' none := by
  have c1 := fun W => in_c ax 536870912 (by omega) W
  have c2 := fun W => in_c ay 536870912 (by omega) W
  have c3 := fun W => in_c bx 536870912 (by omega) W
  have c4 := fun W => in_c by' 536870912 (by omega) W
  unfold smB
  generalize inB ax 536870912 = p1 at *
  generalize inB ay 536870912 = p2 at *
  generalize inB bx 536870912 = p3 at *
  generalize inB by' 536870912 = p4 at *
  have HB := Keep.mk (((Bx.start hk).new ax ay).new bx by')
  clear hk
  rw [size_alloc] at HB
  have x0 := (HB.out.has _ _ _ (.head _)).cellv 0 _ rfl
  have x1 := (HB.out.has _ _ _ (.head _)).cellv 1 _ rfl
  have y0 := (HB.out.has _ _ _ (.tail _ (.head _))).cellv 0 _ rfl
  have y1 := (HB.out.has _ _ _ (.tail _ (.head _))).cellv 1 _ rfl
  go_enter Tryd.func13, Tryd.ntmps13
  go_wp2_with fail
  refine (c1 _).mono ?_
  rintro e w' ⟨rfl, hw⟩; rw [hw]; clear hw w' c1
  cases p1
  · go_wp2_with fail
    go_ret
    exact ⟨rfl, HB.out.g⟩
  go_wp2_with fail
  refine (c2 _).mono ?_
  rintro e w' ⟨rfl, hw⟩; rw [hw]; clear hw w' c2
  cases p2
  · go_wp2_with fail
    go_ret
    exact ⟨rfl, HB.out.g⟩
  go_wp2_with fail
  refine (c3 _).mono ?_
  rintro e w' ⟨rfl, hw⟩; rw [hw]; clear hw w' c3
  cases p3
  · go_wp2_with fail
    go_ret
    exact ⟨rfl, HB.out.g⟩
  go_wp2_with fail
  refine (c4 _).mono ?_
  rintro e w' ⟨rfl, hw⟩; rw [hw]; clear hw w' c4
  go_wp2_with fail
  go_ret
  exact ⟨rfl, HB.out.g⟩
end Go.Proofs.YtkpedhmjjhjniaaDoor
