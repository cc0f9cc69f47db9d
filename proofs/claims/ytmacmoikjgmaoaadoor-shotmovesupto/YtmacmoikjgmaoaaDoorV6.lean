/- vec: Sub, Dist2, Within, Len; the reference's; the laws' in, small, size. -/
import Derived.Test.YtmacmoikjgmaoaaDoorV5
import Derived.Test.YtmacmoikjgmaoaaDoorG2
namespace Go.Proofs.YtmacmoikjgmaoaaDoor
open Go Go.RowKit

set_option maxRecDepth 100000 in
theorem lz_range (a b m : Int) (h : 0 ≤ m) : -m ≤ lz a b m ∧ lz a b m ≤ m := by unfold lz kz; omega
def d2 (ax ay bx by' : Int) : Int := lz ax bx 2147483647 * lz ax bx 2147483647 + lz ay by' 2147483647 * lz ay by' 2147483647
set_option maxRecDepth 100000 in
theorem sq_bd (x : Int) (hx : -2147483647 ≤ x ∧ x ≤ 2147483647) : 0 ≤ x * x ∧ x * x ≤ 4611686014132420609 := by
  constructor
  · exact sq0 x
  · have : 0 ≤ (2147483647 - x) * (2147483647 + x) := Int.mul_nonneg (by omega) (by omega)
    grind
set_option maxRecDepth 100000 in
theorem d2_range (ax ay bx by' : Int) : 0 ≤ d2 ax ay bx by' ∧ d2 ax ay bx by' ≤ 9223372028264841218 := by
  have h1 := sq_bd _ (lz_range ax bx 2147483647 (by omega))
  have h2 := sq_bd _ (lz_range ay by' 2147483647 (by omega))
  unfold d2
  omega
set_option maxRecDepth 100000 in
set_option maxHeartbeats 2000000 in
theorem dist_c (ax ay bx by' : Int) (h1 : In ax) (h2 : In ay) (h3 : In bx) (h4 : In by') (w : World) (hk : Kc w) :
    Calls Tryd.prog 32 #[vv ax ay, vv bx by'] w fun e w' => e = .returned (.int .i64 (d2 ax ay bx by')) ∧ w.grownBy w' none := by
  have c1 := fun W => minus_c ax ay bx by' 2147483647 h1 h2 h3 h4 (by omega) W
  have c2 := fun W => square_c (lz ax bx 2147483647) (lz ay by' 2147483647) (lz_range _ _ _ (by omega)) (lz_range _ _ _ (by omega)) W
  clear h1 h2 h3 h4
  unfold d2
  generalize lz ax bx 2147483647 = u at *
  generalize lz ay by' 2147483647 = v at *
  generalize u * u + v * v = r at *
  have HB := Keep.mk (((Bx.start hk).new ax ay).new bx by')
  clear hk
  rw [size_alloc] at HB
  go_enter Tryd.func32, Tryd.ntmps32
  go_wp2_with fail
  generalize (w.alloc (.cells #[.int .i64 ax, .int .i64 ay] 24)).alloc (.cells #[.int .i64 bx, .int .i64 by'] 24) = W at HB ⊢
  refine (c1 _).mono ?_
  rintro e w1 ⟨rfl, hg⟩
  have HB1 := Keep.mk (HB.out.kept hg)
  clear hg HB c1
  go_wp2_with fail
  refine (c2 _).mono ?_
  rintro e w2 ⟨rfl, hg⟩
  have HB := Keep.mk (HB1.out.kept hg)
  clear hg HB1 c2
  go_wp2_with fail
  go_ret
  exact ⟨rfl, HB.out.g⟩
set_option maxRecDepth 100000 in
set_option maxHeartbeats 2000000 in
theorem rdist_c (ax ay bx by' : Int) (h1 : In ax) (h2 : In ay) (h3 : In bx) (h4 : In by') (w : World) (hk : Kc w) :
    Calls Tryd.prog 69 #[vv ax ay, vv bx by'] w fun e w' => e = .returned (.int .i64 (d2 ax ay bx by')) ∧ w.grownBy w' none := by
  have c1 := fun W => rless_c ax bx 2147483647 h1 h3 (by omega) W
  have c2 := fun W => rless_c ay by' 2147483647 h2 h4 (by omega) W
  have s1 := sq_bd _ (lz_range ax bx 2147483647 (by omega))
  have s2 := sq_bd _ (lz_range ay by' 2147483647 (by omega))
  clear h1 h2 h3 h4
  unfold d2
  generalize lz ax bx 2147483647 = u at *
  generalize lz ay by' 2147483647 = v at *
  have e1 : IntKind.i64.wrap (u * u) = u * u := by rw [IntKind.wrap_i64]; omega
  have e2 : IntKind.i64.wrap (v * v) = v * v := by rw [IntKind.wrap_i64]; omega
  have e3 : IntKind.i64.wrap (u * u + v * v) = u * u + v * v := by rw [IntKind.wrap_i64]; omega
  clear s1 s2
  have HB := Keep.mk (((Bx.start hk).new ax ay).new bx by')
  clear hk
  rw [size_alloc] at HB
  have x0 := (HB.out.has _ _ _ (.head _)).cellv 0 _ rfl
  have x1 := (HB.out.has _ _ _ (.head _)).cellv 1 _ rfl
  have y0 := (HB.out.has _ _ _ (.tail _ (.head _))).cellv 0 _ rfl
  have y1 := (HB.out.has _ _ _ (.tail _ (.head _))).cellv 1 _ rfl
  go_enter Tryd.func69, Tryd.ntmps69
  go_wp2_with fail
  refine (c1 _).mono ?_
  rintro e w' ⟨rfl, hw⟩; rw [hw]
  go_wp2_with fail
  refine (c2 _).mono ?_
  rintro e w' ⟨rfl, hw⟩; rw [hw]
  go_wp2_with fail
  go_ret
  exact ⟨rfl, HB.out.g⟩
def wn (d r : Int) : Bool := decide (0 ≤ r) && decide (d ≤ kz r 0 3037000499 * kz r 0 3037000499)
set_option maxRecDepth 100000 in
theorem kz_sq (r : Int) : 0 ≤ kz r 0 3037000499 * kz r 0 3037000499 ∧ kz r 0 3037000499 * kz r 0 3037000499 ≤ 9223372030926249001 := by
  have h : 0 ≤ kz r 0 3037000499 ∧ kz r 0 3037000499 ≤ 3037000499 := by unfold kz; omega
  generalize kz r 0 3037000499 = s at *
  constructor
  · exact sq0 s
  · have : 0 ≤ (3037000499 - s) * (3037000499 + s) := Int.mul_nonneg (by omega) (by omega)
    grind
set_option maxRecDepth 100000 in
set_option maxHeartbeats 2000000 in
theorem within_c (ax ay bx by' r : Int) (h1 : In ax) (h2 : In ay) (h3 : In bx) (h4 : In by') (w : World) (hk : Kc w) :
    Calls Tryd.prog 14 #[vv ax ay, vv bx by', .int .i64 r] w fun e w' => e = .returned (.bool (wn (d2 ax ay bx by') r)) ∧ w.grownBy w' none := by
  have c1 := fun W (hk : Kc W) => dist_c ax ay bx by' h1 h2 h3 h4 W hk
  have c2 := fun W => kept_i r 0 3037000499 W
  have s1 := kz_sq r
  clear h1 h2 h3 h4
  have HB := Keep.mk (((Bx.start hk).new ax ay).new bx by')
  clear hk
  rw [size_alloc] at HB
  generalize d2 ax ay bx by' = d at *
  unfold wn
  by_cases c : r < 0
  · have e : decide (0 ≤ r) = false := decide_eq_false (by omega)
    rw [e, Bool.false_and]
    go_enter Tryd.func14, Tryd.ntmps14
    go_wp2_with fail
    go_ret
    exact ⟨rfl, HB.out.g⟩
  · have e : decide (0 ≤ r) = true := decide_eq_true (by omega)
    rw [e, Bool.true_and]
    generalize kz r 0 3037000499 = q at *
    have e1 : IntKind.i64.wrap (q * q) = q * q := by rw [IntKind.wrap_i64]; omega
    clear s1 e
    go_enter Tryd.func14, Tryd.ntmps14
    go_wp2_with fail
    refine (c2 _).mono ?_
    rintro e w' ⟨rfl, hw⟩; rw [hw]
    clear c2 hw w'
    go_wp2_with fail
    generalize (w.alloc (.cells #[.int .i64 ax, .int .i64 ay] 24)).alloc (.cells #[.int .i64 bx, .int .i64 by'] 24) = W at HB ⊢
    refine (c1 _ HB.out.k).mono ?_
    rintro e w2 ⟨rfl, hg⟩
    have HB2 := Keep.mk (HB.out.kept hg)
    clear hg HB c1
    go_wp2_with fail
    go_ret
    exact ⟨rfl, HB2.out.g⟩
set_option maxRecDepth 100000 in
theorem wn_big (d r : Int) (hd : d ≤ 9223372028264841218) (h : 3037000500 ≤ r) : wn d r = true := by
  have e : kz r 0 3037000499 = 3037000499 := by unfold kz; omega
  unfold wn
  rw [e, decide_eq_true (by omega), decide_eq_true (by omega)]
  rfl
set_option maxRecDepth 100000 in
theorem wn_small (d r : Int) (h0 : 0 ≤ r) (h : r < 3037000500) : wn d r = decide (d ≤ r * r) := by
  have e : kz r 0 3037000499 = r := by unfold kz; omega
  unfold wn
  rw [e, decide_eq_true h0, Bool.true_and]
set_option maxRecDepth 100000 in
theorem wn_neg (d r : Int) (h0 : r < 0) : wn d r = false := by
  unfold wn
  rw [decide_eq_false (by omega), Bool.false_and]
set_option maxRecDepth 100000 in
set_option maxHeartbeats 2000000 in
theorem rwithin_c (ax ay bx by' r : Int) (h1 : In ax) (h2 : In ay) (h3 : In bx) (h4 : In by') (w : World) (hk : Kc w) :
    Calls Tryd.prog 62 #[vv ax ay, vv bx by', .int .i64 r] w fun e w' => e = .returned (.bool (wn (d2 ax ay bx by') r)) ∧ w.grownBy w' none := by
  have c1 := fun W (hk : Kc W) => rdist_c ax ay bx by' h1 h2 h3 h4 W hk
  have hd := (d2_range ax ay bx by').2
  clear h1 h2 h3 h4
  have HB := Keep.mk (((Bx.start hk).new ax ay).new bx by')
  clear hk
  rw [size_alloc] at HB
  generalize d2 ax ay bx by' = d at *
  by_cases c : r < 0
  · rw [wn_neg d r c]
    go_enter Tryd.func62, Tryd.ntmps62
    go_wp2_with fail
    go_ret
    exact ⟨rfl, HB.out.g⟩
  · by_cases c2 : 3037000500 ≤ r
    · rw [wn_big d r hd c2]
      go_enter Tryd.func62, Tryd.ntmps62
      go_wp2_with fail
      go_ret
      exact ⟨rfl, HB.out.g⟩
    · rw [wn_small d r (by omega) (by omega)]
      have s1 : 0 ≤ r * r ∧ r * r ≤ 9223372030926249001 := by
        have h := kz_sq r
        have e : kz r 0 3037000499 = r := by unfold kz; omega
        rwa [e] at h
      have e1 : IntKind.i64.wrap (r * r) = r * r := by rw [IntKind.wrap_i64]; omega
      clear s1
      go_enter Tryd.func62, Tryd.ntmps62
      go_wp2_with fail
      generalize (w.alloc (.cells #[.int .i64 ax, .int .i64 ay] 24)).alloc (.cells #[.int .i64 bx, .int .i64 by'] 24) = W at HB ⊢
      refine (c1 _ HB.out.k).mono ?_
      rintro e w2 ⟨rfl, hg⟩
      have HB2 := Keep.mk (HB.out.kept hg)
      clear hg HB c1
      go_wp2_with fail
      go_ret
      exact ⟨rfl, HB2.out.g⟩
end Go.Proofs.YtmacmoikjgmaoaaDoor
