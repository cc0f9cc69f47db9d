import Derived.Test.YtplcicbpkbamnabGreatDoorX3
/- the reference; the laws' fixed, brought. -/
namespace Go.Proofs.YtplcicbpkbamnabGreatDoor.Lo.Bu
open Go Go.RowKit
set_option maxRecDepth 100000 in
theorem under41 : ∃ d, Tryz.prog.underlying 92 = some d ∧ d.isRow = true := ⟨_, Tryz.underlying92, rfl⟩
set_option maxRecDepth 100000 in
theorem info41 : (Tryz.prog.info? 92).map (·.size) = some 3 := by kernel_rfl
set_option maxRecDepth 100000 in
set_option maxHeartbeats 4000000 in
theorem rleft_c (r m y : Int) (w : World) (h0 : 0 ≤ y) (h1 : y ≤ 16000) :
    Calls Tryz.prog 81 #[bv r m y] w fun e w' => e = .returned (.int .i64 (y / 16)) ∧ w.grownBy w' none := by
  have hr : y.tdiv 16 = y / 16 := Int.tdiv_eq_ediv_of_nonneg h0
  have hw : IntKind.i64.wrap (y / 16) = y / 16 := wi _ (by omega) (by omega)
  go_enter Tryz.func81, Tryz.ntmps81
  go_wp2_with fail
  go_ret
  exact ⟨rfl, World.grownBy_alloc _ _ _⟩
set_option maxRecDepth 100000 in
theorem gr_al {w w1 : World} {o : Obj} (h : w.grownBy w1 none) : w.grownBy (w1.alloc o) none := h.trans (World.grownBy_alloc _ _ _)
set_option maxRecDepth 100000 in
theorem has2 (w : World) (a b c : Value) (x y z : Value) (t u : TypeId) : Has ((w.alloc (.cells #[a, b, c] u)).alloc (.cells #[x, y, z] t)) (w.heap.size + 1) [x, y, z] t := by
  have h := Has.new (w.alloc (.cells #[a, b, c] u)) [x, y, z] t
  rwa [World.size_alloc] at h
set_option maxRecDepth 100000 in
theorem gr2 (w : World) (a b : Obj) : w.grownBy ((w.alloc a).alloc b) none := gr_al (World.grownBy_alloc _ _ _)
set_option maxRecDepth 100000 in
set_option maxHeartbeats 4000000 in
theorem rtake_c (r m y : Int) (w : World) (h0 : 0 ≤ y) (h1 : y ≤ 16000) :
    Calls Tryz.prog 77 #[bv r m y] w fun e w' => e = .returned (.tuple #[bv r m (took y), .int .i64 (tcode y)]) ∧ w.grownBy w' none := by
  obtain ⟨d, hdu, hdr⟩ := under41
  have hw : IntKind.i64.wrap (y - 16) = y - 16 := wi _ (by omega) (by omega)
  by_cases h16 : y < 16
  · go_enter Tryz.func77, Tryz.ntmps77
    go_wp2_with fail
    have e1 : took y = y := if_pos h16
    have e2 : tcode y = 80 := if_pos h16
    rw [e1, e2]
    exact ret_ct rfl rfl (cs := bks r m y) (t := 92) (has2 w _ _ _ _ _ _ _ _) hdu hdr info41 rfl ⟨rfl, gr2 w _ _⟩
  · go_enter Tryz.func77, Tryz.ntmps77
    go_wp2_with fail
    have e1 : took y = y - 16 := if_neg (by omega)
    have e2 : tcode y = 0 := if_neg (by omega)
    rw [e1, e2]
    exact ret_ct rfl rfl (cs := bks r m (y - 16)) (t := 92) (has2 w _ _ _ _ _ _ _ _) hdu hdr info41 rfl ⟨rfl, gr2 w _ _⟩
set_option maxRecDepth 100000 in
set_option maxHeartbeats 4000000 in
theorem rtick_c (r m y : Int) (w : World) (h0 : 0 ≤ y) (h1 : y ≤ 16000) (hr0 : 0 ≤ r) (hr1 : r ≤ 1000) :
    Calls Tryz.prog 84 #[bv r m y] w fun e w' => e = .returned (bv r m (min (y + r) m)) ∧ w.grownBy w' none := by
  obtain ⟨d, hdu, hdr⟩ := under41
  have hw : IntKind.i64.wrap (y + r) = y + r := wi _ (by omega) (by omega)
  by_cases h16 : m < y + r
  · have HE : Keep (min (y + r) m = m) := ⟨by omega⟩
    go_enter Tryz.func84, Tryz.ntmps84
    go_wp2_with fail
    rw [HE.out]
    exact ret_cell rfl rfl (cs := bks r m m) (t := 92) (has2 w _ _ _ _ _ _ _ _) hdu hdr info41 rfl ⟨rfl, gr2 w _ _⟩
  · have HE : Keep (min (y + r) m = y + r) := ⟨by omega⟩
    go_enter Tryz.func84, Tryz.ntmps84
    go_wp2_with fail
    rw [HE.out]
    exact ret_cell rfl rfl (cs := bks r m (y + r)) (t := 92) (has2 w _ _ _ _ _ _ _ _) hdu hdr info41 rfl ⟨rfl, gr2 w _ _⟩
set_option maxRecDepth 100000 in
set_option maxHeartbeats 4000000 in
theorem rnew_no (r u : Int) (w : World) (h : ¬ okay r u) :
    Calls Tryz.prog 72 #[.int .i64 r, .int .i64 u] w fun e w' => e = .returned (.tuple #[bv 0 0 0, .int .i64 110]) ∧ w.grownBy w' none := by
  obtain ⟨d, hdu, hdr⟩ := under41
  have HA : Keep (Has (w.alloc (.cells #[.int .i64 0, .int .i64 0, .int .i64 0] 92)) w.heap.size (bks 0 0 0) 92) := ⟨Has.new w (bks 0 0 0) 92⟩
  have hc : r < 0 ∨ (¬ r < 0 ∧ 1000 < r) ∨ (¬ r < 0 ∧ ¬ 1000 < r ∧ u < 1) ∨ (¬ r < 0 ∧ ¬ 1000 < r ∧ ¬ u < 1 ∧ 1000 < u) := by unfold okay at h; omega
  clear h
  rcases hc with h | ⟨h, h2⟩ | ⟨h, h2, h3⟩ | ⟨h, h2, h3, h4⟩
  all_goals
    go_enter Tryz.func72, Tryz.ntmps72
    go_wp2_with fail
    refine ret_ct rfl rfl (cs := bks 0 0 0) (t := 92) ?_ hdu hdr info41 rfl ⟨rfl, ?_⟩
    · first | exact HA.out | exact (((HA.out.setCell 0 _).setCell 1 _).setCell 2 _)
    · first | exact World.grownBy_alloc _ _ _ | exact gr_put (gr_put (gr_put (World.grownBy_alloc _ _ _) (by omega)) (by omega)) (by omega)
set_option maxRecDepth 100000 in
set_option maxHeartbeats 4000000 in
theorem rnew_yes (r u : Int) (w : World) (h : okay r u) :
    Calls Tryz.prog 72 #[.int .i64 r, .int .i64 u] w fun e w' => e = .returned (.tuple #[bv r (16 * u) (16 * u), .int .i64 0]) ∧ w.grownBy w' none := by
  obtain ⟨d, hdu, hdr⟩ := under41
  have HA : Keep (Has (w.alloc (.cells #[.int .i64 0, .int .i64 0, .int .i64 0] 92)) w.heap.size (bks 0 0 0) 92) := ⟨Has.new w (bks 0 0 0) 92⟩
  have h1 : ¬ r < 0 := by unfold okay at h; omega
  have h2 : ¬ 1000 < r := by unfold okay at h; omega
  have h3 : ¬ u < 1 := by unfold okay at h; omega
  have h4 : ¬ 1000 < u := by unfold okay at h; omega
  have hw : IntKind.i64.wrap (16 * u) = 16 * u := wi _ (by omega) (by omega)
  go_enter Tryz.func72, Tryz.ntmps72
  go_wp2_with fail
  exact ret_ct rfl rfl (cs := bks r (16 * u) (16 * u)) (t := 92) (Has.new w (bks r (16 * u) (16 * u)) 92) hdu hdr info41 rfl ⟨rfl, World.grownBy_alloc _ _ _⟩
end Go.Proofs.YtplcicbpkbamnabGreatDoor.Lo.Bu

