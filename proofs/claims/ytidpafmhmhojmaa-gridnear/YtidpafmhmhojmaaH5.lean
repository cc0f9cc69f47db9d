/- grid: the order of things. -/
import Derived.Test.YtidpafmhmhojmaaH4
import Derived.Test.YtidpafmhmhojmaaLS1
import Derived.Laws.EntriesVeiled
namespace Go.Proofs.Ytidpafmhmhojmaa
open Go Go.RowKit Go.Shelf Go.Lib Go.Sort

theorem nan54 (a : Int) (W : World) : Calls Try.prog 54 #[.int .i64 a] W fun e w' => e = .returned (.bool false) ∧ w' = W := by
  go_enter Try.func54, Try.ntmps54
  go_wp2_with fail
  go_ret
  exact ⟨by simp, rfl⟩
set_option maxRecDepth 100000 in
set_option maxHeartbeats 4000000 in
theorem cmp45 (a b : Int) (W : World) : Calls Try.prog 45 #[.int .i64 a, .int .i64 b] W fun e w' => e = .returned (.int .i64 (Lib.compareInt a b)) ∧ w' = W := by
  by_cases h1 : a < b
  · have HE : Keep (Lib.compareInt a b = -1) := ⟨by unfold Lib.compareInt; simp [h1]⟩
    go_enter Try.func45, Try.ntmps45
    go_wp2_with (go_at_call 54; refine (nan54 _ _).mono ?_; rintro e w' ⟨rfl, rfl⟩)
    go_ret
    rw [HE.out]
    exact ⟨rfl, rfl⟩
  · by_cases h2 : b < a
    · have HE : Keep (Lib.compareInt a b = 1) := ⟨by unfold Lib.compareInt; simp [h1, h2]⟩
      go_enter Try.func45, Try.ntmps45
      go_wp2_with (go_at_call 54; refine (nan54 _ _).mono ?_; rintro e w' ⟨rfl, rfl⟩)
      go_ret
      rw [HE.out]
      exact ⟨rfl, rfl⟩
    · have HE : Keep (Lib.compareInt a b = 0) := ⟨by unfold Lib.compareInt; simp [h1, h2]⟩
      go_enter Try.func45, Try.ntmps45
      go_wp2_with (go_at_call 54; refine (nan54 _ _).mono ?_; rintro e w' ⟨rfl, rfl⟩)
      go_ret
      rw [HE.out]
      exact ⟨rfl, rfl⟩
theorem num32 (w : World) (tb : Nat) (k : Int) (c0 : w.cell? ⟨tb, 0, none⟩ = some (iv k)) : Calls Try.prog 32 #[pt tb] w fun e w' => e = .returned (iv k) ∧ w' = w := by
  go_enter Try.func32, Try.ntmps32
  go_wp2_with fail
  go_ret
  exact ⟨rfl, rfl⟩
set_option maxRecDepth 100000 in
set_option maxHeartbeats 4000000 in
theorem far35 (w : World) (tb ab : Nat) (x y tx ty : Int) (hx : I64 x) (hy : I64 y) (htx : I64 tx) (hty : I64 ty) (c0 : w.cell? ⟨ab, 0, none⟩ = some (iv x)) (c1 : w.cell? ⟨ab, 1, none⟩ = some (iv y)) (d1 : w.cell? ⟨tb, 1, none⟩ = some (iv tx)) (d2' : w.cell? ⟨tb, 2, none⟩ = some (iv ty)) :
    Calls Try.prog 35 #[pt tb, pt ab] w fun e w' => e = .returned (iv (d2 x y tx ty)) ∧ Gw w w' := by
  have HD := Keep.mk (fun w => dist_c x y tx ty hx hy htx hty w)
  generalize d2 x y tx ty = d at *
  clear hx hy htx hty
  go_enter Try.func35, Try.ntmps35
  go_wp2_with fail
  refine region_X (S := fun w' => Gw w w') [] (by kernel_rfl) (Gw.drew w) (fun hHeld => ?_)
  replace HB := Keep.mk hHeld
  refine wpAnyX_take (i := 0) (oi := _) (v := .agg #[iv x, iv y]) rfl (by kernel_rfl) (by kernel_rfl) (by kernel_rfl) (by kernel_rfl) (by kernel_rfl) (fun _ _ _ h => h) (Or.inl ⟨by rfl, ?_⟩) (by assumption) ?_
  · (intro w hSw; have q0 := hSw.g.cell c0 nofun; have q1 := hSw.g.cell c1 nofun; go_simp; first | done | rfl | (simp; done) | trace_state)
  simp only [Act.put, List.getElem_toArray, List.getElem_cons_zero, List.setIfInBounds_toArray, List.set_cons_zero, List.set_cons_succ]
  refine wpAnyX_take (i := 1) (oi := _) (v := ?_) rfl (by kernel_rfl) (by kernel_rfl) (by kernel_rfl) (by kernel_rfl) (by kernel_rfl) (fun _ _ _ h => h) (Or.inl ⟨by rfl, ?_⟩) (by assumption) ?_
  rotate_left
  · (intro w hSw; go_simp; first | done | (with_reducible rfl))
  simp only [Act.put, List.getElem_toArray, List.getElem_cons_succ, List.getElem_cons_zero, List.setIfInBounds_toArray, List.set_cons_zero, List.set_cons_succ]
  refine wpAnyX_take (i := 2) (oi := _) (v := ?_) rfl (by kernel_rfl) (by kernel_rfl) (by kernel_rfl) (by kernel_rfl) (by kernel_rfl) (fun _ _ _ h => h) (Or.inl ⟨by rfl, ?_⟩) (by assumption) ?_
  rotate_left
  · (intro w hSw; go_simp; first | done | (with_reducible rfl))
  simp only [Act.put, List.getElem_toArray, List.getElem_cons_succ, List.getElem_cons_zero, List.setIfInBounds_toArray, List.set_cons_zero, List.set_cons_succ]
  refine wpAnyX_take (i := 3) (oi := _) (v := ?_) rfl (by kernel_rfl) (by kernel_rfl) (by kernel_rfl) (by kernel_rfl) (by kernel_rfl) (fun _ _ _ h => h) (Or.inl ⟨by rfl, ?_⟩) (by assumption) ?_
  rotate_left
  · (intro w hSw; go_simp; first | done | (with_reducible rfl))
  simp only [Act.put, List.getElem_toArray, List.getElem_cons_succ, List.getElem_cons_zero, List.setIfInBounds_toArray, List.set_cons_zero, List.set_cons_succ]
  refine wpAnyX_take (i := 4) (oi := _) (v := .agg #[iv tx, iv ty]) rfl (by kernel_rfl) (by kernel_rfl) (by kernel_rfl) (by kernel_rfl) (by kernel_rfl) (fun _ _ _ h => h) (Or.inl ⟨by rfl, ?_⟩) (by assumption) ?_
  · (intro w hSw; have q0 := hSw.g.cell d1 nofun; have q1 := hSw.g.cell d2' nofun; go_simp; first | done | rfl | (simp; done) | trace_state)
  simp only [Act.put, List.getElem_toArray, List.getElem_cons_succ, List.getElem_cons_zero, List.setIfInBounds_toArray, List.set_cons_zero, List.set_cons_succ]
  refine wpAnyX_one (i := 5) (by kernel_rfl) rfl (fun K hK => ?_)
  go_simp
  refine (HD.out _).mono ?_
  rintro e wg ⟨rfl, hg⟩
  replace HB := Keep.mk (HB.out.trans hg)
  refine hK.out _ _ HB.out (fun hHeld => ?_)
  clear hK K hg
  refine wpAnyX_one (i := 6) (by kernel_rfl) rfl (fun K hK => ?_)
  go_simp
  refine hK.out _ _ HB.out (fun hHeld => ?_)
  clear hK K
  refine wpAnyX_done (by kernel_rfl) ?_ _
  go_wp2_with fail
  go_ret
  exact ⟨rfl, HB.out⟩
set_option maxRecDepth 100000 in
set_option maxHeartbeats 4000000 in
theorem cmp_near (w : World) (kb fg cc ta tb : Nat) (ia ib : Int) (k0 : w.cell? ⟨kb, 0, none⟩ = some (sl fg 1 cc)) (f0 : w.cell? ⟨fg, 0, none⟩ = some (.func (.func 32) #[] #[])) (a0 : w.cell? ⟨ta, 0, none⟩ = some (iv ia)) (b0 : w.cell? ⟨tb, 0, none⟩ = some (iv ib)) :
    Calls Try.prog 44 #[pt ta, pt tb, pt kb] w fun e w' => e = .returned (iv (Lib.compareInt ia ib)) ∧ Gw w w' := by
  have HC := Keep.mk (cmp45 ia ib w)
  have HA := Keep.mk (num32 w ta ia a0)
  have HB := Keep.mk (num32 w tb ib b0)
  generalize Lib.compareInt ia ib = r at *
  clear a0 b0
  obtain ⟨n, hn⟩ : ∃ n, 1 = n := ⟨_, rfl⟩
  rw [hn] at k0
  have HN := Keep.mk hn
  clear hn
  go_enter Try.func44, Try.ntmps44
  go_wp2_with fail
  go_loopw [11] (fun u wr => ∃ i : Nat, i ≤ n ∧ u = iv i ∧ wr = w ∧ Keep (i = 1 → r = 0)) (fun u _ => (n - intOf u).toNat)
  case atStart => exact ⟨0, by omega, rfl, rfl, ⟨by omega⟩⟩
  case round =>
    obtain ⟨i, hi, rfl, rfl, hr⟩ := hrel
    by_cases hlt : i < n
    · have hi0 : (i : Int) < (n : Int) := by omega
      have f1 : wr.cell? ⟨fg, i, none⟩ = some (.func (.func 32) #[] #[]) := by
        have : i = 0 := by have := HN.out; omega
        rw [this]; exact f0
      have hii : IntKind.i64.wrap ((i : Int) + 1) = ((i + 1 : Nat) : Int) := by have := HN.out; rw [IntKind.wrap_i64]; omega
      clear k0 f0
      go_wp2_with fail
      refine HA.out.mono ?_
      rintro e w1 ⟨rfl, hw⟩
      rw [hw]
      clear hw
      go_wp2_with fail
      refine HB.out.mono ?_
      rintro e w1 ⟨rfl, hw⟩
      rw [hw]
      clear hw
      go_wp2_with fail
      refine HC.out.mono ?_
      rintro e w1 ⟨rfl, hw⟩
      rw [hw]
      clear hw
      by_cases hz : r = 0
      · have HZ := Keep.mk hz
        have d0 : (r == 0) = true := by simpa using hz
        clear hz
        go_wp2_with fail
        go_roundw
        case rel => exact ⟨i + 1, by omega, rfl, trivial, ⟨fun _ => HZ.out⟩⟩
        case measure => simp [intOf]; omega
      · have d0 : (r == 0) = false := by simpa using hz
        go_wp2_with fail
        go_ret
        exact ⟨rfl, Gw.refl _⟩
    · have HZ : Keep (r = 0) := ⟨hr.out (by have := HN.out; omega)⟩
      clear k0 f0
      go_wp2_with fail
      go_ret
      exact ⟨by rw [HZ.out]; rfl, Gw.refl _⟩
/-- nearer, then of a lesser id -/
def cf2 (da db ia ib : Int) : Int := if Lib.compareInt da db = 0 then Lib.compareInt ia ib else Lib.compareInt da db
set_option maxRecDepth 100000 in
set_option maxHeartbeats 8000000 in
theorem cmp_nst (w : World) (kb fg cc ta tb ab : Nat) (x y ia ax ay ib bx by' : Int) (hx : I64 x) (hy : I64 y) (h1 : I64 ax) (h2 : I64 ay) (h3 : I64 bx) (h4 : I64 by') (k0 : w.cell? ⟨kb, 0, none⟩ = some (sl fg 2 cc)) (f0 : w.cell? ⟨fg, 0, none⟩ = some (.func (.func 35) #[] #[pt ab])) (f1 : w.cell? ⟨fg, 1, none⟩ = some (.func (.func 32) #[] #[]))
    (x0 : w.cell? ⟨ab, 0, none⟩ = some (iv x)) (y0 : w.cell? ⟨ab, 1, none⟩ = some (iv y)) (a0 : w.cell? ⟨ta, 0, none⟩ = some (iv ia)) (a1 : w.cell? ⟨ta, 1, none⟩ = some (iv ax)) (a2 : w.cell? ⟨ta, 2, none⟩ = some (iv ay)) (b0 : w.cell? ⟨tb, 0, none⟩ = some (iv ib)) (b1 : w.cell? ⟨tb, 1, none⟩ = some (iv bx)) (b2 : w.cell? ⟨tb, 2, none⟩ = some (iv by')) :
    Calls Try.prog 44 #[pt ta, pt tb, pt kb] w fun e w' => e = .returned (iv (cf2 (d2 x y ax ay) (d2 x y bx by') ia ib)) ∧ Gw w w' := by
  have HC := Keep.mk (fun W => cmp45 ia ib W)
  have HD := Keep.mk (fun W => cmp45 (d2 x y ax ay) (d2 x y bx by') W)
  have HA := Keep.mk (fun W (g : Gw w W) => num32 W ta ia (g.g.cell a0 nofun))
  have HB := Keep.mk (fun W (g : Gw w W) => num32 W tb ib (g.g.cell b0 nofun))
  have HE := Keep.mk (fun W (g : Gw w W) => far35 W ta ab x y ax ay hx hy h1 h2 (g.g.cell x0 nofun) (g.g.cell y0 nofun) (g.g.cell a1 nofun) (g.g.cell a2 nofun))
  have HF := Keep.mk (fun W (g : Gw w W) => far35 W tb ab x y bx by' hx hy h3 h4 (g.g.cell x0 nofun) (g.g.cell y0 nofun) (g.g.cell b1 nofun) (g.g.cell b2 nofun))
  have HV : Keep (cf2 (d2 x y ax ay) (d2 x y bx by') ia ib = if Lib.compareInt (d2 x y ax ay) (d2 x y bx by') = 0 then Lib.compareInt ia ib else Lib.compareInt (d2 x y ax ay) (d2 x y bx by')) := ⟨rfl⟩
  generalize cf2 (d2 x y ax ay) (d2 x y bx by') ia ib = v at *
  generalize d2 x y ax ay = da at *
  generalize d2 x y bx by' = db at *
  generalize Lib.compareInt ia ib = r2 at *
  generalize Lib.compareInt da db = r1 at *
  have HX := Keep.mk (And.intro f0 f1)
  obtain ⟨n, hn⟩ : ∃ n, 2 = n := ⟨_, rfl⟩
  rw [hn] at k0
  have HN := Keep.mk hn
  clear hn f0 f1 a0 a1 a2 b0 b1 b2 x0 y0 hx hy h1 h2 h3 h4
  go_enter Try.func44, Try.ntmps44
  go_wp2_with fail
  go_loopw [11] (fun u wr => ∃ i : Nat, i ≤ n ∧ u = iv i ∧ Keep (Gw w wr) ∧ Keep (1 ≤ i → r1 = 0) ∧ Keep (2 ≤ i → r2 = 0)) (fun u _ => (n - intOf u).toNat)
  case atStart => exact ⟨0, by omega, rfl, ⟨Gw.refl _⟩, ⟨by omega⟩, ⟨by omega⟩⟩
  case round =>
    obtain ⟨i, hi, rfl, hg, hr1, hr2⟩ := hrel
    by_cases hlt : i < n
    · have hi0 : (i : Int) < (n : Int) := by omega
      have hii : IntKind.i64.wrap ((i : Int) + 1) = ((i + 1 : Nat) : Int) := by have := HN.out; rw [IntKind.wrap_i64]; omega
      by_cases h01 : i = 0
      · have f1 : wr.cell? ⟨fg, i, none⟩ = some (.func (.func 35) #[] #[pt ab]) := by
          rw [h01]; exact hg.out.g.cell HX.out.1 nofun
        have HI := Keep.mk h01
        clear k0 h01
        go_wp2_with fail
        refine (HE.out _ hg.out).mono ?_
        rintro e w1 ⟨rfl, g1⟩
        replace hg := Keep.mk (hg.out.trans g1)
        clear g1 f1
        go_wp2_with fail
        refine (HF.out _ hg.out).mono ?_
        rintro e w2 ⟨rfl, g1⟩
        replace hg := Keep.mk (hg.out.trans g1)
        clear g1
        go_wp2_with fail
        refine (HD.out _).mono ?_
        rintro e w3 ⟨rfl, hw⟩
        rw [hw]
        clear hw
        by_cases hz : r1 = 0
        · have HZ := Keep.mk hz
          have d0 : (r1 == 0) = true := by simpa using hz
          clear hz
          go_wp2_with fail
          go_roundw
          case rel => exact ⟨i + 1, by omega, rfl, hg, ⟨fun _ => HZ.out⟩, ⟨fun q => by have := HI.out; omega⟩⟩
          case measure => simp [intOf]; omega
        · have d0 : (r1 == 0) = false := by simpa using hz
          have HV2 : Keep (v = r1) := ⟨by rw [HV.out, if_neg hz]⟩
          go_wp2_with fail
          go_ret
          exact ⟨by rw [HV2.out]; rfl, hg.out⟩
      · have f1 : wr.cell? ⟨fg, i, none⟩ = some (.func (.func 32) #[] #[]) := by
          rw [show i = 1 by have := HN.out; omega]; exact hg.out.g.cell HX.out.2 nofun
        have HI := Keep.mk h01
        clear k0 h01
        go_wp2_with fail
        refine (HA.out _ hg.out).mono ?_
        rintro e w1 ⟨rfl, hw⟩
        rw [hw]
        clear hw
        go_wp2_with fail
        refine (HB.out _ hg.out).mono ?_
        rintro e w1 ⟨rfl, hw⟩
        rw [hw]
        clear hw
        go_wp2_with fail
        refine (HC.out _).mono ?_
        rintro e w3 ⟨rfl, hw⟩
        rw [hw]
        clear hw
        by_cases hz : r2 = 0
        · have HZ := Keep.mk hz
          have d0 : (r2 == 0) = true := by simpa using hz
          clear hz
          go_wp2_with fail
          go_roundw
          case rel => exact ⟨i + 1, by omega, rfl, hg, ⟨fun _ => hr1.out (by have := HI.out; omega)⟩, ⟨fun _ => HZ.out⟩⟩
          case measure => simp [intOf]; omega
        · have d0 : (r2 == 0) = false := by simpa using hz
          have HV2 : Keep (v = r2) := ⟨by rw [HV.out, if_pos (hr1.out (by have := HI.out; omega))]⟩
          go_wp2_with fail
          go_ret
          exact ⟨by rw [HV2.out]; rfl, hg.out⟩
    · have HV2 : Keep (v = 0) := ⟨by rw [HV.out, if_pos (hr1.out (by have := HN.out; omega)), hr2.out (by have := HN.out; omega)]⟩
      clear k0
      go_wp2_with fail
      go_ret
      exact ⟨by rw [HV2.out]; rfl, hg.out⟩
end Go.Proofs.Ytidpafmhmhojmaa
