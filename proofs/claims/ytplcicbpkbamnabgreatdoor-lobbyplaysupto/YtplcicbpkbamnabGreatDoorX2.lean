import Derived.Test.YtplcicbpkbamnabGreatDoorX0
import Derived.Deep.RegionHeld
/- bucket: full, check, Take, Left, Ticks, Tick, New. -/
namespace Go.Proofs.YtplcicbpkbamnabGreatDoor.Lo.Bu
open Go Go.RowKit

abbrev bks (r u h : Int) : List Value := [.int .i64 r, .int .i64 u, .int .i64 h]
/-- the bucket at place o of block kb -/
structure BK (w : World) (kb o : Nat) (cs : List Value) (r u h : Int) : Prop where
  has : Has w kb cs 109
  c0 : cs[o]? = some (.int .i64 r)
  c1 : cs[o + 1]? = some (.int .i64 u)
  c2 : cs[o + 2]? = some (.int .i64 h)
  r0 : 0 ≤ r
  r1 : r ≤ 1000
  u0 : 1 ≤ u
  u1 : u ≤ 1000
  h0 : 0 ≤ h
  h1 : h ≤ 16 * u
set_option maxRecDepth 100000 in
theorem wi (x : Int) (h : -9223372036854775808 ≤ x) (h2 : x ≤ 9223372036854775807) : IntKind.i64.wrap x = x := by
  rw [IntKind.wrap_i64]; omega
set_option maxRecDepth 100000 in
theorem set_same {cs : List Value} {i : Nat} {v : Value} (h : cs[i]? = some v) : cs.set i v = cs := by
  obtain ⟨hi, e⟩ := List.getElem?_eq_some_iff.1 h
  rw [← e]; exact List.set_getElem_self hi
/-- what is there behind n ticks -/
def tk (r u h : Int) (n : Int) : Int := min (h + r * min n 16000) (16 * u)
def took (h : Int) : Int := if h < 16 then h else h - 16
def tcode (h : Int) : Int := if h < 16 then 80 else 0
set_option maxRecDepth 100000 in
theorem tk_lo {r u h n : Int} (hr : 0 ≤ r) (hu : 1 ≤ u) (hh : 0 ≤ h) (hn : 0 ≤ n) : 0 ≤ tk r u h n := by
  have : 0 ≤ r * min n 16000 := Int.mul_nonneg hr (by omega)
  unfold tk; omega
set_option maxRecDepth 100000 in
theorem tk_hi {r u h n : Int} : tk r u h n ≤ 16 * u := by unfold tk; omega

set_option maxRecDepth 100000 in
theorem full_c (r u h : Int) (w : World) (hu : 1 ≤ u) (hu1 : u ≤ 1000) :
    Calls Tryz.prog 65 #[.agg #[.int .i64 r, .int .i64 u, .int .i64 h]] w fun e w' => e = .returned (.int .i64 (16 * u)) ∧ w.grownBy w' none := by
  have hw : IntKind.i64.wrap (16 * u) = 16 * u := wi _ (by omega) (by omega)
  go_enter Tryz.func65, Tryz.ntmps65
  go_wp2_with fail
  go_ret
  exact ⟨rfl, World.grownBy_alloc _ _ _⟩
set_option maxRecDepth 100000 in
theorem check_yes (r u : Int) (w : World) (h0 : 0 ≤ r) (h1 : r ≤ 1000) (h2 : 1 ≤ u) (h3 : u ≤ 1000) :
    Calls Tryz.prog 64 #[.int .i64 r, .int .i64 u] w fun e w' => e = .returned (.int .i64 0) ∧ w' = w := by
  have g0 : ¬ (r < 0) := by omega
  have g1 : ¬ (1000 < r) := by omega
  have g2 : ¬ (u < 1) := by omega
  have g3 : ¬ (1000 < u) := by omega
  go_enter Tryz.func64, Tryz.ntmps64
  go_wp2_with fail
  go_ret
  exact ⟨rfl, rfl⟩
set_option maxRecDepth 100000 in
theorem check_no (r u : Int) (w : World) (h : ¬ (0 ≤ r ∧ r ≤ 1000 ∧ 1 ≤ u ∧ u ≤ 1000)) :
    Calls Tryz.prog 64 #[.int .i64 r, .int .i64 u] w fun e w' => e = .returned (.int .i64 110) ∧ w' = w := by
  go_enter Tryz.func64, Tryz.ntmps64
  by_cases h0 : r < 0
  · go_wp2_with fail
    go_ret
    exact ⟨rfl, rfl⟩
  by_cases h1 : 1000 < r
  · go_wp2_with fail
    go_ret
    exact ⟨rfl, rfl⟩
  by_cases h2 : u < 1
  · go_wp2_with fail
    go_ret
    exact ⟨rfl, rfl⟩
  have h3 : 1000 < u := by omega
  go_wp2_with fail
  go_ret
  exact ⟨rfl, rfl⟩
set_option maxRecDepth 100000 in
theorem left_c (kb o : Nat) (cs : List Value) (r u h : Int) (w : World) (b : BK w kb o cs r u h) :
    Calls Tryz.prog 80 #[.pointer (some ⟨kb, o, none⟩)] w fun e w' => e = .returned (.int .i64 (h / 16)) ∧ w' = w := by
  have h2 : w.cell? ⟨kb, o + 2, none⟩ = some (.int .i64 h) := b.has.cellv (o + 2) _ b.c2
  have hr : h.tdiv 16 = h / 16 := Int.tdiv_eq_ediv_of_nonneg b.h0
  have hw : IntKind.i64.wrap (h / 16) = h / 16 := by have := b.h0; have := b.h1; have := b.u1; exact wi _ (by omega) (by omega)
  clear b
  go_enter Tryz.func80, Tryz.ntmps80
  go_wp2_with fail
  go_ret
  exact ⟨rfl, rfl⟩
set_option maxRecDepth 100000 in
theorem take_c (kb o : Nat) (cs : List Value) (r u h : Int) (w : World) (b : BK w kb o cs r u h) :
    Calls Tryz.prog 93 #[.pointer (some ⟨kb, o, none⟩)] w fun e w' => e = .returned (.int .i64 (tcode h)) ∧ Has w' kb (cs.set (o + 2) (.int .i64 (took h))) 109 ∧ w.grownBy w' (some kb) := by
  have h2 : w.cell? ⟨kb, o + 2, none⟩ = some (.int .i64 h) := b.has.cellv (o + 2) _ b.c2
  have hz : w.frozen? ⟨kb, o + 2, none⟩ = false := b.has.frozen (o + 2)
  have hw : IntKind.i64.wrap (h - 16) = h - 16 := by have := b.h0; have := b.h1; have := b.u1; exact wi _ (by omega) (by omega)
  have b1 := b.has.setCell (o + 2) (.int .i64 (h - 16))
  have HB : Keep (BK w kb o cs r u h) := ⟨b⟩
  clear b
  by_cases h16 : h < 16
  · go_enter Tryz.func93, Tryz.ntmps93
    go_wp2_with fail
    go_ret
    refine ⟨by simp [tcode, h16], ?_, World.grownBy.refl _ _⟩
    have e : took h = h := by simp [took, h16]
    rw [e, set_same HB.out.c2]
    exact HB.out.has
  · go_enter Tryz.func93, Tryz.ntmps93
    go_wp2_with fail
    go_ret
    clear HB
    refine ⟨by simp [tcode]; omega, ?_, gr_set _ _ _ _⟩
    have e : took h = h - 16 := by unfold took; rw [if_neg (by omega)]
    rw [e]
    exact b1
end Go.Proofs.YtplcicbpkbamnabGreatDoor.Lo.Bu

