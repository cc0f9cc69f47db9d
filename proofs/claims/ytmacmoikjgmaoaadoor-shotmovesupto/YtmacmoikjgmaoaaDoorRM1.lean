/- the reference's quarter -/
import Derived.Test.YtmacmoikjgmaoaaDoorL1
import Derived.Test.YtmacmoikjgmaoaaDoorH6
namespace Go.Proofs.YtmacmoikjgmaoaaDoor.Bo
open Go Go.RowKit

set_option maxRecDepth 100000 in
set_option maxHeartbeats 4000000 in
theorem rquarter_c (w : World) (x : Int) (h : In x) : Calls Tryd.prog 42 #[iv x] w fun e w' => e = .returned (iv (x / 4)) ∧ w.grownBy w' none := by
  have HG : Keep (w.grownBy w none) := ⟨World.grownBy.refl w _⟩
  obtain ⟨h1, h2⟩ := h
  by_cases h0 : 0 ≤ x
  · have e1 : x.tdiv 4 = x / 4 := Int.tdiv_eq_ediv_of_nonneg h0
    have e2 : x.tmod 4 = x % 4 := Int.tmod_eq_emod_of_nonneg h0
    have k1 : IntKind.i64.wrap (x / 4) = x / 4 := wi _ (by omega) (by omega)
    have k2 : ¬ x % 4 < 0 := by omega
    go_enter Tryd.func42, Tryd.ntmps42
    go_wp2_with fail
    go_ret
    exact ⟨rfl, HG.out⟩
  · have e1 : x.tdiv 4 = -((-x) / 4) := by
      rw [← Int.tdiv_eq_ediv_of_nonneg (by omega : 0 ≤ -x), Int.neg_tdiv, Int.neg_neg]
    have e2 : x.tmod 4 = -((-x) % 4) := by
      rw [← Int.tmod_eq_emod_of_nonneg (by omega : 0 ≤ -x), Int.neg_tmod, Int.neg_neg]
    by_cases hm : x.tmod 4 < 0
    · have k1 : IntKind.i64.wrap (x.tdiv 4) = x.tdiv 4 := wi _ (by omega) (by omega)
      have k2 : IntKind.i64.wrap (x.tdiv 4 - 1) = x / 4 := by rw [wi _ (by omega) (by omega)]; omega
      have k3 : IntKind.i64.wrap (x.tmod 4) = x.tmod 4 := wi _ (by omega) (by omega)
      clear e1 e2
      go_enter Tryd.func42, Tryd.ntmps42
      go_wp2_with fail
      go_ret
      exact ⟨rfl, HG.out⟩
    · have k1 : IntKind.i64.wrap (x.tdiv 4) = x / 4 := by rw [wi _ (by omega) (by omega)]; omega
      have k3 : IntKind.i64.wrap (x.tmod 4) = x.tmod 4 := wi _ (by omega) (by omega)
      clear e1 e2
      go_enter Tryd.func42, Tryd.ntmps42
      go_wp2_with fail
      go_ret
      exact ⟨rfl, HG.out⟩
theorem rng_vec {w : World} {b o : Nat} {c : Cr} (h : w.rangeAt b o (crv c)) : w.rangeAt b (o + 2) [iv c.x, iv c.y] := fun j v hv => by
  match j, hv with
  | 0, hv => exact h 2 v hv
  | 1, hv => exact h 3 v hv
  | j + 2, hv => cases hv
/-- the first car that is met; -1: none -/
def fst (s : Sh) (cs : List Cr) : Int := match cs.findIdx? (mt s) with | some i => (i : Int) | none => -1
theorem fst_here {s : Sh} {cs : List Cr} {i : Nat} {x : Cr} (hi : cs[i]? = some x) (hx : mt s x = true) (hn : ∀ (j : Nat) y, j < i → cs[j]? = some y → mt s y = false) : fst s cs = i := by
  unfold fst; rw [find_here hi hx hn]
theorem fst_none {s : Sh} {cs : List Cr} (hn : ∀ (j : Nat) y, j < cs.length → cs[j]? = some y → mt s y = false) : fst s cs = -1 := by
  unfold fst; rw [find_none hn]
end Go.Proofs.YtmacmoikjgmaoaaDoor.Bo
