/- vec: Sub, Dist2, Within, Len; the reference's; the laws' in, small, size. -/
import Derived.Test.YtobdcngjpgndiabDoorV5
import Derived.Test.YtobdcngjpgndiabDoorG2
namespace Go.Proofs.YtobdcngjpgndiabDoor
open Go Go.RowKit

set_option maxRecDepth 100000 in
theorem lz_range (a b m : Int) (h : 0 ≤ m) : -m ≤ lz a b m ∧ lz a b m ≤ m := by unfold lz kz; omega
def d2 (ax ay bx by' : Int) : Int := lz ax bx 2147483647 * lz ax bx 2147483647 + lz ay by' 2147483647 * lz ay by' 2147483647
set_option maxRecDepth 100000 in
theorem sq_bd (x : Int) (hx : -2147483647 ≤ x ∧ x ≤ 2147483647) : 0 ≤ x * x ∧ x * x ≤ 4611686014132420609 := by
  constructor
  · exact sq0 x
  · have : 0 ≤ (2147483647 - x) * (2147483647 + x) := Int.mul_nonneg (by omega) (by omega)
    grind
set_option maxRecDepth 100000 in
theorem d2_range (ax ay bx by' : Int) : 0 ≤ d2 ax ay bx by' ∧ d2 ax ay bx by' ≤ 9223372028264841218 := by
  have h1 := sq_bd _ (lz_range ax bx 2147483647 (by omega))
  have h2 := sq_bd _ (lz_range ay by' 2147483647 (by omega))
  unfold d2
  omega
def wn (d r : Int) : Bool := decide (0 ≤ r) && decide (d ≤ kz r 0 3037000499 * kz r 0 3037000499)
set_option maxRecDepth 100000 in
theorem kz_sq (r : Int) : 0 ≤ kz r 0 3037000499 * kz r 0 3037000499 ∧ kz r 0 3037000499 * kz r 0 3037000499 ≤ 9223372030926249001 := by
  have h : 0 ≤ kz r 0 3037000499 ∧ kz r 0 3037000499 ≤ 3037000499 := by unfold kz; omega
  generalize kz r 0 3037000499 = s at *
  constructor
  · exact sq0 s
  · have : 0 ≤ (3037000499 - s) * (3037000499 + s) := Int.mul_nonneg (by omega) (by omega)
    grind
set_option maxRecDepth 100000 in
theorem wn_big (d r : Int) (hd : d ≤ 9223372028264841218) (h : 3037000500 ≤ r) : wn d r = true := by
  have e : kz r 0 3037000499 = 3037000499 := by unfold kz; omega
  unfold wn
  rw [e, decide_eq_true (by omega), decide_eq_true (by omega)]
  rfl
set_option maxRecDepth 100000 in
theorem wn_small (d r : Int) (h0 : 0 ≤ r) (h : r < 3037000500) : wn d r = decide (d ≤ r * r) := by
  have e : kz r 0 3037000499 = r := by unfold kz; omega
  unfold wn
  rw [e, decide_eq_true h0, Bool.true_and]
set_option maxRecDepth 100000 in
theorem wn_neg (d r : Int) (h0 : r < 0) : wn d r = false := by
  unfold wn
  rw [decide_eq_false (by omega), Bool.false_and]
end Go.Proofs.YtobdcngjpgndiabDoor
