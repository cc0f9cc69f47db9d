/- equality of places, one, alive -/
import Derived.Test.YtfhhneibdmjfgaaQ5
import Derived.ChangeKeysEq
namespace Go.Proofs.Ytfhhneibdmjfgaa
open Go Go.RowKit Ieee Fx
namespace Sm
set_option maxRecDepth 100000
attribute [local go_sem] run_store_fl
def eqF (x y : Nat) : Bool := FloatKind.f32.format.order x y == some .eq
theorem eqF_V (x y : Nat) : eqF x y = (oord (V x) (V y) == some .eq) := by unfold eqF; rw [order_V]
theorem eqFl (d : Nat) (x y : Nat) (w : World) : (Op.equalIn (d + 1) 30 (fv x) (fv y)).run Try.prog w = .ok (eqF x y) w := by
  simp [Op.equalIn, run_underlying Try.underlying30]
  rfl
set_option maxHeartbeats 4000000 in
theorem eqP (x y a x' y' a' : Nat) (w : World) : (Op.equalIn 10000 37 (pv x y a) (pv x' y' a')).run Try.prog w = .ok (eqF x x' && (eqF y y' && eqF a a')) w := by
  rw [show (10000 : Nat) = 9999 + 1 from rfl, run_equalIn_agg w 9999 37 _ _ (by kernel_rfl) (by kernel_rfl)]
  have u3 := Try.underlying30
  have g3 := Try.isAgg30
  have z3 := Try.sizeOf30
  have fx : ∀ w, (Op.equalIn 9999 30 (fv x) (fv x')).run Try.prog w = .ok (eqF x x') w := fun w => eqFl 9998 x x' w
  have fy : ∀ w, (Op.equalIn 9999 30 (fv y) (fv y')).run Try.prog w = .ok (eqF y y') w := fun w => eqFl 9998 y y' w
  have fa : ∀ w, (Op.equalIn 9999 30 (fv a) (fv a')).run Try.prog w = .ok (eqF a a') w := fun w => eqFl 9998 a a' w
  simp only [Program.fieldsOf, Try.underlying37]
  generalize eqF x x' = p at *
  generalize eqF y y' = q at *
  generalize eqF a a' = r at *
  cases p <;> cases q <;> cases r <;> (go_simp; try simp [fx, fy, fa])
theorem eqlP (x y a x' y' a' : Nat) (w : World) : (binOp .eql 37 (pv x y a) (pv x' y' a')).run Try.prog w = .ok (.bool (eqF x x' && (eqF y y' && eqF a a'))) w := by
  simp only [binOp]
  simp [Op.equal, Op.maxDepth, eqP]
theorem neqP (x y a x' y' a' : Nat) (w : World) : (binOp .neq 37 (pv x y a) (pv x' y' a')).run Try.prog w = .ok (.bool (!(eqF x x' && (eqF y y' && eqF a a')))) w := by
  simp only [binOp]
  simp [Op.equal, Op.maxDepth, eqP]
/-- two places of the same values are one -/
theorem one_c (u v : Value) (p : Pl) (hu : PV u p) (hv : PV v p) (w : World) : Calls Try.prog 20 #[u, v] w fun e w' => e = .returned (.bool true) ∧ w.grownBy w' none := by
  obtain ⟨x, y, a, rfl, hx, hy, ha⟩ := hu
  obtain ⟨x', y', a', rfl, hx', hy', ha'⟩ := hv
  have c1 := fun W => alike_c x x' (hx.trans hx'.symm) W
  have c2 := fun W => alike_c y y' (hy.trans hy'.symm) W
  have c3 := fun W => alike_c a a' (ha.trans ha'.symm) W
  clear hx hy ha hx' hy' ha'
  have HC := Keep.mk (And.intro c1 (And.intro c2 c3))
  clear c1 c2 c3
  have g := ((gr_alloc w (.cells #[fv x, fv y, fv a] 37) none).trans (gr_alloc _ (.cells #[fv x', fv y', fv a'] 37) none))
  have HG := Keep.mk g
  clear g
  go_enter Try.func20, Try.ntmps20
  go_wp2_with fail
  refine (HC.out.1 _).mono ?_
  rintro e w' ⟨rfl, hw⟩
  rw [hw]
  clear hw w'
  go_wp2_with fail
  refine (HC.out.2.1 _).mono ?_
  rintro e w' ⟨rfl, hw⟩
  rw [hw]
  clear hw w'
  go_wp2_with fail
  refine (HC.out.2.2 _).mono ?_
  rintro e w' ⟨rfl, hw⟩
  rw [hw]
  clear hw w'
  go_wp2_with fail
  go_ret
  exact ⟨rfl, HG.out⟩
end Sm
end Go.Proofs.Ytfhhneibdmjfgaa
