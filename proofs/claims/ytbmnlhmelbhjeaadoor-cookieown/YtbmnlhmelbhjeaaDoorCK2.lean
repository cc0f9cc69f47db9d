/- arrays as they are handed in -/
import Derived.Test.YtbmnlhmelbhjeaaDoorCK0
namespace Go.Proofs.YtbmnlhmelbhjeaaDoor
open Go Go.ChangeShapes Go.WideShapes Go.ChangeAt Go.RowKit

theorem okWide_arr {P : Program} {w : World} {r : Reach} {base : Nat} {t : TypeId} {v : Value} {n : Nat} {e : TypeId} (ht : P.underlying t = some (.array n e)) (h : Value.okWide P w r base t v) : ∃ cs, v = .agg cs ∧ cs.size = P.cellsOf t := by
  simp only [Value.okWide, ht] at h
  obtain ⟨cs, h1, h2, _⟩ := h
  exact ⟨cs, h1, h2⟩
theorem acells3 : Tryd.prog.cellsOf 3 = 1 := by kernel_rfl
theorem two_open {H : Type} {enc : TypeId × Value → H} {W : World} {base fuel : Nat} {v : Value} {d : DataW H} {pl : List MemPlace} (hv : Value.okWide Tryd.prog W .any base 33 v) (hf : DataW.trod enc Tryd.prog W 0 (fun _ => true) true fuel 33 v.cells.toList = some (d, pl)) :
    ∃ x y : Int, v = .agg #[.int .i64 x, .int .i64 y] := by
  obtain ⟨cs, rfl, _⟩ := okWide_arr Tryd.underlying33 hv
  simp only [Value.cells] at hf
  obtain ⟨xs, n, _, hx, hlen, hxl, hfl⟩ := DataW.trod_array Tryd.underlying33 hf
  have hlen : cs.toList.length = 2 := hlen.trans (by kernel_rfl)
  have hcs : cs = cs.toList.toArray := by simp
  generalize cs.toList = l at hlen hfl hcs
  subst hcs
  rw [acells3] at hfl
  match l, hlen with
  | [c0, c1], _ =>
  match xs, hxl with
  | [y0, y1], _ =>
    have t0 := hfl 0 (by omega)
    have t1 := hfl 1 (by omega)
    simp only [Nat.mul_one, List.drop_zero, List.drop_succ_cons, List.take_succ_cons, List.take_zero, List.getElem?_cons_zero, List.getElem?_cons_succ] at t0 t1
    obtain ⟨z0, e0, _⟩ := DataW.trod_int Tryd.underlying3 t0
    obtain ⟨z1, e1, _⟩ := DataW.trod_int Tryd.underlying3 t1
    simp at e0 e1
    subst e0 e1
    exact ⟨z0, z1, rfl⟩
theorem four_open {H : Type} {enc : TypeId × Value → H} {W : World} {base fuel : Nat} {v : Value} {d : DataW H} {pl : List MemPlace} (hv : Value.okWide Tryd.prog W .any base 43 v) (hf : DataW.trod enc Tryd.prog W 0 (fun _ => true) true fuel 43 v.cells.toList = some (d, pl)) :
    ∃ x y z u : ByteArray, v = .agg #[.string x, .string y, .string z, .string u] ∧ x.size ≤ 9223372036854775807 ∧ y.size ≤ 9223372036854775807 ∧ z.size ≤ 9223372036854775807 := by
  obtain ⟨cs, rfl, _⟩ := okWide_arr Tryd.underlying43 hv
  simp only [Value.cells] at hf
  obtain ⟨xs, n, _, hx, hlen, hxl, hfl⟩ := DataW.trod_array Tryd.underlying43 hf
  have hlen : cs.toList.length = 4 := hlen.trans (by kernel_rfl)
  have hcs : cs = cs.toList.toArray := by simp
  generalize cs.toList = l at hlen hfl hcs
  subst hcs
  rw [cells9] at hfl
  match l, hlen with
  | [c0, c1, c2, c3], _ =>
  match xs, hxl with
  | [y0, y1, y2, y3], _ =>
    have t0 := hfl 0 (by omega)
    have t1 := hfl 1 (by omega)
    have t2 := hfl 2 (by omega)
    have t3 := hfl 3 (by omega)
    simp only [Nat.mul_one, List.drop_zero, List.drop_succ_cons, List.take_succ_cons, List.take_zero, List.getElem?_cons_zero, List.getElem?_cons_succ] at t0 t1 t2 t3
    obtain ⟨z0, e0, _, m0⟩ := DataW.trod_string Tryd.underlying9 t0
    obtain ⟨z1, e1, _, m1⟩ := DataW.trod_string Tryd.underlying9 t1
    obtain ⟨z2, e2, _, m2⟩ := DataW.trod_string Tryd.underlying9 t2
    obtain ⟨z3, e3, _, _⟩ := DataW.trod_string Tryd.underlying9 t3
    simp at e0 e1 e2 e3
    subst e0 e1 e2 e3
    exact ⟨z0, z1, z2, z3, rfl, m0, m1, m2⟩
end Go.Proofs.YtbmnlhmelbhjeaaDoor
