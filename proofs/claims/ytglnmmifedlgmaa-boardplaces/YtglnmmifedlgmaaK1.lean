/- places and pairs of numbers as they are handed in -/
import Derived.Test.YtglnmmifedlgmaaK0
import Derived.Test.YtglnmmifedlgmaaA2
import Derived.ChangeArms
namespace Go.Proofs.Ytglnmmifedlgmaa
open Go Go.ChangeShapes Go.WideShapes Go.ChangeAt Go.RowKit

theorem laidOut : laidOutB Try.prog = true := by kernel_rfl
theorem kcells2 : Try.prog.cellsOf 2 = 1 := by kernel_rfl
theorem vec_cells {H : Type} {enc : TypeId × Value → H} {W : World} {fuel : Nat} {c0 c1 : Value} {x : DataW H × List MemPlace} (hf : DataW.trod enc Try.prog W 0 (fun _ => true) true fuel 32 [c0, c1] = some x) :
    ∃ a b : Int, c0 = .int .i64 a ∧ c1 = .int .i64 b ∧ In a ∧ In b := by
  obtain ⟨xs, n, _, hx, hlen, hxl, hfl⟩ := DataW.trod_struct Try.underlying32 hf
  match xs, (show xs.length = 2 from hxl) with
  | [y0, y1], _ =>
  have t0 : DataW.trod enc Try.prog W 0 (fun _ => true) true n 2 (([c0, c1].drop 0).take (Try.prog.cellsOf 2)) = some y0 := hfl 0 _ rfl
  rw [kcells2] at t0
  have t1 : DataW.trod enc Try.prog W 0 (fun _ => true) true n 2 (([c0, c1].drop 1).take (Try.prog.cellsOf 2)) = some y1 := hfl 1 _ rfl
  rw [kcells2] at t1
  obtain ⟨x0, e0, f0, m0⟩ := DataW.trod_int Try.underlying2 t0
  obtain rfl : c0 = _ := by simpa using e0
  obtain ⟨x1, e1, f1, m1⟩ := DataW.trod_int Try.underlying2 t1
  obtain rfl : c1 = _ := by simpa using e1
  exact ⟨x0, x1, rfl, rfl, in_of_wf m0, in_of_wf m1⟩
theorem vec_open {H : Type} {enc : TypeId × Value → H} {W : World} {base fuel : Nat} {v : Value} {d : DataW H} {pl : List MemPlace} (hv : Value.okWide Try.prog W .any base 32 v) (hf : DataW.trod enc Try.prog W 0 (fun _ => true) true fuel 32 v.cells.toList = some (d, pl)) :
    ∃ x y : Int, v = vv x y ∧ In x ∧ In y := by
  obtain ⟨cs, rfl, _⟩ := okWide_struct Try.underlying32 hv
  simp only [Value.cells] at hf
  obtain ⟨xs, n, _, hx, hlen, hxl, hfl⟩ := DataW.trod_struct Try.underlying32 hf
  have hlen : cs.toList.length = 2 := hlen.trans (by kernel_rfl)
  have hcs : cs = cs.toList.toArray := by simp
  generalize cs.toList = l at hlen hf hcs
  subst hcs
  match l, hlen with
  | [c0, c1], _ =>
  obtain ⟨a, b, rfl, rfl, h1, h2⟩ := vec_cells hf
  exact ⟨a, b, rfl, h1, h2⟩
theorem okWide_arr {P : Program} {w : World} {r : Reach} {base : Nat} {t : TypeId} {v : Value} {n : Nat} {e : TypeId} (ht : P.underlying t = some (.array n e)) (h : Value.okWide P w r base t v) : ∃ cs, v = .agg cs ∧ cs.size = P.cellsOf t := by
  simp only [Value.okWide, ht] at h
  obtain ⟨cs, h1, h2, _⟩ := h
  exact ⟨cs, h1, h2⟩
theorem arr_cells {H : Type} {enc : TypeId × Value → H} {W : World} {fuel : Nat} {c0 c1 : Value} {x : DataW H × List MemPlace} (hf : DataW.trod enc Try.prog W 0 (fun _ => true) true fuel 42 [c0, c1] = some x) :
    ∃ a b : Int, c0 = .int .i64 a ∧ c1 = .int .i64 b ∧ In a ∧ In b := by
  obtain ⟨xs, n, _, hx, hlen, hxl, hfl⟩ := DataW.trod_array Try.underlying42 hf
  match xs, (show xs.length = 2 from hxl) with
  | [y0, y1], _ =>
  have t0 : DataW.trod enc Try.prog W 0 (fun _ => true) true n 2 (([c0, c1].drop (0 * Try.prog.cellsOf 2)).take (Try.prog.cellsOf 2)) = some y0 := hfl 0 (by simp)
  rw [kcells2] at t0
  have t1 : DataW.trod enc Try.prog W 0 (fun _ => true) true n 2 (([c0, c1].drop (1 * Try.prog.cellsOf 2)).take (Try.prog.cellsOf 2)) = some y1 := hfl 1 (by simp)
  rw [kcells2] at t1
  obtain ⟨x0, e0, f0, m0⟩ := DataW.trod_int Try.underlying2 t0
  obtain rfl : c0 = _ := by simpa using e0
  obtain ⟨x1, e1, f1, m1⟩ := DataW.trod_int Try.underlying2 t1
  obtain rfl : c1 = _ := by simpa using e1
  exact ⟨x0, x1, rfl, rfl, in_of_wf m0, in_of_wf m1⟩
theorem arr_open {H : Type} {enc : TypeId × Value → H} {W : World} {base fuel : Nat} {v : Value} {d : DataW H} {pl : List MemPlace} (hv : Value.okWide Try.prog W .any base 42 v) (hf : DataW.trod enc Try.prog W 0 (fun _ => true) true fuel 42 v.cells.toList = some (d, pl)) :
    ∃ x y : Int, v = vv x y ∧ In x ∧ In y := by
  obtain ⟨cs, rfl, _⟩ := okWide_arr Try.underlying42 hv
  simp only [Value.cells] at hf
  obtain ⟨xs, n, _, hx, hlen, hxl, hfl⟩ := DataW.trod_array Try.underlying42 hf
  have hlen : cs.toList.length = 2 := hlen.trans (by kernel_rfl)
  have hcs : cs = cs.toList.toArray := by simp
  generalize cs.toList = l at hlen hf hcs
  subst hcs
  match l, hlen with
  | [c0, c1], _ =>
  obtain ⟨a, b, rfl, rfl, h1, h2⟩ := arr_cells hf
  exact ⟨a, b, rfl, h1, h2⟩
end Go.Proofs.Ytglnmmifedlgmaa
