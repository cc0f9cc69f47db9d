/- places and cases as they are handed in -/
import Derived.Test.YtkpedhmjjhjniaaDoorK0
import Derived.Test.YtkpedhmjjhjniaaDoorV1
import Derived.ChangeMaps5
import Derived.ChangeArms
namespace Go.Proofs.YtkpedhmjjhjniaaDoor
open Go Go.ChangeShapes Go.WideShapes Go.ChangeAt Go.RowKit

theorem laidOut : laidOutB Tryd.prog = true := by kernel_rfl
theorem kcells2 : Tryd.prog.cellsOf 2 = 1 := by kernel_rfl
theorem kcells3 : Tryd.prog.cellsOf 3 = 1 := by kernel_rfl
theorem kcells25 : Tryd.prog.cellsOf 25 = 2 := by kernel_rfl
theorem vec_cells {H : Type} {enc : TypeId × Value → H} {W : World} {fuel : Nat} {c0 c1 : Value} {x : DataW H × List MemPlace} (hf : DataW.trod enc Tryd.prog W 0 (fun _ => true) true fuel 25 [c0, c1] = some x) :
    ∃ a b : Int, c0 = .int .i64 a ∧ c1 = .int .i64 b ∧ In a ∧ In b := by
  obtain ⟨xs, n, _, hx, hlen, hxl, hfl⟩ := DataW.trod_struct Tryd.underlying25 hf
  match xs, (show xs.length = 2 from hxl) with
  | [y0, y1], _ =>
  have t0 : DataW.trod enc Tryd.prog W 0 (fun _ => true) true n 2 (([c0, c1].drop 0).take (Tryd.prog.cellsOf 2)) = some y0 := hfl 0 _ rfl
  rw [kcells2] at t0
  have t1 : DataW.trod enc Tryd.prog W 0 (fun _ => true) true n 2 (([c0, c1].drop 1).take (Tryd.prog.cellsOf 2)) = some y1 := hfl 1 _ rfl
  rw [kcells2] at t1
  obtain ⟨x0, e0, f0, m0⟩ := DataW.trod_int Tryd.underlying2 t0
  obtain rfl : c0 = _ := by simpa using e0
  obtain ⟨x1, e1, f1, m1⟩ := DataW.trod_int Tryd.underlying2 t1
  obtain rfl : c1 = _ := by simpa using e1
  exact ⟨x0, x1, rfl, rfl, in_of_wf m0, in_of_wf m1⟩
theorem vec_open {H : Type} {enc : TypeId × Value → H} {W : World} {base fuel : Nat} {v : Value} {d : DataW H} {pl : List MemPlace} (hv : Value.okWide Tryd.prog W .any base 25 v) (hf : DataW.trod enc Tryd.prog W 0 (fun _ => true) true fuel 25 v.cells.toList = some (d, pl)) :
    ∃ x y : Int, v = vv x y ∧ In x ∧ In y := by
  obtain ⟨cs, rfl, _⟩ := okWide_struct Tryd.underlying25 hv
  simp only [Value.cells] at hf
  obtain ⟨xs, n, _, hx, hlen, hxl, hfl⟩ := DataW.trod_struct Tryd.underlying25 hf
  have hlen : cs.toList.length = 2 := hlen.trans (by kernel_rfl)
  have hcs : cs = cs.toList.toArray := by simp
  generalize cs.toList = l at hlen hf hcs
  subst hcs
  match l, hlen with
  | [c0, c1], _ =>
  obtain ⟨a, b, rfl, rfl, h1, h2⟩ := vec_cells hf
  exact ⟨a, b, rfl, h1, h2⟩
theorem case_open {H : Type} {enc : TypeId × Value → H} {W : World} {base fuel : Nat} {v : Value} {d : DataW H} {pl : List MemPlace} (hv : Value.okWide Tryd.prog W .any base 39 v) (hf : DataW.trod enc Tryd.prog W 0 (fun _ => true) true fuel 39 v.cells.toList = some (d, pl)) :
    ∃ ax ay bx by' k r h j : Int, v = .agg #[.int .i64 ax, .int .i64 ay, .int .i64 bx, .int .i64 by', .int .i64 k, .int .i64 r, .int .i64 h, .int .i64 j] ∧ In ax ∧ In ay ∧ In bx ∧ In by' ∧ In k ∧ In r ∧ In h ∧ In j := by
  obtain ⟨cs, rfl, _⟩ := okWide_struct Tryd.underlying39 hv
  simp only [Value.cells] at hf
  obtain ⟨xs, n, _, hx, hlen, hxl, hfl⟩ := DataW.trod_struct Tryd.underlying39 hf
  have hlen : cs.toList.length = 8 := hlen.trans (by kernel_rfl)
  have hcs : cs = cs.toList.toArray := by simp
  generalize cs.toList = l at hlen hfl hcs
  subst hcs
  match l, hlen with
  | [c0, c1, c2, c3, c4, c5, c6, c7], _ =>
  match xs, (show xs.length = 6 from hxl) with
  | [y0, y1, y2, y3, y4, y5], _ =>
  have t0 : DataW.trod enc Tryd.prog W 0 (fun _ => true) true n 25 (([c0, c1, c2, c3, c4, c5, c6, c7].drop 0).take (Tryd.prog.cellsOf 25)) = some y0 := hfl 0 _ rfl
  rw [kcells25] at t0
  have t1 : DataW.trod enc Tryd.prog W 0 (fun _ => true) true n 25 (([c0, c1, c2, c3, c4, c5, c6, c7].drop 2).take (Tryd.prog.cellsOf 25)) = some y1 := hfl 1 _ rfl
  rw [kcells25] at t1
  have t2 : DataW.trod enc Tryd.prog W 0 (fun _ => true) true n 2 (([c0, c1, c2, c3, c4, c5, c6, c7].drop 4).take (Tryd.prog.cellsOf 2)) = some y2 := hfl 2 _ rfl
  rw [kcells2] at t2
  have t3 : DataW.trod enc Tryd.prog W 0 (fun _ => true) true n 2 (([c0, c1, c2, c3, c4, c5, c6, c7].drop 5).take (Tryd.prog.cellsOf 2)) = some y3 := hfl 3 _ rfl
  rw [kcells2] at t3
  have t4 : DataW.trod enc Tryd.prog W 0 (fun _ => true) true n 3 (([c0, c1, c2, c3, c4, c5, c6, c7].drop 6).take (Tryd.prog.cellsOf 3)) = some y4 := hfl 4 _ rfl
  rw [kcells3] at t4
  have t5 : DataW.trod enc Tryd.prog W 0 (fun _ => true) true n 3 (([c0, c1, c2, c3, c4, c5, c6, c7].drop 7).take (Tryd.prog.cellsOf 3)) = some y5 := hfl 5 _ rfl
  rw [kcells3] at t5
  obtain ⟨ax, ay, rfl, rfl, h1, h2⟩ := vec_cells t0
  obtain ⟨bx, by', rfl, rfl, h3, h4⟩ := vec_cells t1
  obtain ⟨x2, e2, f2, m2⟩ := DataW.trod_int Tryd.underlying2 t2
  obtain rfl : c4 = _ := by simpa using e2
  obtain ⟨x3, e3, f3, m3⟩ := DataW.trod_int Tryd.underlying2 t3
  obtain rfl : c5 = _ := by simpa using e3
  obtain ⟨x4, e4, f4, m4⟩ := DataW.trod_int Tryd.underlying3 t4
  obtain rfl : c6 = _ := by simpa using e4
  obtain ⟨x5, e5, f5, m5⟩ := DataW.trod_int Tryd.underlying3 t5
  obtain rfl : c7 = _ := by simpa using e5
  exact ⟨ax, ay, bx, by', x2, x3, x4, x5, rfl, h1, h2, h3, h4, in_of_wf m2, in_of_wf m3, in_of_wf m4, in_of_wf m5⟩
end Go.Proofs.YtkpedhmjjhjniaaDoor
