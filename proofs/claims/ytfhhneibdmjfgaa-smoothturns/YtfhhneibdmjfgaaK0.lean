/- for the rows: places, floats, cars as they are handed in -/
import Derived.Test.YtfhhneibdmjfgaaRows
import Derived.Test.YtfhhneibdmjfgaaQ7
import Derived.WalkKit
import Derived.ProofKit
import Derived.OpenShut
import Derived.ChangeMaps5
import Derived.ChangeArms
import Derived.Deep.Slices
import Derived.SizedLaws
namespace Go.Proofs.Ytfhhneibdmjfgaa.Sm
open Go Go.ChangeShapes Go.WideShapes Go.ChangeAt Go.RowKit

theorem own : ownKnob Try.prog.godebug = none := by kernel_rfl
set_option maxRecDepth 100000 in
theorem laidOut : laidOutB Try.prog = true := by kernel_rfl
theorem below_of {w w' : World} (h : w.grownBy w' none) : Below w.heap.size w w' := ⟨h.os, h.tape, h.output, h.size, fun k hk => h.block k hk (by simp)⟩
theorem kc2 : Try.prog.cellsOf 2 = 1 := by kernel_rfl
theorem kc3 : Try.prog.cellsOf 3 = 1 := by kernel_rfl
theorem kc9 : Try.prog.cellsOf 9 = 1 := by kernel_rfl
theorem kc24 : Try.prog.cellsOf 24 = 2 := by kernel_rfl
theorem kc30 : Try.prog.cellsOf 30 = 1 := by kernel_rfl
theorem trod_fl {H : Type} {enc : TypeId × Value → H} {W : World} {fuel : Nat} {cs : List Value} {x : DataW H × List MemPlace} (h : DataW.trod enc Try.prog W 0 (fun _ => true) true fuel 30 cs = some x) : ∃ g, cs = [.float .f32 g] ∧ (Lit.float .f32 g).wf = true := by
  cases fuel with
  | zero => simp [DataW.trod] at h
  | succ n =>
    unfold DataW.trod at h
    rw [Try.underlying30] at h
    split at h <;> simp_all
theorem vec_cells {H : Type} {enc : TypeId × Value → H} {W : World} {fuel : Nat} {c0 c1 : Value} {x : DataW H × List MemPlace} (hf : DataW.trod enc Try.prog W 0 (fun _ => true) true fuel 24 [c0, c1] = some x) :
    ∃ a b : Int, c0 = .int .i64 a ∧ c1 = .int .i64 b := by
  obtain ⟨xs, n, _, hx, hlen, hxl, hfl⟩ := DataW.trod_struct Try.underlying24 hf
  match xs, (show xs.length = 2 from hxl) with
  | [y0, y1], _ =>
  have t0 : DataW.trod enc Try.prog W 0 (fun _ => true) true n 2 (([c0, c1].drop 0).take (Try.prog.cellsOf 2)) = some y0 := hfl 0 _ rfl
  rw [kc2] at t0
  have t1 : DataW.trod enc Try.prog W 0 (fun _ => true) true n 2 (([c0, c1].drop 1).take (Try.prog.cellsOf 2)) = some y1 := hfl 1 _ rfl
  rw [kc2] at t1
  obtain ⟨x0, e0, f0, m0⟩ := DataW.trod_int Try.underlying2 t0
  obtain rfl : c0 = _ := by simpa using e0
  obtain ⟨x1, e1, f1, m1⟩ := DataW.trod_int Try.underlying2 t1
  obtain rfl : c1 = _ := by simpa using e1
  exact ⟨x0, x1, rfl, rfl⟩
theorem place_open {H : Type} {enc : TypeId × Value → H} {W : World} {base fuel : Nat} {v : Value} {x : DataW H × List MemPlace} (hv : Value.okWide Try.prog W .any base 37 v) (hf : DataW.trod enc Try.prog W 0 (fun _ => true) true fuel 37 v.cells.toList = some x) :
    ∃ a b c : Nat, v = pv a b c := by
  obtain ⟨cs, rfl, _⟩ := okWide_struct Try.underlying37 hv
  simp only [Value.cells] at hf
  obtain ⟨xs, n, _, hx, hlen, hxl, hfl⟩ := DataW.trod_struct Try.underlying37 hf
  have hlen : cs.toList.length = 3 := hlen.trans (by kernel_rfl)
  have hcs : cs = cs.toList.toArray := by simp
  generalize cs.toList = l at hlen hfl hcs
  subst hcs
  match l, hlen with
  | [c0, c1, c2], _ =>
  match xs, (show xs.length = 3 from hxl) with
  | [y0, y1, y2], _ =>
  have t0 : DataW.trod enc Try.prog W 0 (fun _ => true) true n 30 (([c0, c1, c2].drop 0).take (Try.prog.cellsOf 30)) = some y0 := hfl 0 _ rfl
  rw [kc30] at t0
  have t1 : DataW.trod enc Try.prog W 0 (fun _ => true) true n 30 (([c0, c1, c2].drop 1).take (Try.prog.cellsOf 30)) = some y1 := hfl 1 _ rfl
  rw [kc30] at t1
  have t2 : DataW.trod enc Try.prog W 0 (fun _ => true) true n 30 (([c0, c1, c2].drop 2).take (Try.prog.cellsOf 30)) = some y2 := hfl 2 _ rfl
  rw [kc30] at t2
  obtain ⟨x0, e0, _⟩ := trod_fl t0
  obtain rfl : c0 = _ := by simpa using e0
  obtain ⟨x1, e1, _⟩ := trod_fl t1
  obtain rfl : c1 = _ := by simpa using e1
  obtain ⟨x2, e2, _⟩ := trod_fl t2
  obtain rfl : c2 = _ := by simpa using e2
  exact ⟨x0, x1, x2, rfl⟩
theorem car_cells {H : Type} {enc : TypeId × Value → H} {W : World} {fuel : Nat} {l : List Value} {x : DataW H × List MemPlace} (hf : DataW.trod enc Try.prog W 0 (fun _ => true) true fuel 26 l = some x) : ∃ c : Cr, l = crv c := by
  obtain ⟨xs, n, _, hx, hlen0, hxl, hfl⟩ := DataW.trod_struct Try.underlying26 hf
  have hlen : l.length = 14 := hlen0.trans (by kernel_rfl)
  clear hf hlen0
  match l, hlen with
  | [c0, c1, c2, c3, c4, c5, c6, c7, c8, c9, c10, c11, c12, c13], _ =>
  match xs, (show xs.length = 12 from hxl) with
  | [y0, y1, y2, y3, y4, y5, y6, y7, y8, y9, y10, y11], _ =>
  have t0 : DataW.trod enc Try.prog W 0 (fun _ => true) true n 3 (([c0, c1, c2, c3, c4, c5, c6, c7, c8, c9, c10, c11, c12, c13].drop 0).take (Try.prog.cellsOf 3)) = some y0 := hfl 0 _ rfl
  rw [kc3] at t0
  have t1 : DataW.trod enc Try.prog W 0 (fun _ => true) true n 9 (([c0, c1, c2, c3, c4, c5, c6, c7, c8, c9, c10, c11, c12, c13].drop 1).take (Try.prog.cellsOf 9)) = some y1 := hfl 1 _ rfl
  rw [kc9] at t1
  have t2 : DataW.trod enc Try.prog W 0 (fun _ => true) true n 24 (([c0, c1, c2, c3, c4, c5, c6, c7, c8, c9, c10, c11, c12, c13].drop 2).take (Try.prog.cellsOf 24)) = some y2 := hfl 2 _ rfl
  rw [kc24] at t2
  have t3 : DataW.trod enc Try.prog W 0 (fun _ => true) true n 24 (([c0, c1, c2, c3, c4, c5, c6, c7, c8, c9, c10, c11, c12, c13].drop 4).take (Try.prog.cellsOf 24)) = some y3 := hfl 3 _ rfl
  rw [kc24] at t3
  have t4 : DataW.trod enc Try.prog W 0 (fun _ => true) true n 3 (([c0, c1, c2, c3, c4, c5, c6, c7, c8, c9, c10, c11, c12, c13].drop 6).take (Try.prog.cellsOf 3)) = some y4 := hfl 4 _ rfl
  rw [kc3] at t4
  have t5 : DataW.trod enc Try.prog W 0 (fun _ => true) true n 3 (([c0, c1, c2, c3, c4, c5, c6, c7, c8, c9, c10, c11, c12, c13].drop 7).take (Try.prog.cellsOf 3)) = some y5 := hfl 5 _ rfl
  rw [kc3] at t5
  have t6 : DataW.trod enc Try.prog W 0 (fun _ => true) true n 3 (([c0, c1, c2, c3, c4, c5, c6, c7, c8, c9, c10, c11, c12, c13].drop 8).take (Try.prog.cellsOf 3)) = some y6 := hfl 6 _ rfl
  rw [kc3] at t6
  have t7 : DataW.trod enc Try.prog W 0 (fun _ => true) true n 3 (([c0, c1, c2, c3, c4, c5, c6, c7, c8, c9, c10, c11, c12, c13].drop 9).take (Try.prog.cellsOf 3)) = some y7 := hfl 7 _ rfl
  rw [kc3] at t7
  have t8 : DataW.trod enc Try.prog W 0 (fun _ => true) true n 3 (([c0, c1, c2, c3, c4, c5, c6, c7, c8, c9, c10, c11, c12, c13].drop 10).take (Try.prog.cellsOf 3)) = some y8 := hfl 8 _ rfl
  rw [kc3] at t8
  have t9 : DataW.trod enc Try.prog W 0 (fun _ => true) true n 3 (([c0, c1, c2, c3, c4, c5, c6, c7, c8, c9, c10, c11, c12, c13].drop 11).take (Try.prog.cellsOf 3)) = some y9 := hfl 9 _ rfl
  rw [kc3] at t9
  have t10 : DataW.trod enc Try.prog W 0 (fun _ => true) true n 3 (([c0, c1, c2, c3, c4, c5, c6, c7, c8, c9, c10, c11, c12, c13].drop 12).take (Try.prog.cellsOf 3)) = some y10 := hfl 10 _ rfl
  rw [kc3] at t10
  have t11 : DataW.trod enc Try.prog W 0 (fun _ => true) true n 3 (([c0, c1, c2, c3, c4, c5, c6, c7, c8, c9, c10, c11, c12, c13].drop 13).take (Try.prog.cellsOf 3)) = some y11 := hfl 11 _ rfl
  rw [kc3] at t11
  obtain ⟨x0, e0, _⟩ := DataW.trod_int Try.underlying3 t0
  obtain rfl : c0 = _ := by simpa using e0
  obtain ⟨x1, e1, _⟩ := DataW.trod_string Try.underlying9 t1
  obtain rfl : c1 = _ := by simpa using e1
  obtain ⟨a2, b2, rfl, rfl⟩ := vec_cells t2
  obtain ⟨a3, b3, rfl, rfl⟩ := vec_cells t3
  obtain ⟨x4, e4, _⟩ := DataW.trod_int Try.underlying3 t4
  obtain rfl : c6 = _ := by simpa using e4
  obtain ⟨x5, e5, _⟩ := DataW.trod_int Try.underlying3 t5
  obtain rfl : c7 = _ := by simpa using e5
  obtain ⟨x6, e6, _⟩ := DataW.trod_int Try.underlying3 t6
  obtain rfl : c8 = _ := by simpa using e6
  obtain ⟨x7, e7, _⟩ := DataW.trod_int Try.underlying3 t7
  obtain rfl : c9 = _ := by simpa using e7
  obtain ⟨x8, e8, _⟩ := DataW.trod_int Try.underlying3 t8
  obtain rfl : c10 = _ := by simpa using e8
  obtain ⟨x9, e9, _⟩ := DataW.trod_int Try.underlying3 t9
  obtain rfl : c11 = _ := by simpa using e9
  obtain ⟨x10, e10, _⟩ := DataW.trod_int Try.underlying3 t10
  obtain rfl : c12 = _ := by simpa using e10
  obtain ⟨x11, e11, _⟩ := DataW.trod_int Try.underlying3 t11
  obtain rfl : c13 = _ := by simpa using e11
  exact ⟨⟨x0, x1, a2, b2, a3, b3, x4, x5, x6, x7, x8, x9, x10, x11⟩, rfl⟩
theorem car_open {H : Type} {enc : TypeId × Value → H} {W : World} {base fuel : Nat} {v : Value} {x : DataW H × List MemPlace} (hv : Value.okWide Try.prog W .any base 26 v) (hf : DataW.trod enc Try.prog W 0 (fun _ => true) true fuel 26 v.cells.toList = some x) :
    ∃ c : Cr, v = .agg (crA c) := by
  obtain ⟨cs, rfl, _⟩ := okWide_struct Try.underlying26 hv
  simp only [Value.cells] at hf
  obtain ⟨c, hc⟩ := car_cells hf
  have hcs : cs = cs.toList.toArray := by simp
  rw [hcs, hc]
  exact ⟨c, rfl⟩
end Go.Proofs.Ytfhhneibdmjfgaa.Sm
