/- cars and intents as they are handed in -/
import Derived.Test.YtobdcngjpgndiabDoorK0
import Derived.Test.YtobdcngjpgndiabDoorC1
import Derived.ChangeMaps5
import Derived.ChangeArms
import Derived.Deep.Slices
import Derived.SizedLaws
namespace Go.Proofs.YtobdcngjpgndiabDoor.Bo
open Go Go.ChangeShapes Go.WideShapes Go.ChangeAt Go.RowKit

theorem laidOut : laidOutB Tryd.prog = true := by kernel_rfl
theorem kc2 : Tryd.prog.cellsOf 2 = 1 := by kernel_rfl
theorem kc3 : Tryd.prog.cellsOf 3 = 1 := by kernel_rfl
theorem kc4 : Tryd.prog.cellsOf 4 = 1 := by kernel_rfl
theorem kc9 : Tryd.prog.cellsOf 9 = 1 := by kernel_rfl
theorem kc30 : Tryd.prog.cellsOf 23 = 2 := by kernel_rfl
theorem kc41 : Tryd.prog.cellsOf 34 = 5 := by kernel_rfl
theorem in_wf {a : Int} (h : (Lit.int .i64 a).wf = true) : In a := by
  have m1 : IntKind.i64.min = -9223372036854775808 := by decide
  have m2 : IntKind.i64.max = 9223372036854775807 := by decide
  simp [Lit.wf, m1, m2] at h
  exact h
theorem in_u64 {a : Int} (h : (Lit.int .u64 a).wf = true) : 0 ≤ a ∧ a < 18446744073709551616 := by
  have m1 : IntKind.u64.min = 0 := by decide
  have m2 : IntKind.u64.max = 18446744073709551615 := by decide
  simp [Lit.wf, m1, m2] at h
  omega
theorem vec_cells {H : Type} {enc : TypeId × Value → H} {W : World} {fuel : Nat} {c0 c1 : Value} {x : DataW H × List MemPlace} (hf : DataW.trod enc Tryd.prog W 0 (fun _ => true) true fuel 23 [c0, c1] = some x) :
    ∃ a b : Int, c0 = .int .i64 a ∧ c1 = .int .i64 b ∧ In a ∧ In b := by
  obtain ⟨xs, n, _, hx, hlen, hxl, hfl⟩ := DataW.trod_struct Tryd.underlying23 hf
  match xs, (show xs.length = 2 from hxl) with
  | [y0, y1], _ =>
  have t0 : DataW.trod enc Tryd.prog W 0 (fun _ => true) true n 2 (([c0, c1].drop 0).take (Tryd.prog.cellsOf 2)) = some y0 := hfl 0 _ rfl
  rw [kc2] at t0
  have t1 : DataW.trod enc Tryd.prog W 0 (fun _ => true) true n 2 (([c0, c1].drop 1).take (Tryd.prog.cellsOf 2)) = some y1 := hfl 1 _ rfl
  rw [kc2] at t1
  obtain ⟨x0, e0, f0, m0⟩ := DataW.trod_int Tryd.underlying2 t0
  obtain rfl : c0 = _ := by simpa using e0
  obtain ⟨x1, e1, f1, m1⟩ := DataW.trod_int Tryd.underlying2 t1
  obtain rfl : c1 = _ := by simpa using e1
  exact ⟨x0, x1, rfl, rfl, in_wf m0, in_wf m1⟩
set_option maxRecDepth 100000 in
theorem car_open' {H : Type} {enc : TypeId × Value → H} {W : World} {base fuel : Nat} {v : Value} {d : DataW H} {pl : List MemPlace} (hv : Value.okWide Tryd.prog W .any base 25 v) (hf : DataW.trod enc Tryd.prog W 0 (fun _ => true) true fuel 25 v.cells.toList = some (d, pl)) :
    ∃ c : Cr, v = .agg (crv c).toArray ∧ (c.nm.data.toList.length ≤ 281474976710656 → CrOk c) ∧ c.nm.data.toList.length ∈ d.weights Tryd.prog 25 ∧ c.nm.data.toList.length ≤ Rows.uptoBulk d := by
  obtain ⟨cs, rfl, _⟩ := okWide_struct Tryd.underlying25 hv
  simp only [Value.cells] at hf
  obtain ⟨xs, n, _, hx, hlen, hxl, hfl⟩ := DataW.trod_struct Tryd.underlying25 hf
  have hlen : cs.toList.length = 14 := hlen.trans (by kernel_rfl)
  have hcs : cs = cs.toList.toArray := by simp
  generalize cs.toList = l at hlen hfl hcs
  subst hcs
  match l, hlen with
  | [c0, c1, c2, c3, c4, c5, c6, c7, c8, c9, c10, c11, c12, c13], _ =>
  match xs, (show xs.length = 12 from hxl) with
  | [y0, y1, y2, y3, y4, y5, y6, y7, y8, y9, y10, y11], _ =>
  have t0 : DataW.trod enc Tryd.prog W 0 (fun _ => true) true n 3 (([c0, c1, c2, c3, c4, c5, c6, c7, c8, c9, c10, c11, c12, c13].drop 0).take (Tryd.prog.cellsOf 3)) = some y0 := hfl 0 _ rfl
  rw [kc3] at t0
  have t1 : DataW.trod enc Tryd.prog W 0 (fun _ => true) true n 9 (([c0, c1, c2, c3, c4, c5, c6, c7, c8, c9, c10, c11, c12, c13].drop 1).take (Tryd.prog.cellsOf 9)) = some y1 := hfl 1 _ rfl
  rw [kc9] at t1
  have t2 : DataW.trod enc Tryd.prog W 0 (fun _ => true) true n 23 (([c0, c1, c2, c3, c4, c5, c6, c7, c8, c9, c10, c11, c12, c13].drop 2).take (Tryd.prog.cellsOf 23)) = some y2 := hfl 2 _ rfl
  rw [kc30] at t2
  have t3 : DataW.trod enc Tryd.prog W 0 (fun _ => true) true n 23 (([c0, c1, c2, c3, c4, c5, c6, c7, c8, c9, c10, c11, c12, c13].drop 4).take (Tryd.prog.cellsOf 23)) = some y3 := hfl 3 _ rfl
  rw [kc30] at t3
  have t4 : DataW.trod enc Tryd.prog W 0 (fun _ => true) true n 3 (([c0, c1, c2, c3, c4, c5, c6, c7, c8, c9, c10, c11, c12, c13].drop 6).take (Tryd.prog.cellsOf 3)) = some y4 := hfl 4 _ rfl
  rw [kc3] at t4
  have t5 : DataW.trod enc Tryd.prog W 0 (fun _ => true) true n 3 (([c0, c1, c2, c3, c4, c5, c6, c7, c8, c9, c10, c11, c12, c13].drop 7).take (Tryd.prog.cellsOf 3)) = some y5 := hfl 5 _ rfl
  rw [kc3] at t5
  have t6 : DataW.trod enc Tryd.prog W 0 (fun _ => true) true n 3 (([c0, c1, c2, c3, c4, c5, c6, c7, c8, c9, c10, c11, c12, c13].drop 8).take (Tryd.prog.cellsOf 3)) = some y6 := hfl 6 _ rfl
  rw [kc3] at t6
  have t7 : DataW.trod enc Tryd.prog W 0 (fun _ => true) true n 3 (([c0, c1, c2, c3, c4, c5, c6, c7, c8, c9, c10, c11, c12, c13].drop 9).take (Tryd.prog.cellsOf 3)) = some y7 := hfl 7 _ rfl
  rw [kc3] at t7
  have t8 : DataW.trod enc Tryd.prog W 0 (fun _ => true) true n 3 (([c0, c1, c2, c3, c4, c5, c6, c7, c8, c9, c10, c11, c12, c13].drop 10).take (Tryd.prog.cellsOf 3)) = some y8 := hfl 8 _ rfl
  rw [kc3] at t8
  have t9 : DataW.trod enc Tryd.prog W 0 (fun _ => true) true n 3 (([c0, c1, c2, c3, c4, c5, c6, c7, c8, c9, c10, c11, c12, c13].drop 11).take (Tryd.prog.cellsOf 3)) = some y9 := hfl 9 _ rfl
  rw [kc3] at t9
  have t10 : DataW.trod enc Tryd.prog W 0 (fun _ => true) true n 3 (([c0, c1, c2, c3, c4, c5, c6, c7, c8, c9, c10, c11, c12, c13].drop 12).take (Tryd.prog.cellsOf 3)) = some y10 := hfl 10 _ rfl
  rw [kc3] at t10
  have t11 : DataW.trod enc Tryd.prog W 0 (fun _ => true) true n 3 (([c0, c1, c2, c3, c4, c5, c6, c7, c8, c9, c10, c11, c12, c13].drop 13).take (Tryd.prog.cellsOf 3)) = some y11 := hfl 11 _ rfl
  rw [kc3] at t11
  obtain ⟨x0, e0, f0, m0⟩ := DataW.trod_int Tryd.underlying3 t0
  obtain rfl : c0 = _ := by simpa using e0
  obtain ⟨x1, e1, f1, m1⟩ := DataW.trod_string Tryd.underlying9 t1
  obtain rfl : c1 = _ := by simpa using e1
  obtain ⟨a2, b2, rfl, rfl, g2, h2⟩ := vec_cells t2
  obtain ⟨a3, b3, rfl, rfl, g3, h3⟩ := vec_cells t3
  obtain ⟨x4, e4, f4, m4⟩ := DataW.trod_int Tryd.underlying3 t4
  obtain rfl : c6 = _ := by simpa using e4
  obtain ⟨x5, e5, f5, m5⟩ := DataW.trod_int Tryd.underlying3 t5
  obtain rfl : c7 = _ := by simpa using e5
  obtain ⟨x6, e6, f6, m6⟩ := DataW.trod_int Tryd.underlying3 t6
  obtain rfl : c8 = _ := by simpa using e6
  obtain ⟨x7, e7, f7, m7⟩ := DataW.trod_int Tryd.underlying3 t7
  obtain rfl : c9 = _ := by simpa using e7
  obtain ⟨x8, e8, f8, m8⟩ := DataW.trod_int Tryd.underlying3 t8
  obtain rfl : c10 = _ := by simpa using e8
  obtain ⟨x9, e9, f9, m9⟩ := DataW.trod_int Tryd.underlying3 t9
  obtain rfl : c11 = _ := by simpa using e9
  obtain ⟨x10, e10, f10, m10⟩ := DataW.trod_int Tryd.underlying3 t10
  obtain rfl : c12 = _ := by simpa using e10
  obtain ⟨x11, e11, f11, m11⟩ := DataW.trod_int Tryd.underlying3 t11
  obtain rfl : c13 = _ := by simpa using e11
  refine ⟨⟨x0, x1, a2, b2, a3, b3, x4, x5, x6, x7, x8, x9, x10, x11⟩, rfl, fun hs => ⟨?_, in_wf m0, g2, h2, g3, h3, in_wf m4, in_wf m5, in_wf m6, in_wf m7, in_wf m8, in_wf m9, in_wf m10, in_wf m11⟩, ?_, ?_⟩
  · have e : x1.data.toList.length = x1.size := by rw [Array.length_toList]; rfl
    show x1.size ≤ _
    rw [← e]; exact hs
  · rw [show d = .agg [y0.1, y1.1, y2.1, y3.1, y4.1, y5.1, y6.1, y7.1, y8.1, y9.1, y10.1, y11.1] from congrArg Prod.fst hx]
    simp only [DataW.weights, Tryd.underlying25]
    refine DataW.weights_mem_each (j := 1) (t := 9) rfl rfl _ ?_
    rw [f1]
    simp [DataW.weights]
  · rw [show d = .agg [y0.1, y1.1, y2.1, y3.1, y4.1, y5.1, y6.1, y7.1, y8.1, y9.1, y10.1, y11.1] from congrArg Prod.fst hx]
    simp only [Rows.uptoBulk, Rows.uptoBulkAll, f1]
    omega
set_option maxRecDepth 100000 in
theorem car_open {H : Type} {enc : TypeId × Value → H} {W : World} {base fuel : Nat} {v : Value} {d : DataW H} {pl : List MemPlace} (hv : Value.okWide Tryd.prog W .any base 25 v) (hf : DataW.trod enc Tryd.prog W 0 (fun _ => true) true fuel 25 v.cells.toList = some (d, pl)) :
    ∃ c : Cr, v = .agg (crv c).toArray ∧ (c.nm.data.toList.length ≤ 281474976710656 → CrOk c) ∧ c.nm.data.toList.length ∈ d.weights Tryd.prog 25 := by
  obtain ⟨c, h1, h2, h3, _⟩ := car_open' hv hf
  exact ⟨c, h1, h2, h3⟩
theorem str_bulk {H : Type} (s : ByteArray) : Rows.uptoBulk (DataW.lit (H := H) (.string s.data.toList)) = s.size + 1 := by
  have e : s.data.toList.length = s.size := by rw [Array.length_toList]; rfl
  simp only [Rows.uptoBulk, e]
/-- intents as they are handed in -/
structure Its (W : World) (v : Value) (L : List It) : Prop where
  o : ∃ a cap, v = .slice a L.length cap ∧ (0 < L.length → ∃ g o, a = some ⟨g, o, none⟩ ∧ ∀ (j : Nat) (x : It), L[j]? = some x → W.rangeAt g (o + j * 5) (itv x))
  s : ∀ x ∈ L, ItOk x
  n : L.length ≤ 9223372036854775807
theorem Its.kept {W W' : World} {v : Value} {L : List It} (h : Its W v L) (g : W.grownBy W' none) : Its W' v L := by
  obtain ⟨a, cap, e, q⟩ := h.o
  refine ⟨⟨a, cap, e, fun hn => ?_⟩, h.s, h.n⟩
  obtain ⟨b, o, e1, q⟩ := q hn
  exact ⟨b, o, e1, fun j x hx i v hv => g.cell (q j x hx i v hv) (by simp)⟩
instance : Inhabited It := ⟨⟨0, 0, 0, false, false⟩⟩
set_option maxRecDepth 100000 in
set_option maxHeartbeats 2000000 in
theorem its_open {H : Type} {enc : TypeId × Value → H} {W : World} {a0 : Option Addr} {n0 c0 fuel : Nat} {d : DataW H} {pl : List MemPlace} (hf : DataW.trod enc Tryd.prog W 0 (fun _ => true) true fuel 26 (Value.slice a0 n0 c0).cells.toList = some (d, pl)) :
    ∃ xs, Its W (.slice a0 n0 c0) xs := by
  rcases Deep.open_slice Tryd.underlying26 hf with ⟨hcs, hx⟩ | ⟨a, len, cap, m, n, D, Pl, hcs, _, hl, hm, hmm, hx, hel⟩
  · have e : Value.slice a0 n0 c0 = Value.slice none 0 0 := by simpa [Value.cells] using hcs
    injection e with e1 e2 e3
    subst e1 e2 e3
    exact ⟨[], ⟨⟨none, 0, rfl, fun h => by cases h⟩, fun o ho => (by cases ho), by simp⟩⟩
  · have e : Value.slice a0 n0 c0 = Value.slice (some a) len cap := by simpa [Value.cells] using hcs
    injection e with e1 e2 e3
    subst e1 e2 e3
    simp only [if_true] at hmm
    have each : ∀ i, i < m → ∃ o : It, ItOk o ∧ ∀ j v, (itv o)[j]? = some v → W.cell? (a.add (i * 5 + j)) = some v := by
      intro i hi
      obtain ⟨cs', h1, h2⟩ := hel i hi
      rw [kc41] at h1
      obtain ⟨_, hlen, hcell⟩ := World.cells?_some h1
      obtain ⟨xs, k, _, hD, _, hxl, hfl⟩ := DataW.trod_struct Tryd.underlying34 h2
      match cs', hlen with
      | [x0, x1, x2, x3, x4], _ =>
      match xs, (show xs.length = 5 from hxl) with
      | [y0, y1, y2, y3, y4], _ =>
        have t0 : DataW.trod enc Tryd.prog W 0 (fun _ => true) true k 3 (([x0, x1, x2, x3, x4].drop 0).take (Tryd.prog.cellsOf 3)) = some y0 := hfl 0 _ rfl
        have t1 : DataW.trod enc Tryd.prog W 0 (fun _ => true) true k 3 (([x0, x1, x2, x3, x4].drop 1).take (Tryd.prog.cellsOf 3)) = some y1 := hfl 1 _ rfl
        have t2 : DataW.trod enc Tryd.prog W 0 (fun _ => true) true k 3 (([x0, x1, x2, x3, x4].drop 2).take (Tryd.prog.cellsOf 3)) = some y2 := hfl 2 _ rfl
        have t3 : DataW.trod enc Tryd.prog W 0 (fun _ => true) true k 4 (([x0, x1, x2, x3, x4].drop 3).take (Tryd.prog.cellsOf 4)) = some y3 := hfl 3 _ rfl
        have t4 : DataW.trod enc Tryd.prog W 0 (fun _ => true) true k 4 (([x0, x1, x2, x3, x4].drop 4).take (Tryd.prog.cellsOf 4)) = some y4 := hfl 4 _ rfl
        rw [kc3] at t0 t1 t2
        rw [kc4] at t3 t4
        obtain ⟨z0, e0, _, r0⟩ := DataW.trod_int Tryd.underlying3 t0
        obtain ⟨z1, e1, _, r1⟩ := DataW.trod_int Tryd.underlying3 t1
        obtain ⟨z2, e2, _, r2⟩ := DataW.trod_int Tryd.underlying3 t2
        obtain ⟨z3, e3, _⟩ := DataW.trod_bool Tryd.underlying4 t3
        obtain ⟨z4, e4, _⟩ := DataW.trod_bool Tryd.underlying4 t4
        simp at e0 e1 e2 e3 e4
        subst e0 e1 e2 e3 e4
        refine ⟨⟨z0, z1, z2, z3, z4⟩, ⟨in_wf r0, in_wf r1, in_wf r2⟩, fun j v hv => ?_⟩
        have hj : j < 5 := (List.getElem?_eq_some_iff.1 hv).1
        have g := hcell j (by simpa using hj)
        rw [Deep.add_add] at g
        rw [g]
        exact hv
    obtain ⟨q, hq⟩ := Deep.choose_lt each
    refine ⟨(List.range n0).map q, ⟨⟨some a, c0, by simp, fun hn => ?_⟩, fun o ho => ?_, by simp; unfold maxLen at hm; omega⟩⟩
    · have hn : 0 < n0 := by simpa using hn
      obtain ⟨b, off, spot⟩ := a
      have hspot : spot = none := by simpa [Addr.add] using World.cell?_spot ((hq 0 (by omega)).2 0 _ rfl)
      subst hspot
      refine ⟨b, off, rfl, fun j o hj => ?_⟩
      have hj2 : j < n0 := by
        have := (List.getElem?_eq_some_iff.1 hj).1
        simpa using this
      have e : q j = o := by
        rw [List.getElem?_map, List.getElem?_range hj2] at hj
        simpa using hj
      have p := (hq j (by omega)).2
      rw [e] at p
      intro r v hv
      have := p r v hv
      rw [Addr.add_mid] at this
      rw [Nat.add_assoc]; exact this
    · obtain ⟨i, hi, rfl⟩ := List.mem_map.1 ho
      exact (hq i (by have := List.mem_range.1 hi; omega)).1
end Go.Proofs.YtobdcngjpgndiabDoor.Bo
