/- scripts as they are handed in -/
import Derived.Test.YtbmnlhmelbhjeaaDoorCK0
import Derived.Test.YtbmnlhmelbhjeaaDoorCL2
import Derived.Deep.Slices
namespace Go.Proofs.YtbmnlhmelbhjeaaDoor
open Go Go.ChangeShapes Go.WideShapes Go.ChangeAt Go.RowKit

theorem cellsOp : Tryd.prog.cellsOf 40 = 8 := by kernel_rfl
theorem cells3 : Tryd.prog.cellsOf 3 = 1 := by kernel_rfl
theorem cells4 : Tryd.prog.cellsOf 4 = 1 := by kernel_rfl
theorem cells30 : Tryd.prog.cellsOf 30 = 1 := by kernel_rfl
theorem in_i64 {a : Int} (h : (Lit.int .i64 a).wf = true) : -9223372036854775808 ≤ a ∧ a < 9223372036854775808 := by
  have m1 : IntKind.i64.min = -9223372036854775808 := by decide
  have m2 : IntKind.i64.max = 9223372036854775807 := by decide
  simp [Lit.wf, m1, m2] at h
  omega
theorem in_u64 {a : Int} (h : (Lit.int .u64 a).wf = true) : 0 ≤ a ∧ a < 18446744073709551616 := by
  have m1 : IntKind.u64.min = 0 := by decide
  have m2 : IntKind.u64.max = 18446744073709551615 := by decide
  simp [Lit.wf, m1, m2] at h
  omega
def datum {H : Type} (o : OpR) : DataW H := .agg [.lit (.int .i64 o.kind), .lit (.int .i64 o.which), .lit (.string o.A.data.toList), .lit (.string o.B.data.toList), .lit (.string o.C.data.toList), .lit (.int .u64 o.ep), .lit (.bool o.own), .lit (.int .i64 o.turned)]
theorem trod_struct8 {H : Type} {enc : TypeId × Value → H} {P : Program} {w : World} {base : Nat} {spare : Nat → Bool} {held : Bool} {t : TypeId} {f0 f1 f2 f3 f4 f5 f6 f7 : Field} {fuel : Nat} {cs : List Value} {x : DataW H × List MemPlace} (ht : P.underlying t = some (.struct #[f0, f1, f2, f3, f4, f5, f6, f7])) (h : DataW.trod enc P w base spare held fuel t cs = some x) :
    ∃ y0 y1 y2 y3 y4 y5 y6 y7 n, x.1 = .agg [y0.1, y1.1, y2.1, y3.1, y4.1, y5.1, y6.1, y7.1] ∧ cs.length = P.cellsOf t ∧ DataW.trod enc P w base spare held n f0.type ((cs.drop f0.offset).take (P.cellsOf f0.type)) = some y0 ∧ DataW.trod enc P w base spare held n f1.type ((cs.drop f1.offset).take (P.cellsOf f1.type)) = some y1 ∧ DataW.trod enc P w base spare held n f2.type ((cs.drop f2.offset).take (P.cellsOf f2.type)) = some y2 ∧ DataW.trod enc P w base spare held n f3.type ((cs.drop f3.offset).take (P.cellsOf f3.type)) = some y3 ∧ DataW.trod enc P w base spare held n f4.type ((cs.drop f4.offset).take (P.cellsOf f4.type)) = some y4 ∧ DataW.trod enc P w base spare held n f5.type ((cs.drop f5.offset).take (P.cellsOf f5.type)) = some y5 ∧ DataW.trod enc P w base spare held n f6.type ((cs.drop f6.offset).take (P.cellsOf f6.type)) = some y6 ∧ DataW.trod enc P w base spare held n f7.type ((cs.drop f7.offset).take (P.cellsOf f7.type)) = some y7 := by
  obtain ⟨xs, n, _, rfl, hl, hlen, hf⟩ := DataW.trod_struct ht h
  match xs, hlen with
  | [y0, y1, y2, y3, y4, y5, y6, y7], _ => exact ⟨y0, y1, y2, y3, y4, y5, y6, y7, n, by simp, hl, by simpa using hf 0 f0 rfl, by simpa using hf 1 f1 rfl, by simpa using hf 2 f2 rfl, by simpa using hf 3 f3 rfl, by simpa using hf 4 f4 rfl, by simpa using hf 5 f5 rfl, by simpa using hf 6 f6 rfl, by simpa using hf 7 f7 rfl⟩
instance : Inhabited OpR := ⟨⟨0, 0, ⟨#[]⟩, ⟨#[]⟩, ⟨#[]⟩, 0, false, 0⟩⟩
set_option maxHeartbeats 2000000 in
theorem scr_open {H : Type} {enc : TypeId × Value → H} {W : World} {a0 : Option Addr} {n0 c0 fuel : Nat} {d : DataW H} {pl : List MemPlace} (hf : DataW.trod enc Tryd.prog W 0 (fun _ => true) true fuel 38 (Value.slice a0 n0 c0).cells.toList = some (d, pl)) :
    ∃ xs, Scr W a0 n0 xs ∧ n0 ≤ 9223372036854775807 ∧ ((d = .nil ∧ xs = []) ∨ ∃ spare, d = .slice (xs.map datum) spare) := by
  rcases Deep.open_slice Tryd.underlying38 hf with ⟨hcs, hx⟩ | ⟨a, len, cap, m, n, D, Pl, hcs, _, hl, hm, hmm, hx, hel⟩
  · have e : Value.slice a0 n0 c0 = Value.slice none 0 0 := by simpa [Value.cells] using hcs
    injection e with e1 e2 e3
    subst e1 e2 e3
    simp only [Prod.mk.injEq] at hx
    exact ⟨[], ⟨rfl, fun o ho => (by cases ho), fun h => by omega⟩, by omega, .inl ⟨hx.1, rfl⟩⟩
  · have e : Value.slice a0 n0 c0 = Value.slice (some a) len cap := by simpa [Value.cells] using hcs
    injection e with e1 e2 e3
    subst e1 e2 e3
    simp only [if_true] at hmm
    simp only [Prod.mk.injEq] at hx
    have each : ∀ i, i < m → ∃ o : OpR, o.Ok ∧ D i = datum o ∧ ∀ j v, o.vals[j]? = some v → W.cell? (a.add (i * 8 + j)) = some v := by
      intro i hi
      obtain ⟨cs', h1, h2⟩ := hel i hi
      rw [cellsOp] at h1
      obtain ⟨_, hlen, hcell⟩ := World.cells?_some h1
      obtain ⟨y0, y1, y2, y3, y4, y5, y6, y7, k, hD, _, t0, t1, t2, t3, t4, t5, t6, t7⟩ := trod_struct8 Tryd.underlying40 h2
      rw [cells3] at t0 t1 t7
      rw [cells9] at t2 t3 t4
      rw [cells30] at t5
      rw [cells4] at t6
      match cs', hlen with
      | [x0, x1, x2, x3, x4, x5, x6, x7], _ =>
        obtain ⟨z0, e0, d0, _⟩ := DataW.trod_int Tryd.underlying3 t0
        obtain ⟨z1, e1, d1, r1⟩ := DataW.trod_int Tryd.underlying3 t1
        obtain ⟨z2, e2, d2, r2⟩ := DataW.trod_string Tryd.underlying9 t2
        obtain ⟨z3, e3, d3, r3⟩ := DataW.trod_string Tryd.underlying9 t3
        obtain ⟨z4, e4, d4, _⟩ := DataW.trod_string Tryd.underlying9 t4
        obtain ⟨z5, e5, d5, r5⟩ := DataW.trod_int Tryd.underlying30 t5
        obtain ⟨z6, e6, d6⟩ := DataW.trod_bool Tryd.underlying4 t6
        obtain ⟨z7, e7, d7, r7⟩ := DataW.trod_int Tryd.underlying3 t7
        simp at e0 e1 e2 e3 e4 e5 e6 e7
        subst e0 e1 e2 e3 e4 e5 e6 e7
        have hu := in_u64 r5
        have hz : ((z5.toNat : Nat) : Int) = z5 := by omega
        refine ⟨⟨z0, z1, z2, z3, z4, z5.toNat, z6, z7⟩, ⟨r2, r3, by show z5.toNat < _; omega, in_i64 r1, in_i64 r7⟩, ?_, fun j v hv => ?_⟩
        · simp only at hD
          rw [hD, d0, d1, d2, d3, d4, d5, d6, d7]
          simp only [datum, hz]
        · simp only [OpR.vals, hz] at hv
          have hj : j < 8 := (List.getElem?_eq_some_iff.1 hv).1
          have g := hcell j (by simpa using hj)
          rw [Deep.add_add] at g
          rw [g]
          rw [← hv]
    obtain ⟨q, hq⟩ := Deep.choose_lt each
    refine ⟨(List.range n0).map q, ⟨by simp, fun o ho => ?_, fun hn => ?_⟩, by unfold maxLen at hm; omega, .inr ⟨(List.range (m - n0)).map (fun j => D (n0 + j)), ?_⟩⟩
    · obtain ⟨i, hi, rfl⟩ := List.mem_map.1 ho
      exact (hq i (by have := List.mem_range.1 hi; omega)).1
    · obtain ⟨b, off, spot⟩ := a
      have hspot : spot = none := by simpa [Addr.add] using World.cell?_spot ((hq 0 (by omega)).2.2 0 _ rfl)
      subst hspot
      refine ⟨b, off, rfl, fun j o hj => ?_⟩
      have hj2 : j < n0 := by
        have := (List.getElem?_eq_some_iff.1 hj).1
        simpa using this
      have e : q j = o := by
        rw [List.getElem?_map, List.getElem?_range hj2] at hj
        simpa using hj
      have p := (hq j (by omega)).2.2
      rw [e] at p
      intro r v hv
      have := p r v hv
      rw [Addr.add_mid] at this
      rw [Nat.add_assoc]; exact this
    · rw [hx.1, List.map_map]
      congr 1
      refine List.map_congr_left fun i hi => ?_
      exact (hq i (by have := List.mem_range.1 hi; omega)).2.1
end Go.Proofs.YtbmnlhmelbhjeaaDoor
