/- for the rows: a script as it is handed in -/
import Derived.Test.YtidpafmhmhojmaaRows
import Derived.Test.YtidpafmhmhojmaaL3
import Derived.WalkKit
import Derived.ProofKit
import Derived.OpenShut
import Derived.ChangeMaps5
import Derived.SizedLaws
import Derived.JoinedCond
import Derived.Deep.Slices
import Derived.Deep.Strs
namespace Go.Proofs.Ytidpafmhmhojmaa
open Go Go.ChangeShapes Go.WideShapes Go.ChangeAt Go.RowKit

theorem own : ownKnob Try.prog.godebug = none := by kernel_rfl
theorem below_of {w w' : World} (h : w.grownBy w' none) : Below w.heap.size w w' := ⟨h.os, h.tape, h.output, h.size, fun k hk => h.block k hk (by simp)⟩
theorem in_of_wf {x : Int} (h : (Lit.int .i64 x).wf = true) : I64 x := by
  have h2 : IntKind.i64.min ≤ x ∧ x ≤ IntKind.i64.max := by simpa [Lit.wf] using h
  have e1 : IntKind.i64.min = -9223372036854775808 := by decide
  have e2 : IntKind.i64.max = 9223372036854775807 := by decide
  rw [e1, e2] at h2
  exact h2
theorem kc3 : Try.prog.cellsOf 3 = 1 := by kernel_rfl
theorem kc2 : Try.prog.cellsOf 2 = 1 := by kernel_rfl
theorem kc32 : Try.prog.cellsOf 32 = 2 := by kernel_rfl
theorem kc34 : Try.prog.cellsOf 34 = 6 := by kernel_rfl
theorem by34 : Try.checked.prog.bytesOf 34 = 48 := by kernel_rfl
set_option maxRecDepth 100000 in
set_option maxHeartbeats 4000000 in
theorem scr_open {H : Type} {enc : TypeId × Value → H} {W : World} {a0 : Option Addr} {n0 c0 fuel : Nat} {d : DataW H} {pl : List MemPlace} (hf : DataW.trod enc Try.prog W 0 (fun _ => true) true fuel 22 (Value.slice a0 n0 c0).cells.toList = some (d, pl)) :
    ∃ L : List Stp, (∃ a cap, Value.slice a0 n0 c0 = .slice a L.length cap ∧ (0 < L.length → ∃ g o, a = some ⟨g, o, none⟩ ∧ ∀ (j : Nat) (x : Stp), L[j]? = some x → W.rangeAt g (o + j * 6) (stv x))) ∧ (∀ x ∈ L, SOk x) ∧ L.length = n0 ∧ (n0 = 0 ∨ ∃ elems spare, d = .slice elems spare ∧ n0 = elems.length) := by
  rcases Deep.open_slice Try.underlying22 hf with ⟨hcs, _⟩ | ⟨a, len, cap, m, n, D, Pl, hcs, _, hl, hm, hmm, hx, hel⟩
  · have e : Value.slice a0 n0 c0 = Value.slice none 0 0 := by simpa [Value.cells] using hcs
    injection e with e1 e2 e3
    subst e1 e2 e3
    exact ⟨[], ⟨none, 0, rfl, fun h => by cases h⟩, fun o ho => (by cases ho), rfl, .inl rfl⟩
  · have e : Value.slice a0 n0 c0 = Value.slice (some a) len cap := by simpa [Value.cells] using hcs
    injection e with e1 e2 e3
    subst e1 e2 e3
    simp only [if_true] at hmm
    simp only [Prod.mk.injEq] at hx
    have each : ∀ i, i < m → ∃ o : Stp, SOk o ∧ ∀ j v, (stv o)[j]? = some v → W.cell? (a.add (i * 6 + j)) = some v := by
      intro i hi
      obtain ⟨cs', h1, h2⟩ := hel i hi
      rw [kc34] at h1
      obtain ⟨_, hlen, hcell⟩ := World.cells?_some h1
      obtain ⟨xs, k, _, hD, _, hxl, hfl⟩ := DataW.trod_struct Try.underlying34 h2
      match cs', hlen with
      | [x0, x1, x2, x3, x4, x5], _ =>
      match xs, (show xs.length = 5 from hxl) with
      | [y0, y1, y2, y3, y4], _ =>
        have t0 : DataW.trod enc Try.prog W 0 (fun _ => true) true k 3 (([x0, x1, x2, x3, x4, x5].drop 0).take (Try.prog.cellsOf 3)) = some y0 := hfl 0 _ rfl
        rw [kc3] at t0
        have t1 : DataW.trod enc Try.prog W 0 (fun _ => true) true k 3 (([x0, x1, x2, x3, x4, x5].drop 1).take (Try.prog.cellsOf 3)) = some y1 := hfl 1 _ rfl
        rw [kc3] at t1
        have t2 : DataW.trod enc Try.prog W 0 (fun _ => true) true k 32 (([x0, x1, x2, x3, x4, x5].drop 2).take (Try.prog.cellsOf 32)) = some y2 := hfl 2 _ rfl
        rw [kc32] at t2
        have t3 : DataW.trod enc Try.prog W 0 (fun _ => true) true k 2 (([x0, x1, x2, x3, x4, x5].drop 4).take (Try.prog.cellsOf 2)) = some y3 := hfl 3 _ rfl
        rw [kc2] at t3
        have t4 : DataW.trod enc Try.prog W 0 (fun _ => true) true k 3 (([x0, x1, x2, x3, x4, x5].drop 5).take (Try.prog.cellsOf 3)) = some y4 := hfl 4 _ rfl
        rw [kc3] at t4
        obtain ⟨z0, e0, _, r0⟩ := DataW.trod_int Try.underlying3 t0
        obtain ⟨z1, e1, _, r1⟩ := DataW.trod_int Try.underlying3 t1
        obtain ⟨z4, e4, _, r4⟩ := DataW.trod_int Try.underlying2 t3
        obtain ⟨z5, e5, _, r5⟩ := DataW.trod_int Try.underlying3 t4
        obtain ⟨us, k2, _, _, _, hul, hgl⟩ := DataW.trod_struct Try.underlying32 t2
        match us, (show us.length = 2 from hul) with
        | [u0, u1], _ =>
          have s0 : DataW.trod enc Try.prog W 0 (fun _ => true) true k2 2 (([x2, x3].drop 0).take (Try.prog.cellsOf 2)) = some u0 := hgl 0 _ rfl
          rw [kc2] at s0
          have s1 : DataW.trod enc Try.prog W 0 (fun _ => true) true k2 2 (([x2, x3].drop 1).take (Try.prog.cellsOf 2)) = some u1 := hgl 1 _ rfl
          rw [kc2] at s1
          obtain ⟨z2, e2, _, r2⟩ := DataW.trod_int Try.underlying2 s0
          obtain ⟨z3, e3, _, r3⟩ := DataW.trod_int Try.underlying2 s1
          simp at e0 e1 e2 e3 e4 e5
          subst e0 e1 e2 e3 e4 e5
          refine ⟨⟨z0, z1, z2, z3, z4, z5⟩, ⟨in_of_wf r0, in_of_wf r1, in_of_wf r2, in_of_wf r3, in_of_wf r4, in_of_wf r5⟩, fun j v hv => ?_⟩
          have hj : j < 6 := (List.getElem?_eq_some_iff.1 hv).1
          have g := hcell j (by simpa using hj)
          rw [Deep.add_add] at g
          rw [g]
          exact hv
    obtain ⟨q, hq⟩ := Deep.choose_lt each
    refine ⟨(List.range n0).map q, ⟨some a, c0, by simp, fun hn => ?_⟩, fun o ho => ?_, by simp, .inr ⟨_, _, hx.1, by simp⟩⟩
    · have hn : 0 < n0 := by simpa using hn
      obtain ⟨b, off, spot⟩ := a
      have hspot : spot = none := by simpa [Addr.add] using World.cell?_spot ((hq 0 (by omega)).2 0 _ rfl)
      subst hspot
      refine ⟨b, off, rfl, fun j o hj => ?_⟩
      have hj2 : j < n0 := by
        have := (List.getElem?_eq_some_iff.1 hj).1
        simpa using this
      have e : q j = o := by
        rw [List.getElem?_map, List.getElem?_range hj2] at hj
        simpa using hj
      have p := (hq j (by omega)).2
      rw [e] at p
      intro r v hv
      have := p r v hv
      rw [Addr.add_mid] at this
      rw [Nat.add_assoc]; exact this
    · obtain ⟨i, hi, rfl⟩ := List.mem_map.1 ho
      exact (hq i (by have := List.mem_range.1 hi; omega)).1
end Go.Proofs.Ytidpafmhmhojmaa
