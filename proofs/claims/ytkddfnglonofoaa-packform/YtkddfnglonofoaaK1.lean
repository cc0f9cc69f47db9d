/- for the rows: scripts as they are handed in; what the bound gives. -/
import Derived.Test.YtkddfnglonofoaaK0
import Derived.Test.YtkddfnglonofoaaE0
import Derived.JoinedCond
import Derived.SizedLaws
import Derived.Deep.Slices
import Derived.Deep.Strs
namespace Go.Proofs.Ytkddfnglonofoaa
open Go Go.ChangeShapes Go.WideShapes Go.ChangeAt Go.RowKit

theorem laidOut : laidOutB Try.prog = true := by kernel_rfl
theorem cells30 : Try.prog.cellsOf 30 = 5 := by kernel_rfl
theorem cells3 : Try.prog.cellsOf 3 = 1 := by kernel_rfl
theorem cells2 : Try.prog.cellsOf 2 = 1 := by kernel_rfl
theorem cells28 : Try.prog.cellsOf 28 = 1 := by kernel_rfl
theorem cells9 : Try.prog.cellsOf 9 = 1 := by kernel_rfl
theorem bytes30 : Try.checked.prog.bytesOf 30 = 48 := by kernel_rfl
theorem in_i64 {a : Int} (h : (Lit.int .i64 a).wf = true) : -9223372036854775808 ≤ a ∧ a < 9223372036854775808 := by
  have m1 : IntKind.i64.min = -9223372036854775808 := by decide
  have m2 : IntKind.i64.max = 9223372036854775807 := by decide
  simp [Lit.wf, m1, m2] at h
  omega
theorem in_u64 {a : Int} (h : (Lit.int .u64 a).wf = true) : 0 ≤ a ∧ a < 18446744073709551616 := by
  have m1 : IntKind.u64.min = 0 := by decide
  have m2 : IntKind.u64.max = 18446744073709551615 := by decide
  simp [Lit.wf, m1, m2] at h
  omega
def datum {H : Type} (o : OpT) : DataW H := .agg [.lit (.int .i64 o.kind), .lit (.int .u64 o.u), .lit (.int .i64 o.i), .lit (.int .i64 o.size), .lit (.string o.s.data.toList)]
theorem trod_struct5 {H : Type} {enc : TypeId × Value → H} {P : Program} {w : World} {base : Nat} {spare : Nat → Bool} {held : Bool} {t : TypeId} {f0 f1 f2 f3 f4 : Field} {fuel : Nat} {cs : List Value} {x : DataW H × List MemPlace} (ht : P.underlying t = some (.struct #[f0, f1, f2, f3, f4])) (h : DataW.trod enc P w base spare held fuel t cs = some x) :
    ∃ y0 y1 y2 y3 y4 n, x.1 = .agg [y0.1, y1.1, y2.1, y3.1, y4.1] ∧ cs.length = P.cellsOf t ∧ DataW.trod enc P w base spare held n f0.type ((cs.drop f0.offset).take (P.cellsOf f0.type)) = some y0 ∧
      DataW.trod enc P w base spare held n f1.type ((cs.drop f1.offset).take (P.cellsOf f1.type)) = some y1 ∧ DataW.trod enc P w base spare held n f2.type ((cs.drop f2.offset).take (P.cellsOf f2.type)) = some y2 ∧
      DataW.trod enc P w base spare held n f3.type ((cs.drop f3.offset).take (P.cellsOf f3.type)) = some y3 ∧ DataW.trod enc P w base spare held n f4.type ((cs.drop f4.offset).take (P.cellsOf f4.type)) = some y4 := by
  obtain ⟨xs, n, _, rfl, hl, hlen, hf⟩ := DataW.trod_struct ht h
  match xs, hlen with
  | [y0, y1, y2, y3, y4], _ => exact ⟨y0, y1, y2, y3, y4, n, by simp, hl, by simpa using hf 0 f0 rfl, by simpa using hf 1 f1 rfl, by simpa using hf 2 f2 rfl, by simpa using hf 3 f3 rfl, by simpa using hf 4 f4 rfl⟩
instance : Inhabited OpT := ⟨⟨0, 0, 0, 0, ⟨#[]⟩⟩⟩
/-- a script as it is handed in -/
theorem scr_open {H : Type} {enc : TypeId × Value → H} {W : World} {a0 : Option Addr} {n0 c0 fuel : Nat} {d : DataW H} {pl : List MemPlace} (hf : DataW.trod enc Try.prog W 0 (fun _ => true) true fuel 22 (Value.slice a0 n0 c0).cells.toList = some (d, pl)) :
    ∃ xs, Scr W a0 n0 xs ∧ ((d = .nil ∧ xs = []) ∨ ∃ spare, d = .slice (xs.map datum) spare) := by
  rcases Deep.open_slice Try.underlying22 hf with ⟨hcs, hx⟩ | ⟨a, len, cap, m, n, D, Pl, hcs, _, hl, hm, hmm, hx, hel⟩
  · have e : Value.slice a0 n0 c0 = Value.slice none 0 0 := by simpa [Value.cells] using hcs
    injection e with e1 e2 e3
    subst e1 e2 e3
    simp only [Prod.mk.injEq] at hx
    exact ⟨[], ⟨rfl, fun o ho => (by cases ho), fun h => by omega⟩, .inl ⟨hx.1, rfl⟩⟩
  · have e : Value.slice a0 n0 c0 = Value.slice (some a) len cap := by simpa [Value.cells] using hcs
    injection e with e1 e2 e3
    subst e1 e2 e3
    simp only [if_true] at hmm
    simp only [Prod.mk.injEq] at hx
    have each : ∀ i, i < m → ∃ o : OpT, o.Ok ∧ D i = datum o ∧ W.cell? (a.add (i * 5)) = some (.int .i64 o.kind) ∧ W.cell? (a.add (i * 5 + 1)) = some (.int .u64 o.u) ∧ W.cell? (a.add (i * 5 + 2)) = some (.int .i64 o.i) ∧ W.cell? (a.add (i * 5 + 3)) = some (.int .i64 o.size) ∧ W.cell? (a.add (i * 5 + 4)) = some (.string o.s) := by
      intro i hi
      obtain ⟨cs', h1, h2⟩ := hel i hi
      rw [cells30] at h1
      obtain ⟨_, hlen, hcell⟩ := World.cells?_some h1
      obtain ⟨y0, y1, y2, y3, y4, k, hD, _, t0, t1, t2, t3, t4⟩ := trod_struct5 Try.underlying30 h2
      rw [cells3] at t0 t3
      rw [cells28] at t1
      rw [cells2] at t2
      rw [cells9] at t4
      match cs', hlen with
      | [x0, x1, x2, x3, x4], _ =>
        obtain ⟨z0, e0, d0, _⟩ := DataW.trod_int Try.underlying3 t0
        obtain ⟨z1, e1, d1, r1⟩ := DataW.trod_int Try.underlying28 t1
        obtain ⟨z2, e2, d2, r2⟩ := DataW.trod_int Try.underlying2 t2
        obtain ⟨z3, e3, d3, _⟩ := DataW.trod_int Try.underlying3 t3
        obtain ⟨z4, e4, d4, _⟩ := DataW.trod_string Try.underlying9 t4
        simp at e0 e1 e2 e3 e4
        subst e0 e1 e2 e3 e4
        have g0 := hcell 0 (by omega)
        have g1 := hcell 1 (by omega)
        have g2 := hcell 2 (by omega)
        have g3 := hcell 3 (by omega)
        have g4 := hcell 4 (by omega)
        rw [Deep.add_add] at g0 g1 g2 g3 g4
        have hu := in_u64 r1
        have hz : ((z1.toNat : Nat) : Int) = z1 := by omega
        refine ⟨⟨z0, z1.toNat, z2, z3, z4⟩, ⟨by show z1.toNat < _; omega, in_i64 r2⟩, ?_, by simpa using g0, by rw [hz]; simpa using g1, by simpa using g2, by simpa using g3, by simpa using g4⟩
        simp only at hD
        rw [hD, d0, d1, d2, d3, d4]
        simp only [datum, hz]
    obtain ⟨q, hq⟩ := Deep.choose_lt each
    refine ⟨(List.range n0).map q, ⟨by simp, fun o ho => ?_, fun hn => ?_⟩, .inr ⟨(List.range (m - n0)).map (fun j => D (n0 + j)), ?_⟩⟩
    · obtain ⟨i, hi, rfl⟩ := List.mem_map.1 ho
      exact (hq i (by have := List.mem_range.1 hi; omega)).1
    · obtain ⟨b, off, spot⟩ := a
      have hspot : spot = none := by simpa [Addr.add] using World.cell?_spot (hq 0 (by omega)).2.2.1
      subst hspot
      refine ⟨b, off, rfl, fun j o hj => ?_⟩
      have hj2 : j < n0 := by
        have := (List.getElem?_eq_some_iff.1 hj).1
        simpa using this
      have e : q j = o := by
        rw [List.getElem?_map, List.getElem?_range hj2] at hj
        simpa using hj
      obtain ⟨_, _, p0, p1, p2, p3, p4⟩ := hq j (by omega)
      rw [e] at p0 p1 p2 p3 p4
      simp only [add_plain] at p0 p1 p2 p3 p4
      exact ⟨p0, p1, p2, p3, p4⟩
    · rw [hx.1, List.map_map]
      congr 1
      refine List.map_congr_left fun i hi => ?_
      exact (hq i (by have := List.mem_range.1 hi; omega)).2.1
theorem datum_bulk {H : Type} (xs : List OpT) : bulk xs ≤ 2 * Rows.uptoBulkAll (xs.map (datum (H := H))) := by
  induction xs with
  | nil => simp [bulk]
  | cons o r ih =>
    have e : o.s.data.toList.length = o.s.size := sl_len o.s
    simp only [bulk, List.map_cons, List.sum_cons, Rows.uptoBulkAll, datum, Rows.uptoBulk, e] at *
    omega
theorem datum_len {H : Type} (xs : List OpT) : xs.length ≤ Rows.uptoBulkAll (xs.map (datum (H := H))) := by
  induction xs with
  | nil => simp
  | cons o r ih =>
    simp only [List.map_cons, Rows.uptoBulkAll, datum, Rows.uptoBulk, List.length_cons] at *
    omega
/-- of a script within the bound -/
theorem scr_small {H : Type} {d : DataW H} {xs : List OpT} (h : (d = .nil ∧ xs = []) ∨ ∃ spare, d = .slice (xs.map datum) spare) : bulk xs ≤ 2 * Rows.uptoBulk d ∧ xs.length ≤ Rows.uptoBulk d := by
  rcases h with ⟨rfl, rfl⟩ | ⟨sp, rfl⟩
  · simp [bulk]
  · have h1 := datum_bulk (H := H) xs
    have h2 := datum_len (H := H) xs
    simp only [Rows.uptoBulk]
    omega
theorem weights_mem {H : Type} {P : Program} {e : TypeId} {n : Nat} : ∀ {l : List (DataW H)} {d : DataW H}, d ∈ l → n ∈ d.weights P e → n ∈ DataW.weightsAll P e l
  | x :: r, d, hd, hn => by
    simp only [DataW.weightsAll, List.mem_append]
    rcases List.mem_cons.1 hd with rfl | hd
    · exact .inl hn
    · exact .inr (weights_mem hd hn)
/-- of a script of any size -/
theorem scr_wide {H : Type} {ts : List TypeId} {ds : List (DataW H)} (hs : (DataW.weightsEach Try.checked.prog ts ds).all (· ≤ reachBytes) = true) {j : Nat} {d : DataW H} {xs : List OpT} (ht : ts[j]? = some 22) (hd : ds[j]? = some d) (h : (d = .nil ∧ xs = []) ∨ ∃ spare, d = .slice (xs.map datum) spare) :
    xs.length * 48 ≤ 140737488355328 ∧ ∀ o ∈ xs, o.s.size ≤ 140737488351232 := by
  rcases h with ⟨rfl, rfl⟩ | ⟨sp, rfl⟩
  · exact ⟨by simp, fun o ho => (by cases ho)⟩
  · have hr : reachBytes = 140737488351232 := by decide
    constructor
    · have := sized_slice hs ht hd Try.underlying22
      rw [bytes30, List.length_map, hr] at this
      omega
    · intro o ho
      have e : o.s.data.toList.length = o.s.size := sl_len o.s
      have h22 : Try.checked.prog.underlying 22 = some (.slice 30) := Try.underlying22
      have hm : o.s.size ∈ DataW.weights Try.checked.prog 22 (DataW.slice (xs.map (datum (H := H))) sp) := by
        simp only [DataW.weights, h22, List.mem_cons, List.mem_append]
        refine .inr (.inl (weights_mem (List.mem_map.2 ⟨o, ho, rfl⟩) ?_))
        have h30 : ∃ fs, Try.checked.prog.underlying 30 = some (.struct fs) ∧ fs.size = 5 := ⟨_, Try.underlying30, rfl⟩
        obtain ⟨fs, h30, h5⟩ := h30
        obtain ⟨f0, f1, f2, f3, f4, rfl⟩ : ∃ f0 f1 f2 f3 f4, fs = #[f0, f1, f2, f3, f4] := by
          obtain ⟨l⟩ := fs
          match l, h5 with
          | [f0, f1, f2, f3, f4], _ => exact ⟨f0, f1, f2, f3, f4, rfl⟩
        simp [datum, DataW.weights, h30, DataW.weightsEach, e]
      have := List.all_eq_true.1 hs _ (DataW.weights_mem_each ht hd _ hm)
      simpa [hr] using this
end Go.Proofs.Ytkddfnglonofoaa
