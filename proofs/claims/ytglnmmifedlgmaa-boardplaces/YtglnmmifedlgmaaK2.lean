/- spots as they are handed in -/
import Derived.Test.YtglnmmifedlgmaaK1
import Derived.Test.YtglnmmifedlgmaaRL2
import Derived.JoinedCond
import Derived.Deep.Slices
namespace Go.Proofs.Ytglnmmifedlgmaa
open Go Go.ChangeShapes Go.WideShapes Go.ChangeAt Go.RowKit

instance : Inhabited Spt := ⟨⟨0, 0, 0, 0, 0⟩⟩
theorem kcells3 : Try.prog.cellsOf 3 = 1 := by kernel_rfl
theorem kcells32 : Try.prog.cellsOf 32 = 2 := by kernel_rfl
theorem kcells49 : Try.prog.cellsOf 49 = 5 := by kernel_rfl
theorem add_plain (b o i : Nat) : (⟨b, o, none⟩ : Addr).add i = ⟨b, o + i, none⟩ := by simp [Addr.add]
theorem spot_cells {H : Type} {enc : TypeId × Value → H} {W : World} {fuel : Nat} {c0 c1 c2 c3 c4 : Value} {x : DataW H × List MemPlace} (hf : DataW.trod enc Try.prog W 0 (fun _ => true) true fuel 49 [c0, c1, c2, c3, c4] = some x) :
    ∃ p : Spt, c0 = iv p.ax ∧ c1 = iv p.ay ∧ c2 = iv p.h ∧ c3 = iv p.x ∧ c4 = iv p.y ∧ p.ok := by
  obtain ⟨xs, n, _, hx, hlen, hxl, hfl⟩ := DataW.trod_struct Try.underlying49 hf
  match xs, (show xs.length = 4 from hxl) with
  | [y0, y1, y2, y3], _ =>
  have t0 : DataW.trod enc Try.prog W 0 (fun _ => true) true n 32 (([c0, c1, c2, c3, c4].drop 0).take (Try.prog.cellsOf 32)) = some y0 := hfl 0 _ rfl
  rw [kcells32] at t0
  have t1 : DataW.trod enc Try.prog W 0 (fun _ => true) true n 2 (([c0, c1, c2, c3, c4].drop 2).take (Try.prog.cellsOf 2)) = some y1 := hfl 1 _ rfl
  rw [kcells2] at t1
  have t2 : DataW.trod enc Try.prog W 0 (fun _ => true) true n 3 (([c0, c1, c2, c3, c4].drop 3).take (Try.prog.cellsOf 3)) = some y2 := hfl 2 _ rfl
  rw [kcells3] at t2
  have t3 : DataW.trod enc Try.prog W 0 (fun _ => true) true n 3 (([c0, c1, c2, c3, c4].drop 4).take (Try.prog.cellsOf 3)) = some y3 := hfl 3 _ rfl
  rw [kcells3] at t3
  obtain ⟨a, b, rfl, rfl, ha, hb⟩ := vec_cells t0
  obtain ⟨x1, e1, f1, m1⟩ := DataW.trod_int Try.underlying2 t1
  obtain rfl : c2 = _ := by simpa using e1
  obtain ⟨x2, e2, f2, m2⟩ := DataW.trod_int Try.underlying3 t2
  obtain rfl : c3 = _ := by simpa using e2
  obtain ⟨x3, e3, f3, m3⟩ := DataW.trod_int Try.underlying3 t3
  obtain rfl : c4 = _ := by simpa using e3
  exact ⟨⟨a, b, x1, x2, x3⟩, rfl, rfl, rfl, rfl, rfl, ha, hb, in_of_wf m1⟩
theorem bulk_len {H : Type} : ∀ (l : List (DataW H)), l.length ≤ Rows.uptoBulkAll l
  | [] => Nat.zero_le _
  | d :: r => by
    have := bulk_len r
    have h1 : 1 ≤ Rows.uptoBulk d := by
      cases d with
      | lit l => cases l <;> simp [Rows.uptoBulk]
      | nil => simp [Rows.uptoBulk]
      | ptr d => simp [Rows.uptoBulk]
      | slice a b => simp [Rows.uptoBulk]
      | agg a => simp [Rows.uptoBulk]
      | iface a b => simp [Rows.uptoBulk]
      | map a => simp [Rows.uptoBulk]
      | held a => simp [Rows.uptoBulk]
    simp only [Rows.uptoBulkAll, List.length_cons]
    omega
theorem spots_open {H : Type} {enc : TypeId × Value → H} {W : World} {a0 : Option Addr} {n0 c0 fuel : Nat} {d : DataW H} {pl : List MemPlace} (hf : DataW.trod enc Try.prog W 0 (fun _ => true) true fuel 47 (Value.slice a0 n0 c0).cells.toList = some (d, pl)) (hk : Rows.uptoBulk d ≤ 1048576) :
    ∃ xs, Spots W (.slice a0 n0 c0) xs := by
  rcases Deep.open_slice Try.underlying47 hf with ⟨hcs, _⟩ | ⟨a, len, cap, m, n, D, Pl, hcs, _, hl, hm, hmm, hx, hel⟩
  · have e : Value.slice a0 n0 c0 = Value.slice none 0 0 := by simpa [Value.cells] using hcs
    injection e with e1 e2 e3
    subst e1 e2 e3
    exact ⟨[], ⟨⟨none, 0, rfl, fun h => absurd h (by simp)⟩, fun p h => (by cases h), by simp⟩⟩
  · have e : Value.slice a0 n0 c0 = Value.slice (some a) len cap := by simpa [Value.cells] using hcs
    injection e with e1 e2 e3
    subst e1 e2 e3
    simp only [if_true] at hmm
    simp only [Prod.mk.injEq] at hx
    have each : ∀ i, i < m → ∃ p : Spt, W.cell? (a.add (i * 5)) = some (iv p.ax) ∧ W.cell? (a.add (i * 5 + 1)) = some (iv p.ay) ∧ W.cell? (a.add (i * 5 + 2)) = some (iv p.h) ∧ W.cell? (a.add (i * 5 + 3)) = some (iv p.x) ∧ W.cell? (a.add (i * 5 + 4)) = some (iv p.y) ∧ p.ok := by
      intro i hi
      obtain ⟨cs', h1, h2⟩ := hel i hi
      rw [kcells49] at h1
      obtain ⟨_, hlen, hcell⟩ := World.cells?_some h1
      match cs', hlen with
      | [x0, x1, x2, x3, x4], _ =>
        obtain ⟨p, rfl, rfl, rfl, rfl, rfl, hok⟩ := spot_cells h2
        have g0 := hcell 0 (by omega)
        have g1 := hcell 1 (by omega)
        have g2 := hcell 2 (by omega)
        have g3 := hcell 3 (by omega)
        have g4 := hcell 4 (by omega)
        rw [Deep.add_add] at g0 g1 g2 g3 g4
        exact ⟨p, by simpa using g0, by simpa using g1, by simpa using g2, by simpa using g3, by simpa using g4, hok⟩
    obtain ⟨q, hq⟩ := Deep.choose_lt each
    have hn : n0 ≤ 1048576 := by
      have e : d = _ := hx.1
      subst e
      have := bulk_len (H := H) ((List.range n0).map D)
      simp only [Rows.uptoBulk] at hk
      simp at this
      omega
    refine ⟨(List.range n0).map q, ⟨⟨some a, c0, by simp, fun hn0 => ?_⟩, fun p hp => ?_, by simpa using hn⟩⟩
    · obtain ⟨b, off, spot⟩ := a
      have hspot : spot = none := by simpa [Addr.add] using World.cell?_spot (hq 0 (by simp at hn0; omega)).1
      subst hspot
      refine ⟨b, off, rfl, fun j p hj => ?_⟩
      have hj2 : j < n0 := by
        have := (List.getElem?_eq_some_iff.1 hj).1
        simpa using this
      have e : q j = p := by
        rw [List.getElem?_map, List.getElem?_range hj2] at hj
        simpa using hj
      have h3 := hq j (by omega)
      rw [e] at h3
      simp only [add_plain] at h3
      exact ⟨h3.1, h3.2.1, h3.2.2.1, h3.2.2.2.1, h3.2.2.2.2.1⟩
    · obtain ⟨j, hj, rfl⟩ := List.mem_map.1 hp
      rw [List.mem_range] at hj
      exact (hq j (by omega)).2.2.2.2.2
end Go.Proofs.Ytglnmmifedlgmaa
