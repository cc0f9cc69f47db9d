import Derived.Test.YtkdjcknikhgfkabGreatDoorX8
import Derived.Test.YtkdjcknikhgfkabGreatDoorX37
import Derived.WalkKit
import Derived.ProofKit
import Derived.OpenShut
import Derived.ChangeMaps5
import Derived.SizedLaws
import Derived.JoinedCond
import Derived.Deep.Slices
import Derived.Deep.Strs
import Derived.Deep.CondSized
/- for the rows: views as they are handed in -/
namespace Go.Proofs.YtkdjcknikhgfkabGreatDoor.Pk.Sn
open Go Go.ChangeShapes Go.WideShapes Go.ChangeAt Go.RowKit

abbrev I64 (x : Int) : Prop := -9223372036854775808 ≤ x ∧ x ≤ 9223372036854775807
set_option maxRecDepth 100000 in
theorem laidOut : laidOutB Tryz.prog = true := by kernel_rfl
/-- a list as it is read -/
def Ls {α : Type} (ec : α → List Value) (k : Nat) (W : World) (v : Value) (L : List α) : Prop := ∃ a c, v = .slice a L.length c ∧ (0 < L.length → ∃ b o, a = some ⟨b, o, none⟩ ∧ ∀ j x, L[j]? = some x → W.rangeAt b (o + j * k) (ec x))
structure CrOk (c : Cr) : Prop where
  n : c.n.size ≤ 1048576
  p : I64 c.p
  x : I64 c.x
  y : I64 c.y
  u : I64 c.u
  v : I64 c.v
  h : I64 c.h
  he : I64 c.he
  en : I64 c.en
  am : I64 c.am
  co : I64 c.co
  wt : I64 c.wt
  sp : I64 c.sp
  sc : I64 c.sc
structure SnOk (s : Sn) : Prop where
  k : I64 s.k
  i : I64 s.i
  x : I64 s.x
  y : I64 s.y
  h : I64 s.h
theorem in_wf {x : Int} (h : (Lit.int .i64 x).wf = true) : I64 x := by
  have h2 : IntKind.i64.min ≤ x ∧ x ≤ IntKind.i64.max := by simpa [Lit.wf] using h
  have e1 : IntKind.i64.min = -9223372036854775808 := by decide
  have e2 : IntKind.i64.max = 9223372036854775807 := by decide
  rw [e1, e2] at h2
  exact h2
theorem in_u64 {a : Int} (h : (Lit.int .u64 a).wf = true) : 0 ≤ a ∧ a ≤ 18446744073709551615 := by
  have m1 : IntKind.u64.min = 0 := by decide
  have m2 : IntKind.u64.max = 18446744073709551615 := by decide
  simp [Lit.wf, m1, m2] at h
  omega
set_option maxRecDepth 100000 in
theorem kc2 : Tryz.prog.cellsOf 2 = 1 := by kernel_rfl
set_option maxRecDepth 100000 in
theorem kc3 : Tryz.prog.cellsOf 3 = 1 := by kernel_rfl
set_option maxRecDepth 100000 in
theorem kc9 : Tryz.prog.cellsOf 9 = 1 := by kernel_rfl
set_option maxRecDepth 100000 in
theorem kc22 : Tryz.prog.cellsOf 22 = 1 := by kernel_rfl
set_option maxRecDepth 100000 in
theorem kcV : Tryz.prog.cellsOf 24 = 2 := by kernel_rfl
set_option maxRecDepth 100000 in
theorem kcC : Tryz.prog.cellsOf 26 = 14 := by kernel_rfl
set_option maxRecDepth 100000 in
theorem kcL : Tryz.prog.cellsOf 27 = 1 := by kernel_rfl
set_option maxRecDepth 100000 in
theorem kcS : Tryz.prog.cellsOf 38 = 5 := by kernel_rfl
theorem vec_cells {H : Type} {enc : TypeId × Value → H} {W : World} {fuel : Nat} {c0 c1 : Value} {x : DataW H × List MemPlace} (hf : DataW.trod enc Tryz.prog W 0 (fun _ => true) true fuel 24 [c0, c1] = some x) :
    ∃ a b : Int, c0 = .int .i64 a ∧ c1 = .int .i64 b ∧ I64 a ∧ I64 b := by
  obtain ⟨xs, n, _, hx, hlen, hxl, hfl⟩ := DataW.trod_struct Tryz.underlying24 hf
  match xs, (show xs.length = 2 from hxl) with
  | [y0, y1], _ =>
  have t0 : DataW.trod enc Tryz.prog W 0 (fun _ => true) true n 2 (([c0, c1].drop 0).take (Tryz.prog.cellsOf 2)) = some y0 := hfl 0 _ rfl
  rw [kc2] at t0
  have t1 : DataW.trod enc Tryz.prog W 0 (fun _ => true) true n 2 (([c0, c1].drop 1).take (Tryz.prog.cellsOf 2)) = some y1 := hfl 1 _ rfl
  rw [kc2] at t1
  obtain ⟨x0, e0, f0, m0⟩ := DataW.trod_int Tryz.underlying2 t0
  obtain rfl : c0 = _ := by simpa using e0
  obtain ⟨x1, e1, f1, m1⟩ := DataW.trod_int Tryz.underlying2 t1
  obtain rfl : c1 = _ := by simpa using e1
  exact ⟨x0, x1, rfl, rfl, in_wf m0, in_wf m1⟩
theorem bulk_one {H : Type} (d : DataW H) : 1 ≤ Rows.uptoBulk d := by
  cases d with
  | lit l => cases l <;> simp [Rows.uptoBulk]
  | nil => simp [Rows.uptoBulk]
  | ptr d => simp [Rows.uptoBulk]
  | slice e s => simp [Rows.uptoBulk]
  | agg p => simp [Rows.uptoBulk]
  | iface t d => simp [Rows.uptoBulk]
  | map e => simp [Rows.uptoBulk]
  | held h => simp [Rows.uptoBulk]
theorem bulk_len {H : Type} (l : List (DataW H)) : l.length ≤ Rows.uptoBulkAll l := by
  induction l with
  | nil => simp
  | cons x r ih => have := bulk_one x; simp only [Rows.uptoBulkAll, List.length_cons]; omega
theorem bulk_mem {H : Type} : ∀ {l : List (DataW H)} {d : DataW H}, d ∈ l → Rows.uptoBulk d ≤ Rows.uptoBulkAll l
  | [], _, h => by cases h
  | x :: r, d, h => by
    simp only [Rows.uptoBulkAll]
    rcases List.mem_cons.1 h with rfl | h
    · omega
    · have := bulk_mem h; omega
set_option maxRecDepth 100000 in
theorem car_cells {H : Type} {enc : TypeId × Value → H} {W : World} {fuel : Nat} {l : List Value} {d : DataW H} {pl : List MemPlace} (hf : DataW.trod enc Tryz.prog W 0 (fun _ => true) true fuel 26 l = some (d, pl)) (hb : Rows.uptoBulk d ≤ 1048576) : ∃ c : Cr, l = crv c ∧ CrOk c := by
  obtain ⟨xs, n, _, hx, hlen0, hxl, hfl⟩ := DataW.trod_struct Tryz.underlying26 hf
  have hlen : l.length = 14 := hlen0.trans (by kernel_rfl)
  clear hf hlen0
  match l, hlen with
  | [c0, c1, c2, c3, c4, c5, c6, c7, c8, c9, c10, c11, c12, c13], _ =>
  match xs, (show xs.length = 12 from hxl) with
  | [y0, y1, y2, y3, y4, y5, y6, y7, y8, y9, y10, y11], _ =>
  have t0 : DataW.trod enc Tryz.prog W 0 (fun _ => true) true n 3 (([c0, c1, c2, c3, c4, c5, c6, c7, c8, c9, c10, c11, c12, c13].drop 0).take (Tryz.prog.cellsOf 3)) = some y0 := hfl 0 _ rfl
  rw [kc3] at t0
  have t1 : DataW.trod enc Tryz.prog W 0 (fun _ => true) true n 9 (([c0, c1, c2, c3, c4, c5, c6, c7, c8, c9, c10, c11, c12, c13].drop 1).take (Tryz.prog.cellsOf 9)) = some y1 := hfl 1 _ rfl
  rw [kc9] at t1
  have t2 : DataW.trod enc Tryz.prog W 0 (fun _ => true) true n 24 (([c0, c1, c2, c3, c4, c5, c6, c7, c8, c9, c10, c11, c12, c13].drop 2).take (Tryz.prog.cellsOf 24)) = some y2 := hfl 2 _ rfl
  rw [kcV] at t2
  have t3 : DataW.trod enc Tryz.prog W 0 (fun _ => true) true n 24 (([c0, c1, c2, c3, c4, c5, c6, c7, c8, c9, c10, c11, c12, c13].drop 4).take (Tryz.prog.cellsOf 24)) = some y3 := hfl 3 _ rfl
  rw [kcV] at t3
  have t4 : DataW.trod enc Tryz.prog W 0 (fun _ => true) true n 3 (([c0, c1, c2, c3, c4, c5, c6, c7, c8, c9, c10, c11, c12, c13].drop 6).take (Tryz.prog.cellsOf 3)) = some y4 := hfl 4 _ rfl
  rw [kc3] at t4
  have t5 : DataW.trod enc Tryz.prog W 0 (fun _ => true) true n 3 (([c0, c1, c2, c3, c4, c5, c6, c7, c8, c9, c10, c11, c12, c13].drop 7).take (Tryz.prog.cellsOf 3)) = some y5 := hfl 5 _ rfl
  rw [kc3] at t5
  have t6 : DataW.trod enc Tryz.prog W 0 (fun _ => true) true n 3 (([c0, c1, c2, c3, c4, c5, c6, c7, c8, c9, c10, c11, c12, c13].drop 8).take (Tryz.prog.cellsOf 3)) = some y6 := hfl 6 _ rfl
  rw [kc3] at t6
  have t7 : DataW.trod enc Tryz.prog W 0 (fun _ => true) true n 3 (([c0, c1, c2, c3, c4, c5, c6, c7, c8, c9, c10, c11, c12, c13].drop 9).take (Tryz.prog.cellsOf 3)) = some y7 := hfl 7 _ rfl
  rw [kc3] at t7
  have t8 : DataW.trod enc Tryz.prog W 0 (fun _ => true) true n 3 (([c0, c1, c2, c3, c4, c5, c6, c7, c8, c9, c10, c11, c12, c13].drop 10).take (Tryz.prog.cellsOf 3)) = some y8 := hfl 8 _ rfl
  rw [kc3] at t8
  have t9 : DataW.trod enc Tryz.prog W 0 (fun _ => true) true n 3 (([c0, c1, c2, c3, c4, c5, c6, c7, c8, c9, c10, c11, c12, c13].drop 11).take (Tryz.prog.cellsOf 3)) = some y9 := hfl 9 _ rfl
  rw [kc3] at t9
  have t10 : DataW.trod enc Tryz.prog W 0 (fun _ => true) true n 3 (([c0, c1, c2, c3, c4, c5, c6, c7, c8, c9, c10, c11, c12, c13].drop 12).take (Tryz.prog.cellsOf 3)) = some y10 := hfl 10 _ rfl
  rw [kc3] at t10
  have t11 : DataW.trod enc Tryz.prog W 0 (fun _ => true) true n 3 (([c0, c1, c2, c3, c4, c5, c6, c7, c8, c9, c10, c11, c12, c13].drop 13).take (Tryz.prog.cellsOf 3)) = some y11 := hfl 11 _ rfl
  rw [kc3] at t11
  obtain ⟨x0, e0, f0, m0⟩ := DataW.trod_int Tryz.underlying3 t0
  obtain rfl : c0 = _ := by simpa using e0
  obtain ⟨x1, e1, f1, m1⟩ := DataW.trod_string Tryz.underlying9 t1
  obtain rfl : c1 = _ := by simpa using e1
  obtain ⟨a2, b2, rfl, rfl, g2, h2⟩ := vec_cells t2
  obtain ⟨a3, b3, rfl, rfl, g3, h3⟩ := vec_cells t3
  obtain ⟨x4, e4, f4, m4⟩ := DataW.trod_int Tryz.underlying3 t4
  obtain rfl : c6 = _ := by simpa using e4
  obtain ⟨x5, e5, f5, m5⟩ := DataW.trod_int Tryz.underlying3 t5
  obtain rfl : c7 = _ := by simpa using e5
  obtain ⟨x6, e6, f6, m6⟩ := DataW.trod_int Tryz.underlying3 t6
  obtain rfl : c8 = _ := by simpa using e6
  obtain ⟨x7, e7, f7, m7⟩ := DataW.trod_int Tryz.underlying3 t7
  obtain rfl : c9 = _ := by simpa using e7
  obtain ⟨x8, e8, f8, m8⟩ := DataW.trod_int Tryz.underlying3 t8
  obtain rfl : c10 = _ := by simpa using e8
  obtain ⟨x9, e9, f9, m9⟩ := DataW.trod_int Tryz.underlying3 t9
  obtain rfl : c11 = _ := by simpa using e9
  obtain ⟨x10, e10, f10, m10⟩ := DataW.trod_int Tryz.underlying3 t10
  obtain rfl : c12 = _ := by simpa using e10
  obtain ⟨x11, e11, f11, m11⟩ := DataW.trod_int Tryz.underlying3 t11
  obtain rfl : c13 = _ := by simpa using e11
  have hd : d = .agg [y0.1, y1.1, y2.1, y3.1, y4.1, y5.1, y6.1, y7.1, y8.1, y9.1, y10.1, y11.1] := congrArg Prod.fst hx
  rw [hd] at hb
  simp only [Rows.uptoBulk, Rows.uptoBulkAll, f1] at hb
  have e : x1.data.toList.length = x1.size := by rw [Array.length_toList]; rfl
  exact ⟨⟨x0, x1, a2, b2, a3, b3, x4, x5, x6, x7, x8, x9, x10, x11⟩, rfl, ⟨by show x1.size ≤ _; omega, in_wf m0, g2, h2, g3, h3, in_wf m4, in_wf m5, in_wf m6, in_wf m7, in_wf m8, in_wf m9, in_wf m10, in_wf m11⟩⟩
set_option maxRecDepth 100000 in
theorem sn_cells {H : Type} {enc : TypeId × Value → H} {W : World} {fuel : Nat} {l : List Value} {d : DataW H} {pl : List MemPlace} (hf : DataW.trod enc Tryz.prog W 0 (fun _ => true) true fuel 38 l = some (d, pl)) : ∃ c : Sn, l = Sn.cs c ∧ SnOk c := by
  obtain ⟨xs, n, _, hx, hlen0, hxl, hfl⟩ := DataW.trod_struct Tryz.underlying38 hf
  have hlen : l.length = 5 := hlen0.trans (by kernel_rfl)
  clear hf hlen0
  match l, hlen with
  | [c0, c1, c2, c3, c4], _ =>
  match xs, (show xs.length = 4 from hxl) with
  | [y0, y1, y2, y3], _ =>
  have t0 : DataW.trod enc Tryz.prog W 0 (fun _ => true) true n 3 (([c0, c1, c2, c3, c4].drop 0).take (Tryz.prog.cellsOf 3)) = some y0 := hfl 0 _ rfl
  rw [kc3] at t0
  have t1 : DataW.trod enc Tryz.prog W 0 (fun _ => true) true n 3 (([c0, c1, c2, c3, c4].drop 1).take (Tryz.prog.cellsOf 3)) = some y1 := hfl 1 _ rfl
  rw [kc3] at t1
  have t2 : DataW.trod enc Tryz.prog W 0 (fun _ => true) true n 24 (([c0, c1, c2, c3, c4].drop 2).take (Tryz.prog.cellsOf 24)) = some y2 := hfl 2 _ rfl
  rw [kcV] at t2
  have t3 : DataW.trod enc Tryz.prog W 0 (fun _ => true) true n 3 (([c0, c1, c2, c3, c4].drop 4).take (Tryz.prog.cellsOf 3)) = some y3 := hfl 3 _ rfl
  rw [kc3] at t3
  obtain ⟨x0, e0, f0, m0⟩ := DataW.trod_int Tryz.underlying3 t0
  obtain rfl : c0 = _ := by simpa using e0
  obtain ⟨x1, e1, f1, m1⟩ := DataW.trod_int Tryz.underlying3 t1
  obtain rfl : c1 = _ := by simpa using e1
  obtain ⟨a2, b2, rfl, rfl, g2, h2⟩ := vec_cells t2
  obtain ⟨x3, e3, f3, m3⟩ := DataW.trod_int Tryz.underlying3 t3
  obtain rfl : c4 = _ := by simpa using e3
  have _hd : d = .agg [y0.1, y1.1, y2.1, y3.1] := congrArg Prod.fst hx
  exact ⟨⟨x0, x1, a2, b2, x3⟩, rfl, ⟨in_wf m0, in_wf m1, g2, h2, in_wf m3⟩⟩
instance : Inhabited Sn := ⟨⟨0, 0, 0, 0, 0⟩⟩
/-- a list of structs as it is handed in -/
theorem lst_cells {α : Type} [Inhabited α] {ec : α → List Value} {k : Nat} {t e : TypeId} {Ok : α → Prop} (ht : Tryz.prog.underlying t = some (.slice e)) (hk : Tryz.prog.cellsOf e = k) (hkpos : 0 < k) (hkl : ∀ x, (ec x).length = k) {H : Type} {enc : TypeId × Value → H} {W : World} {fuel : Nat} {l : List Value} {d : DataW H} {pl : List MemPlace}
    (hel : ∀ (fuel : Nat) (cs : List Value) (d' : DataW H) (pl' : List MemPlace), DataW.trod enc Tryz.prog W 0 (fun _ => true) true fuel e cs = some (d', pl') → Rows.uptoBulk d' ≤ Rows.uptoBulk d → ∃ o, cs = ec o ∧ Ok o) (hf : DataW.trod enc Tryz.prog W 0 (fun _ => true) true fuel t l = some (d, pl)) :
    ∃ v L, l = [v] ∧ Ls ec k W v L ∧ (∀ x ∈ L, Ok x) ∧ L.length + 1 ≤ Rows.uptoBulk d := by
  rcases Deep.open_slice ht hf with ⟨hcs, hx⟩ | ⟨a, len, cap, m, n, D, Pl, hcs, _, hl, hm, hmm, hx, hel2⟩
  · have hd : d = .nil := congrArg Prod.fst hx
    subst hd
    exact ⟨_, [], hcs, ⟨none, 0, rfl, fun h => by cases h⟩, fun o ho => (by cases ho), by simp [Rows.uptoBulk]⟩
  · simp only [if_true] at hmm
    have hd : d = .slice ((List.range len).map D) ((List.range (m - len)).map fun j => D (len + j)) := congrArg Prod.fst hx
    have hbd : ∀ i, i < len → Rows.uptoBulk (D i) ≤ Rows.uptoBulk d := fun i hi => by
      have := bulk_mem (List.mem_map.2 ⟨i, List.mem_range.2 hi, rfl⟩ : D i ∈ (List.range len).map D)
      rw [hd]
      simp only [Rows.uptoBulk]
      omega
    have each : ∀ i, i < len → ∃ o : α, Ok o ∧ ∀ j v, (ec o)[j]? = some v → W.cell? (a.add (i * k + j)) = some v := by
      intro i hi
      obtain ⟨cs', h1, h2⟩ := hel2 i (by omega)
      rw [hk] at h1
      obtain ⟨_, hlen, hcell⟩ := World.cells?_some h1
      obtain ⟨c, rfl, h3⟩ := hel _ _ _ _ h2 (hbd i hi)
      refine ⟨c, h3, fun j v hv => ?_⟩
      have hj : j < k := by have := (List.getElem?_eq_some_iff.1 hv).1; rw [hkl] at this; exact this
      have g := hcell j (by simpa [hkl] using hj)
      rw [Deep.add_add] at g
      rw [g]
      exact hv
    have hq0 : ∀ i, ∃ o : α, i < len → Ok o ∧ ∀ j v, (ec o)[j]? = some v → W.cell? (a.add (i * k + j)) = some v := fun i => by
      by_cases hi : i < len
      · obtain ⟨o, ho⟩ := each i hi
        exact ⟨o, fun _ => ho⟩
      · exact ⟨default, fun q => absurd q hi⟩
    obtain ⟨q, hq⟩ := Classical.axiomOfChoice hq0
    subst hd
    refine ⟨_, (List.range len).map q, hcs, ⟨some a, cap, by simp, fun hn => ?_⟩, fun o ho => ?_, ?_⟩
    · have hn : 0 < len := by simpa using hn
      obtain ⟨b, off, spot⟩ := a
      by_cases hk0 : 0 < k
      · have hspot : spot = none := by
          have h0 : 0 < (ec (q 0)).length := by rw [hkl]; exact hk0
          simpa [Addr.add] using World.cell?_spot ((hq 0 (by omega)).2 0 _ (List.getElem?_eq_getElem h0))
        subst hspot
        refine ⟨b, off, rfl, fun j o hj => ?_⟩
        have hj2 : j < len := by
          have := (List.getElem?_eq_some_iff.1 hj).1
          simpa using this
        have e : q j = o := by
          rw [List.getElem?_map, List.getElem?_range hj2] at hj
          simpa using hj
        have p := (hq j (by omega)).2
        rw [e] at p
        intro r v hv
        have := p r v hv
        rw [Addr.add_mid] at this
        rw [Nat.add_assoc]; exact this
      · exact absurd hk0 (by
          have := hkpos
          omega)
    · obtain ⟨i, hi, rfl⟩ := List.mem_map.1 ho
      exact (hq i (by have := List.mem_range.1 hi; omega)).1
    · have := bulk_len ((List.range len).map D)
      simp only [Rows.uptoBulk, List.length_map, List.length_range] at this ⊢
      omega
def vwv (t : Int) (c : Cr) (vs : Value) : List Value := uv t :: (crv c ++ [vs])
set_option maxRecDepth 100000 in
/-- a view as it is handed in -/
theorem vw_open {H : Type} {enc : TypeId × Value → H} {W : World} {base fuel : Nat} {v : Value} {d : DataW H} {pl : List MemPlace} (hv : Value.okWide Tryz.prog W .any base 29 v) (hf : DataW.trod enc Tryz.prog W 0 (fun _ => true) true fuel 29 v.cells.toList = some (d, pl)) (hb : Rows.uptoBulk d ≤ 1048576) :
    ∃ (tick : Int) (c : Cr) (vs : Value) (L : List Sn), v = .agg (vwv tick c vs).toArray ∧ (0 ≤ tick ∧ tick ≤ 18446744073709551615) ∧ CrOk c ∧ Ls Sn.cs 5 W vs L ∧ (∀ x ∈ L, SnOk x) ∧ L.length + 1 ≤ 1048576 := by
  obtain ⟨cs, rfl, _⟩ := okWide_struct Tryz.underlying29 hv
  simp only [Value.cells] at hf
  have hcs : cs = cs.toList.toArray := by simp
  clear hv
  generalize cs.toList = l at hf hcs
  subst hcs
  obtain ⟨xs, n, _, hx, hlen0, hxl, hfl⟩ := DataW.trod_struct Tryz.underlying29 hf
  have hlen : l.length = 16 := hlen0.trans (by kernel_rfl)
  clear hf hlen0
  match l, hlen with
  | [c0, c1, c2, c3, c4, c5, c6, c7, c8, c9, c10, c11, c12, c13, c14, c15], _ =>
  match xs, (show xs.length = 3 from hxl) with
  | [y0, y1, y2], _ =>
  have t0 : DataW.trod enc Tryz.prog W 0 (fun _ => true) true n 22 (([c0, c1, c2, c3, c4, c5, c6, c7, c8, c9, c10, c11, c12, c13, c14, c15].drop 0).take (Tryz.prog.cellsOf 22)) = some y0 := hfl 0 _ rfl
  rw [kc22] at t0
  have t1 : DataW.trod enc Tryz.prog W 0 (fun _ => true) true n 26 (([c0, c1, c2, c3, c4, c5, c6, c7, c8, c9, c10, c11, c12, c13, c14, c15].drop 1).take (Tryz.prog.cellsOf 26)) = some y1 := hfl 1 _ rfl
  rw [kcC] at t1
  have t2 : DataW.trod enc Tryz.prog W 0 (fun _ => true) true n 27 (([c0, c1, c2, c3, c4, c5, c6, c7, c8, c9, c10, c11, c12, c13, c14, c15].drop 15).take (Tryz.prog.cellsOf 27)) = some y2 := hfl 2 _ rfl
  rw [kcL] at t2
  obtain ⟨x0, e0, f0, m0⟩ := DataW.trod_int Tryz.underlying22 t0
  obtain rfl : c0 = _ := by simpa using e0
  have hd : d = .agg [y0.1, y1.1, y2.1] := congrArg Prod.fst hx
  obtain ⟨y1d, y1p⟩ := y1
  obtain ⟨y2d, y2p⟩ := y2
  rw [hd] at hb
  simp only [Rows.uptoBulk, Rows.uptoBulkAll] at hb
  obtain ⟨c, hc, ok⟩ := car_cells t1 (by omega)
  obtain ⟨vs, LS, hvs, k1, k2, k3⟩ := lst_cells (α := Sn) (ec := Sn.cs) (k := 5) (Ok := SnOk) underSl kcS (by decide) (fun _ => rfl) (fun f cs d' pl' hq hb' => sn_cells hq) t2
  obtain rfl : c15 = vs := by simpa using hvs
  have hc2 : [c1, c2, c3, c4, c5, c6, c7, c8, c9, c10, c11, c12, c13, c14] = crv c := by simpa using hc
  refine ⟨x0, c, c15, LS, ?_, in_u64 m0, ok, k1, k2, by omega⟩
  rw [show vwv x0 c c15 = uv x0 :: (crv c ++ [c15]) from rfl, ← hc2]
  rfl

set_option maxRecDepth 100000 in
/-- a view as it is handed in, as a view -/
theorem view_open {H : Type} {enc : TypeId × Value → H} {W : World} {base fuel : Nat} {v : Value} {d : DataW H} {pl : List MemPlace} (hv : Value.okWide Tryz.prog W .any base 29 v) (hf : DataW.trod enc Tryz.prog W 0 (fun _ => true) true fuel 29 v.cells.toList = some (d, pl)) (hb : Rows.uptoBulk d ≤ 1048576) :
    ∃ (V : Vw) (a : Option Addr) (c : Nat), v = .agg (V.cs a c).toArray ∧ V.ok ∧ SeenR W a V.S ∧ V.S.length ≤ 1048576 ∧ V.n.size ≤ 1048576 := by
  obtain ⟨tk, c, vs, L, rfl, ht, hc, ⟨a, cp, rfl, hL⟩, hO, hn⟩ := vw_open hv hf hb
  refine ⟨⟨tk, c.p, c.n, c.x, c.y, c.u, c.v, c.h, c.he, c.en, c.am, c.co, c.wt, c.sp, c.sc, L⟩, a, cp, rfl, ⟨?_, ?_⟩, ?_, by show L.length ≤ _; omega, hc.n⟩
  · have i (x : Int) (h : I64 x) : -9223372036854775808 ≤ x ∧ x < 9223372036854775808 := ⟨h.1, by have := h.2; omega⟩
    refine ⟨⟨ht.1, by show tk < 18446744073709551616; have := ht.2; omega⟩, i _ hc.p, ?_, i _ hc.x, i _ hc.y, i _ hc.u, i _ hc.v, i _ hc.h, i _ hc.he, i _ hc.en, i _ hc.am, i _ hc.co, i _ hc.wt, i _ hc.sp, i _ hc.sc, ?_, trivial⟩
    · show (sl c.n).length ≤ _
      rw [sl_len]; have := hc.n; omega
    · show -9223372036854775808 ≤ ((L.length : Nat) : Int) ∧ ((L.length : Nat) : Int) < 9223372036854775808
      omega
  · intro s hs
    have h := hO s hs
    have i (x : Int) (h : I64 x) : -9223372036854775808 ≤ x ∧ x < 9223372036854775808 := ⟨h.1, by have := h.2; omega⟩
    exact ⟨i _ h.k, i _ h.i, i _ h.x, i _ h.y, i _ h.h, trivial⟩
  · intro hne
    obtain ⟨b, o, e, hr⟩ := hL (List.length_pos_iff.2 hne)
    refine ⟨b, o, e, fun j s hj q z hz => ?_⟩
    have := hr j s hj q z hz
    rw [Nat.mul_comm j 5] at this
    exact this
theorem u8_of {x : Int} (h : (Lit.int .u8 x).wf = true) : ∃ u : UInt8, x = (u.toNat : Int) := by
  have m1 : IntKind.u8.min = 0 := by decide
  have m2 : IntKind.u8.max = 255 := by decide
  simp [Lit.wf, m1, m2] at h
  refine ⟨UInt8.ofNat x.toNat, ?_⟩
  rw [UInt8.toNat_ofNat']
  omega
theorem in_i {x : Int} (h : (Lit.int .i64 x).wf = true) : -9223372036854775808 ≤ x ∧ x < 9223372036854775808 := by
  have := in_wf h
  exact ⟨this.1, by have := this.2; omega⟩
theorem str_bulk {H : Type} (s : ByteArray) : Rows.uptoBulk (DataW.lit (H := H) (.string s.data.toList)) = s.size + 1 := by
  have e : s.data.toList.length = s.size := sl_len s
  simp only [Rows.uptoBulk, e]
end Go.Proofs.YtkdjcknikhgfkabGreatDoor.Pk.Sn
