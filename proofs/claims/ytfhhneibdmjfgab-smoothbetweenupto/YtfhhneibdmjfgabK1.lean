/- for the rows: views as they are handed in -/
import Derived.Test.YtfhhneibdmjfgabK0
import Derived.Test.YtfhhneibdmjfgabB2
import Derived.Deep.Strs
import Derived.JoinedCond
import Derived.Deep.CondSized
namespace Go.Proofs.Ytfhhneibdmjfgab
open Go Go.ChangeShapes Go.WideShapes Go.ChangeAt Go.RowKit Sm

theorem in_wf {x : Int} (h : (Lit.int .i64 x).wf = true) : I64 x := by
  have h2 : IntKind.i64.min ≤ x ∧ x ≤ IntKind.i64.max := by simpa [Lit.wf] using h
  have e1 : IntKind.i64.min = -9223372036854775808 := by decide
  have e2 : IntKind.i64.max = 9223372036854775807 := by decide
  rw [e1, e2] at h2
  exact h2
theorem kc22 : Try.prog.cellsOf 22 = 1 := by kernel_rfl
theorem kc26 : Try.prog.cellsOf 26 = 14 := by kernel_rfl
theorem kc27 : Try.prog.cellsOf 27 = 1 := by kernel_rfl
theorem kc33 : Try.prog.cellsOf 39 = 5 := by kernel_rfl
instance : Inhabited Sn := ⟨zN⟩
def Ls {α : Type} (ec : α → List Value) (k : Nat) (W : World) (v : Value) (L : List α) : Prop := ∃ a c, v = .slice a L.length c ∧ (0 < L.length → ∃ b o, a = some ⟨b, o, none⟩ ∧ ∀ j x, L[j]? = some x → W.rangeAt b (o + j * k) (ec x))
theorem snv_len (s : Sn) : (snv s).length = 5 := rfl
theorem bulk_one {H : Type} (d : DataW H) : 1 ≤ Rows.uptoBulk d := by
  cases d with
  | lit l => cases l <;> simp [Rows.uptoBulk]
  | nil => simp [Rows.uptoBulk]
  | ptr d => simp [Rows.uptoBulk]
  | slice e s => simp [Rows.uptoBulk]
  | agg p => simp [Rows.uptoBulk]
  | iface t d => simp [Rows.uptoBulk]
  | map e => simp [Rows.uptoBulk]
  | held h => simp [Rows.uptoBulk]
theorem bulk_len {H : Type} (l : List (DataW H)) : l.length ≤ Rows.uptoBulkAll l := by
  induction l with
  | nil => simp
  | cons x r ih => have := bulk_one x; simp only [Rows.uptoBulkAll, List.length_cons]; omega
theorem bulk_mem {H : Type} : ∀ {l : List (DataW H)} {d : DataW H}, d ∈ l → Rows.uptoBulk d ≤ Rows.uptoBulkAll l
  | [], _, h => by cases h
  | x :: r, d, h => by
    simp only [Rows.uptoBulkAll]
    rcases List.mem_cons.1 h with rfl | h
    · omega
    · have := bulk_mem h; omega
theorem vec_in {H : Type} {enc : TypeId × Value → H} {W : World} {fuel : Nat} {c0 c1 : Value} {x : DataW H × List MemPlace} (hf : DataW.trod enc Try.prog W 0 (fun _ => true) true fuel 24 [c0, c1] = some x) :
    ∃ a b : Int, c0 = .int .i64 a ∧ c1 = .int .i64 b ∧ I64 a ∧ I64 b := by
  obtain ⟨xs, n, _, hx, hlen, hxl, hfl⟩ := DataW.trod_struct Try.underlying24 hf
  match xs, (show xs.length = 2 from hxl) with
  | [y0, y1], _ =>
  have t0 : DataW.trod enc Try.prog W 0 (fun _ => true) true n 2 (([c0, c1].drop 0).take (Try.prog.cellsOf 2)) = some y0 := hfl 0 _ rfl
  rw [kc2] at t0
  have t1 : DataW.trod enc Try.prog W 0 (fun _ => true) true n 2 (([c0, c1].drop 1).take (Try.prog.cellsOf 2)) = some y1 := hfl 1 _ rfl
  rw [kc2] at t1
  obtain ⟨x0, e0, f0, m0⟩ := DataW.trod_int Try.underlying2 t0
  obtain rfl : c0 = _ := by simpa using e0
  obtain ⟨x1, e1, f1, m1⟩ := DataW.trod_int Try.underlying2 t1
  obtain rfl : c1 = _ := by simpa using e1
  exact ⟨x0, x1, rfl, rfl, in_wf m0, in_wf m1⟩
set_option maxRecDepth 100000 in
theorem sn_open {H : Type} {enc : TypeId × Value → H} {W : World} {fuel : Nat} {l : List Value} {d : DataW H} {pl : List MemPlace} (hf : DataW.trod enc Try.prog W 0 (fun _ => true) true fuel 39 l = some (d, pl)) : ∃ c : Sn, l = snv c ∧ SnOk c := by
  obtain ⟨xs, n, _, hx, hlen0, hxl, hfl⟩ := DataW.trod_struct Try.underlying39 hf
  have hlen : l.length = 5 := hlen0.trans (by kernel_rfl)
  clear hf hlen0
  match l, hlen with
  | [c0, c1, c2, c3, c4], _ =>
  match xs, (show xs.length = 4 from hxl) with
  | [y0, y1, y2, y3], _ =>
  have t0 : DataW.trod enc Try.prog W 0 (fun _ => true) true n 3 (([c0, c1, c2, c3, c4].drop 0).take (Try.prog.cellsOf 3)) = some y0 := hfl 0 _ rfl
  rw [kc3] at t0
  have t1 : DataW.trod enc Try.prog W 0 (fun _ => true) true n 3 (([c0, c1, c2, c3, c4].drop 1).take (Try.prog.cellsOf 3)) = some y1 := hfl 1 _ rfl
  rw [kc3] at t1
  have t2 : DataW.trod enc Try.prog W 0 (fun _ => true) true n 24 (([c0, c1, c2, c3, c4].drop 2).take (Try.prog.cellsOf 24)) = some y2 := hfl 2 _ rfl
  rw [kc24] at t2
  have t3 : DataW.trod enc Try.prog W 0 (fun _ => true) true n 3 (([c0, c1, c2, c3, c4].drop 4).take (Try.prog.cellsOf 3)) = some y3 := hfl 3 _ rfl
  rw [kc3] at t3
  obtain ⟨x0, e0, f0, m0⟩ := DataW.trod_int Try.underlying3 t0
  obtain rfl : c0 = _ := by simpa using e0
  obtain ⟨x1, e1, f1, m1⟩ := DataW.trod_int Try.underlying3 t1
  obtain rfl : c1 = _ := by simpa using e1
  obtain ⟨a2, b2, rfl, rfl, g2, h2⟩ := vec_in t2
  obtain ⟨x3, e3, f3, m3⟩ := DataW.trod_int Try.underlying3 t3
  obtain rfl : c4 = _ := by simpa using e3
  have _hd : d = .agg [y0.1, y1.1, y2.1, y3.1] := congrArg Prod.fst hx
  exact ⟨⟨x0, x1, a2, b2, x3⟩, rfl, ⟨in_wf m0, in_wf m1, g2, h2, in_wf m3⟩⟩
set_option maxRecDepth 100000 in
theorem lst_cells {α : Type} [Inhabited α] {ec : α → List Value} {k : Nat} {t e : TypeId} {Ok : α → Prop} (ht : Try.prog.underlying t = some (.slice e)) (hk : Try.prog.cellsOf e = k) (hkpos : 0 < k) (hkl : ∀ x, (ec x).length = k) {H : Type} {enc : TypeId × Value → H} {W : World} {fuel : Nat} {l : List Value} {d : DataW H} {pl : List MemPlace}
    (hel : ∀ (fuel : Nat) (cs : List Value) (d' : DataW H) (pl' : List MemPlace), DataW.trod enc Try.prog W 0 (fun _ => true) true fuel e cs = some (d', pl') → Rows.uptoBulk d' ≤ Rows.uptoBulk d → ∃ o, cs = ec o ∧ Ok o) (hf : DataW.trod enc Try.prog W 0 (fun _ => true) true fuel t l = some (d, pl)) :
    ∃ v L, l = [v] ∧ Ls ec k W v L ∧ (∀ x ∈ L, Ok x) ∧ L.length + 1 ≤ Rows.uptoBulk d := by
  rcases Deep.open_slice ht hf with ⟨hcs, hx⟩ | ⟨a, len, cap, m, n, D, Pl, hcs, _, hl, hm, hmm, hx, hel2⟩
  · have hd : d = .nil := congrArg Prod.fst hx
    subst hd
    exact ⟨_, [], hcs, ⟨none, 0, rfl, fun h => by cases h⟩, fun o ho => (by cases ho), by simp [Rows.uptoBulk]⟩
  · simp only [if_true] at hmm
    have hd : d = .slice ((List.range len).map D) ((List.range (m - len)).map fun j => D (len + j)) := congrArg Prod.fst hx
    have hbd : ∀ i, i < len → Rows.uptoBulk (D i) ≤ Rows.uptoBulk d := fun i hi => by
      have := bulk_mem (List.mem_map.2 ⟨i, List.mem_range.2 hi, rfl⟩ : D i ∈ (List.range len).map D)
      rw [hd]
      simp only [Rows.uptoBulk]
      omega
    have each : ∀ i, i < len → ∃ o : α, Ok o ∧ ∀ j v, (ec o)[j]? = some v → W.cell? (a.add (i * k + j)) = some v := by
      intro i hi
      obtain ⟨cs', h1, h2⟩ := hel2 i (by omega)
      rw [hk] at h1
      obtain ⟨_, hlen, hcell⟩ := World.cells?_some h1
      obtain ⟨c, rfl, h3⟩ := hel _ _ _ _ h2 (hbd i hi)
      refine ⟨c, h3, fun j v hv => ?_⟩
      have hj : j < k := by have := (List.getElem?_eq_some_iff.1 hv).1; rw [hkl] at this; exact this
      have g := hcell j (by simpa [hkl] using hj)
      rw [Deep.add_add] at g
      rw [g]
      exact hv
    have hq0 : ∀ i, ∃ o : α, i < len → Ok o ∧ ∀ j v, (ec o)[j]? = some v → W.cell? (a.add (i * k + j)) = some v := fun i => by
      by_cases hi : i < len
      · obtain ⟨o, ho⟩ := each i hi
        exact ⟨o, fun _ => ho⟩
      · exact ⟨default, fun q => absurd q hi⟩
    obtain ⟨q, hq⟩ := Classical.axiomOfChoice hq0
    subst hd
    refine ⟨_, (List.range len).map q, hcs, ⟨some a, cap, by simp, fun hn => ?_⟩, fun o ho => ?_, ?_⟩
    · have hn : 0 < len := by simpa using hn
      obtain ⟨b, off, spot⟩ := a
      by_cases hk0 : 0 < k
      · have hspot : spot = none := by
          have h0 : 0 < (ec (q 0)).length := by rw [hkl]; exact hk0
          simpa [Addr.add] using World.cell?_spot ((hq 0 (by omega)).2 0 _ (List.getElem?_eq_getElem h0))
        subst hspot
        refine ⟨b, off, rfl, fun j o hj => ?_⟩
        have hj2 : j < len := by
          have := (List.getElem?_eq_some_iff.1 hj).1
          simpa using this
        have e : q j = o := by
          rw [List.getElem?_map, List.getElem?_range hj2] at hj
          simpa using hj
        have p := (hq j (by omega)).2
        rw [e] at p
        intro r v hv
        have := p r v hv
        rw [Addr.add_mid] at this
        rw [Nat.add_assoc]; exact this
      · exact absurd hk0 (by
          have := hkpos
          omega)
    · obtain ⟨i, hi, rfl⟩ := List.mem_map.1 ho
      exact (hq i (by have := List.mem_range.1 hi; omega)).1
    · have := bulk_len ((List.range len).map D)
      simp only [Rows.uptoBulk, List.length_map, List.length_range] at this ⊢
      omega
theorem car_in {H : Type} {enc : TypeId × Value → H} {W : World} {fuel : Nat} {l : List Value} {x : DataW H × List MemPlace} (hf : DataW.trod enc Try.prog W 0 (fun _ => true) true fuel 26 l = some x) : ∃ c : Cr, l = crv c ∧ (I64 c.p ∧ I64 c.x ∧ I64 c.y) := by
  obtain ⟨c, hc⟩ := car_cells hf
  refine ⟨c, hc, ?_⟩
  obtain ⟨xs, n, _, hx, hlen0, hxl, hfl⟩ := DataW.trod_struct Try.underlying26 hf
  match xs, (show xs.length = 12 from hxl) with
  | y0 :: z1 :: y2 :: r, _ =>
  have t0 : DataW.trod enc Try.prog W 0 (fun _ => true) true n 3 ((l.drop 0).take (Try.prog.cellsOf 3)) = some y0 := hfl 0 _ rfl
  rw [kc3, hc] at t0
  obtain ⟨x0, e0, f0, m0⟩ := DataW.trod_int Try.underlying3 t0
  have e1 : c.p = x0 := by simpa [crv] using e0
  have t2 : DataW.trod enc Try.prog W 0 (fun _ => true) true n 24 ((l.drop 2).take (Try.prog.cellsOf 24)) = some y2 := hfl 2 _ rfl
  rw [kc24, hc] at t2
  obtain ⟨x2, x3, e2, e3, i2, i3⟩ := vec_in (c0 := iv c.x) (c1 := iv c.y) (by simpa [crv] using t2)
  injection e2 with _ e2
  injection e3 with _ e3
  exact ⟨by rw [e1]; exact in_wf m0, by rw [e2]; exact i2, by rw [e3]; exact i3⟩
set_option maxRecDepth 100000 in
theorem vw_open {H : Type} {enc : TypeId × Value → H} {W : World} {base fuel : Nat} {v : Value} {d : DataW H} {pl : List MemPlace} (hv : Value.okWide Try.prog W .any base 29 v) (hf : DataW.trod enc Try.prog W 0 (fun _ => true) true fuel 29 v.cells.toList = some (d, pl)) (hb : Rows.uptoBulk d ≤ 1048576) :
    ∃ (tick : Int) (c : Cr) (vs : Value) (L : List Sn), v = .agg (vwA tick c vs) ∧ (I64 c.p ∧ I64 c.x ∧ I64 c.y) ∧ RdS W vs L ∧ (∀ x ∈ L, SnOk x) ∧ L.length + 1 ≤ 1048576 := by
  obtain ⟨cs, rfl, _⟩ := okWide_struct Try.underlying29 hv
  simp only [Value.cells] at hf
  have hcs : cs = cs.toList.toArray := by simp
  clear hv
  generalize cs.toList = l at hf hcs
  subst hcs
  obtain ⟨xs, n, _, hx, hlen0, hxl, hfl⟩ := DataW.trod_struct Try.underlying29 hf
  have hlen : l.length = 16 := hlen0.trans (by kernel_rfl)
  clear hf hlen0
  match l, hlen with
  | [c0, c1, c2, c3, c4, c5, c6, c7, c8, c9, c10, c11, c12, c13, c14, c15], _ =>
  match xs, (show xs.length = 3 from hxl) with
  | [y0, y1, y2], _ =>
  have t0 : DataW.trod enc Try.prog W 0 (fun _ => true) true n 22 (([c0, c1, c2, c3, c4, c5, c6, c7, c8, c9, c10, c11, c12, c13, c14, c15].drop 0).take (Try.prog.cellsOf 22)) = some y0 := hfl 0 _ rfl
  rw [kc22] at t0
  have t1 : DataW.trod enc Try.prog W 0 (fun _ => true) true n 26 (([c0, c1, c2, c3, c4, c5, c6, c7, c8, c9, c10, c11, c12, c13, c14, c15].drop 1).take (Try.prog.cellsOf 26)) = some y1 := hfl 1 _ rfl
  rw [kc26] at t1
  have t2 : DataW.trod enc Try.prog W 0 (fun _ => true) true n 27 (([c0, c1, c2, c3, c4, c5, c6, c7, c8, c9, c10, c11, c12, c13, c14, c15].drop 15).take (Try.prog.cellsOf 27)) = some y2 := hfl 2 _ rfl
  rw [kc27] at t2
  obtain ⟨x0, e0, f0, m0⟩ := DataW.trod_int Try.underlying22 t0
  obtain rfl : c0 = _ := by simpa using e0
  have hd : d = .agg [y0.1, y1.1, y2.1] := congrArg Prod.fst hx
  obtain ⟨y1d, y1p⟩ := y1
  obtain ⟨y2d, y2p⟩ := y2
  rw [hd] at hb
  simp only [Rows.uptoBulk, Rows.uptoBulkAll] at hb
  obtain ⟨c, hc, ok⟩ := car_in t1
  obtain ⟨vs, LS, hvs, k1, k2, k3⟩ := lst_cells (α := Sn) (ec := snv) (k := 5) (Ok := SnOk) Try.underlying27 kc33 (by decide) snv_len (fun f cs d' pl' hq hb' => sn_open hq) t2
  obtain rfl : c15 = vs := by simpa using hvs
  have hc2 : [c1, c2, c3, c4, c5, c6, c7, c8, c9, c10, c11, c12, c13, c14] = crv c := by simpa using hc
  refine ⟨x0, c, c15, LS, ?_, ok, ⟨k1⟩, k2, by omega⟩
  have : [Value.int .u64 x0, c1, c2, c3, c4, c5, c6, c7, c8, c9, c10, c11, c12, c13, c14, c15] = .int .u64 x0 :: (crv c ++ [c15]) := by rw [← hc2]; rfl
  rw [this]
  rfl
end Go.Proofs.Ytfhhneibdmjfgab
