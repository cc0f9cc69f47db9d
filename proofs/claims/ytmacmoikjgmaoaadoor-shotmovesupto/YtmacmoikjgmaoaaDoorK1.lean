/- cars and intents as they are handed in -/
import Derived.Test.YtmacmoikjgmaoaaDoorK0
import Derived.Test.YtmacmoikjgmaoaaDoorH0
import Derived.ChangeMaps5
import Derived.ChangeArms
import Derived.Deep.Slices
import Derived.SizedLaws
namespace Go.Proofs.YtmacmoikjgmaoaaDoor.Bo
open Go Go.ChangeShapes Go.WideShapes Go.ChangeAt Go.RowKit

theorem laidOut : laidOutB Tryd.prog = true := by kernel_rfl
theorem kc2 : Tryd.prog.cellsOf 2 = 1 := by kernel_rfl
theorem kc3 : Tryd.prog.cellsOf 3 = 1 := by kernel_rfl
theorem kc4 : Tryd.prog.cellsOf 4 = 1 := by kernel_rfl
theorem kc9 : Tryd.prog.cellsOf 9 = 1 := by kernel_rfl
theorem kc24 : Tryd.prog.cellsOf 24 = 2 := by kernel_rfl
theorem kc38 : Tryd.prog.cellsOf 38 = 14 := by kernel_rfl
theorem in_wf {a : Int} (h : (Lit.int .i64 a).wf = true) : In a := by
  have m1 : IntKind.i64.min = -9223372036854775808 := by decide
  have m2 : IntKind.i64.max = 9223372036854775807 := by decide
  simp [Lit.wf, m1, m2] at h
  exact h
theorem in_u64 {a : Int} (h : (Lit.int .u64 a).wf = true) : 0 ≤ a ∧ a < 18446744073709551616 := by
  have m1 : IntKind.u64.min = 0 := by decide
  have m2 : IntKind.u64.max = 18446744073709551615 := by decide
  simp [Lit.wf, m1, m2] at h
  omega
theorem vec_cells {H : Type} {enc : TypeId × Value → H} {W : World} {fuel : Nat} {c0 c1 : Value} {x : DataW H × List MemPlace} (hf : DataW.trod enc Tryd.prog W 0 (fun _ => true) true fuel 24 [c0, c1] = some x) :
    ∃ a b : Int, c0 = .int .i64 a ∧ c1 = .int .i64 b ∧ In a ∧ In b := by
  obtain ⟨xs, n, _, hx, hlen, hxl, hfl⟩ := DataW.trod_struct Tryd.underlying24 hf
  match xs, (show xs.length = 2 from hxl) with
  | [y0, y1], _ =>
  have t0 : DataW.trod enc Tryd.prog W 0 (fun _ => true) true n 2 (([c0, c1].drop 0).take (Tryd.prog.cellsOf 2)) = some y0 := hfl 0 _ rfl
  rw [kc2] at t0
  have t1 : DataW.trod enc Tryd.prog W 0 (fun _ => true) true n 2 (([c0, c1].drop 1).take (Tryd.prog.cellsOf 2)) = some y1 := hfl 1 _ rfl
  rw [kc2] at t1
  obtain ⟨x0, e0, f0, m0⟩ := DataW.trod_int Tryd.underlying2 t0
  obtain rfl : c0 = _ := by simpa using e0
  obtain ⟨x1, e1, f1, m1⟩ := DataW.trod_int Tryd.underlying2 t1
  obtain rfl : c1 = _ := by simpa using e1
  exact ⟨x0, x1, rfl, rfl, in_wf m0, in_wf m1⟩
set_option maxRecDepth 100000 in
theorem car_cells {H : Type} {enc : TypeId × Value → H} {W : World} {fuel : Nat} {l : List Value} {d : DataW H} {pl : List MemPlace} (hf : DataW.trod enc Tryd.prog W 0 (fun _ => true) true fuel 38 l = some (d, pl)) (hlen : l.length = 14) :
    ∃ c : Cr, l = crv c ∧ (c.nm.data.toList.length ≤ 281474976710656 → CrOk c) ∧ c.nm.data.toList.length ∈ d.weights Tryd.prog 38 ∧ c.nm.data.toList.length + 1 ≤ Rows.uptoBulk d := by
  obtain ⟨xs, n, _, hx, _, hxl, hfl⟩ := DataW.trod_struct Tryd.underlying38 hf
  clear hf
  match l, hlen with
  | [c0, c1, c2, c3, c4, c5, c6, c7, c8, c9, c10, c11, c12, c13], _ =>
  match xs, (show xs.length = 12 from hxl) with
  | [y0, y1, y2, y3, y4, y5, y6, y7, y8, y9, y10, y11], _ =>
  have t0 : DataW.trod enc Tryd.prog W 0 (fun _ => true) true n 3 (([c0, c1, c2, c3, c4, c5, c6, c7, c8, c9, c10, c11, c12, c13].drop 0).take (Tryd.prog.cellsOf 3)) = some y0 := hfl 0 _ rfl
  rw [kc3] at t0
  have t1 : DataW.trod enc Tryd.prog W 0 (fun _ => true) true n 9 (([c0, c1, c2, c3, c4, c5, c6, c7, c8, c9, c10, c11, c12, c13].drop 1).take (Tryd.prog.cellsOf 9)) = some y1 := hfl 1 _ rfl
  rw [kc9] at t1
  have t2 : DataW.trod enc Tryd.prog W 0 (fun _ => true) true n 24 (([c0, c1, c2, c3, c4, c5, c6, c7, c8, c9, c10, c11, c12, c13].drop 2).take (Tryd.prog.cellsOf 24)) = some y2 := hfl 2 _ rfl
  rw [kc24] at t2
  have t3 : DataW.trod enc Tryd.prog W 0 (fun _ => true) true n 24 (([c0, c1, c2, c3, c4, c5, c6, c7, c8, c9, c10, c11, c12, c13].drop 4).take (Tryd.prog.cellsOf 24)) = some y3 := hfl 3 _ rfl
  rw [kc24] at t3
  have t4 : DataW.trod enc Tryd.prog W 0 (fun _ => true) true n 3 (([c0, c1, c2, c3, c4, c5, c6, c7, c8, c9, c10, c11, c12, c13].drop 6).take (Tryd.prog.cellsOf 3)) = some y4 := hfl 4 _ rfl
  rw [kc3] at t4
  have t5 : DataW.trod enc Tryd.prog W 0 (fun _ => true) true n 3 (([c0, c1, c2, c3, c4, c5, c6, c7, c8, c9, c10, c11, c12, c13].drop 7).take (Tryd.prog.cellsOf 3)) = some y5 := hfl 5 _ rfl
  rw [kc3] at t5
  have t6 : DataW.trod enc Tryd.prog W 0 (fun _ => true) true n 3 (([c0, c1, c2, c3, c4, c5, c6, c7, c8, c9, c10, c11, c12, c13].drop 8).take (Tryd.prog.cellsOf 3)) = some y6 := hfl 6 _ rfl
  rw [kc3] at t6
  have t7 : DataW.trod enc Tryd.prog W 0 (fun _ => true) true n 3 (([c0, c1, c2, c3, c4, c5, c6, c7, c8, c9, c10, c11, c12, c13].drop 9).take (Tryd.prog.cellsOf 3)) = some y7 := hfl 7 _ rfl
  rw [kc3] at t7
  have t8 : DataW.trod enc Tryd.prog W 0 (fun _ => true) true n 3 (([c0, c1, c2, c3, c4, c5, c6, c7, c8, c9, c10, c11, c12, c13].drop 10).take (Tryd.prog.cellsOf 3)) = some y8 := hfl 8 _ rfl
  rw [kc3] at t8
  have t9 : DataW.trod enc Tryd.prog W 0 (fun _ => true) true n 3 (([c0, c1, c2, c3, c4, c5, c6, c7, c8, c9, c10, c11, c12, c13].drop 11).take (Tryd.prog.cellsOf 3)) = some y9 := hfl 9 _ rfl
  rw [kc3] at t9
  have t10 : DataW.trod enc Tryd.prog W 0 (fun _ => true) true n 3 (([c0, c1, c2, c3, c4, c5, c6, c7, c8, c9, c10, c11, c12, c13].drop 12).take (Tryd.prog.cellsOf 3)) = some y10 := hfl 10 _ rfl
  rw [kc3] at t10
  have t11 : DataW.trod enc Tryd.prog W 0 (fun _ => true) true n 3 (([c0, c1, c2, c3, c4, c5, c6, c7, c8, c9, c10, c11, c12, c13].drop 13).take (Tryd.prog.cellsOf 3)) = some y11 := hfl 11 _ rfl
  rw [kc3] at t11
  obtain ⟨x0, e0, f0, m0⟩ := DataW.trod_int Tryd.underlying3 t0
  obtain rfl : c0 = _ := by simpa using e0
  obtain ⟨x1, e1, f1, m1⟩ := DataW.trod_string Tryd.underlying9 t1
  obtain rfl : c1 = _ := by simpa using e1
  obtain ⟨a2, b2, rfl, rfl, g2, h2⟩ := vec_cells t2
  obtain ⟨a3, b3, rfl, rfl, g3, h3⟩ := vec_cells t3
  obtain ⟨x4, e4, f4, m4⟩ := DataW.trod_int Tryd.underlying3 t4
  obtain rfl : c6 = _ := by simpa using e4
  obtain ⟨x5, e5, f5, m5⟩ := DataW.trod_int Tryd.underlying3 t5
  obtain rfl : c7 = _ := by simpa using e5
  obtain ⟨x6, e6, f6, m6⟩ := DataW.trod_int Tryd.underlying3 t6
  obtain rfl : c8 = _ := by simpa using e6
  obtain ⟨x7, e7, f7, m7⟩ := DataW.trod_int Tryd.underlying3 t7
  obtain rfl : c9 = _ := by simpa using e7
  obtain ⟨x8, e8, f8, m8⟩ := DataW.trod_int Tryd.underlying3 t8
  obtain rfl : c10 = _ := by simpa using e8
  obtain ⟨x9, e9, f9, m9⟩ := DataW.trod_int Tryd.underlying3 t9
  obtain rfl : c11 = _ := by simpa using e9
  obtain ⟨x10, e10, f10, m10⟩ := DataW.trod_int Tryd.underlying3 t10
  obtain rfl : c12 = _ := by simpa using e10
  obtain ⟨x11, e11, f11, m11⟩ := DataW.trod_int Tryd.underlying3 t11
  obtain rfl : c13 = _ := by simpa using e11
  refine ⟨⟨x0, x1, a2, b2, a3, b3, x4, x5, x6, x7, x8, x9, x10, x11⟩, rfl, fun hs => ⟨?_, in_wf m0, g2, h2, g3, h3, in_wf m4, in_wf m5, in_wf m6, in_wf m7, in_wf m8, in_wf m9, in_wf m10, in_wf m11⟩, ?_, ?_⟩
  · have e : x1.data.toList.length = x1.size := by rw [Array.length_toList]; rfl
    show x1.size ≤ _
    rw [← e]; exact hs
  · rw [show d = .agg [y0.1, y1.1, y2.1, y3.1, y4.1, y5.1, y6.1, y7.1, y8.1, y9.1, y10.1, y11.1] from congrArg Prod.fst hx]
    simp only [DataW.weights, Tryd.underlying38]
    refine DataW.weights_mem_each (j := 1) (t := 9) rfl rfl _ ?_
    rw [f1]
    simp [DataW.weights]
  · rw [show d = .agg [y0.1, y1.1, y2.1, y3.1, y4.1, y5.1, y6.1, y7.1, y8.1, y9.1, y10.1, y11.1] from congrArg Prod.fst hx]
    simp only [Rows.uptoBulk, Rows.uptoBulkAll, f1]
    omega
set_option maxRecDepth 100000 in
theorem car_open' {H : Type} {enc : TypeId × Value → H} {W : World} {base fuel : Nat} {v : Value} {d : DataW H} {pl : List MemPlace} (hv : Value.okWide Tryd.prog W .any base 38 v) (hf : DataW.trod enc Tryd.prog W 0 (fun _ => true) true fuel 38 v.cells.toList = some (d, pl)) :
    ∃ c : Cr, v = .agg (crv c).toArray ∧ (c.nm.data.toList.length ≤ 281474976710656 → CrOk c) ∧ c.nm.data.toList.length ∈ d.weights Tryd.prog 38 ∧ c.nm.data.toList.length + 1 ≤ Rows.uptoBulk d := by
  obtain ⟨cs, rfl, _⟩ := okWide_struct Tryd.underlying38 hv
  simp only [Value.cells] at hf
  have hf2 := hf
  obtain ⟨xs, n, _, hx, hlen, hxl, hfl⟩ := DataW.trod_struct Tryd.underlying38 hf2
  have hlen : cs.toList.length = 14 := hlen.trans (by kernel_rfl)
  obtain ⟨c, h1, h2⟩ := car_cells hf hlen
  exact ⟨c, by rw [← h1], h2⟩
set_option maxRecDepth 100000 in
theorem car_open {H : Type} {enc : TypeId × Value → H} {W : World} {base fuel : Nat} {v : Value} {d : DataW H} {pl : List MemPlace} (hv : Value.okWide Tryd.prog W .any base 38 v) (hf : DataW.trod enc Tryd.prog W 0 (fun _ => true) true fuel 38 v.cells.toList = some (d, pl)) :
    ∃ c : Cr, v = .agg (crv c).toArray ∧ (c.nm.data.toList.length ≤ 281474976710656 → CrOk c) ∧ c.nm.data.toList.length ∈ d.weights Tryd.prog 38 := by
  obtain ⟨c, h1, h2, h3, _⟩ := car_open' hv hf
  exact ⟨c, h1, h2, h3⟩
theorem str_bulk {H : Type} (s : ByteArray) : Rows.uptoBulk (DataW.lit (H := H) (.string s.data.toList)) = s.size + 1 := by
  have e : s.data.toList.length = s.size := by rw [Array.length_toList]; rfl
  simp only [Rows.uptoBulk, e]
theorem sh_open {H : Type} {enc : TypeId × Value → H} {W : World} {fuel : Nat} {l : List Value} {d : DataW H} {pl : List MemPlace} (hf : DataW.trod enc Tryd.prog W 0 (fun _ => true) true fuel 26 l = some (d, pl)) :
    ∃ c : Sh, l = shv c ∧ ShOk c := by
  obtain ⟨xs, n, _, hx, hlen0, hxl, hfl⟩ := DataW.trod_struct Tryd.underlying26 hf
  clear hf
  have hlen : l.length = 7 := hlen0.trans (by kernel_rfl)
  clear hlen0
  match l, hlen with
  | [c0, c1, c2, c3, c4, c5, c6], _ =>
  match xs, (show xs.length = 5 from hxl) with
  | [y0, y1, y2, y3, y4], _ =>
  have t0 : DataW.trod enc Tryd.prog W 0 (fun _ => true) true n 3 (([c0, c1, c2, c3, c4, c5, c6].drop 0).take (Tryd.prog.cellsOf 3)) = some y0 := hfl 0 _ rfl
  rw [kc3] at t0
  have t1 : DataW.trod enc Tryd.prog W 0 (fun _ => true) true n 3 (([c0, c1, c2, c3, c4, c5, c6].drop 1).take (Tryd.prog.cellsOf 3)) = some y1 := hfl 1 _ rfl
  rw [kc3] at t1
  have t2 : DataW.trod enc Tryd.prog W 0 (fun _ => true) true n 24 (([c0, c1, c2, c3, c4, c5, c6].drop 2).take (Tryd.prog.cellsOf 24)) = some y2 := hfl 2 _ rfl
  rw [kc24] at t2
  have t3 : DataW.trod enc Tryd.prog W 0 (fun _ => true) true n 24 (([c0, c1, c2, c3, c4, c5, c6].drop 4).take (Tryd.prog.cellsOf 24)) = some y3 := hfl 3 _ rfl
  rw [kc24] at t3
  have t4 : DataW.trod enc Tryd.prog W 0 (fun _ => true) true n 3 (([c0, c1, c2, c3, c4, c5, c6].drop 6).take (Tryd.prog.cellsOf 3)) = some y4 := hfl 4 _ rfl
  rw [kc3] at t4
  obtain ⟨x0, e0, f0, m0⟩ := DataW.trod_int Tryd.underlying3 t0
  obtain rfl : c0 = _ := by simpa using e0
  obtain ⟨x1, e1, f1, m1⟩ := DataW.trod_int Tryd.underlying3 t1
  obtain rfl : c1 = _ := by simpa using e1
  obtain ⟨a2, b2, rfl, rfl, g2, h2⟩ := vec_cells t2
  obtain ⟨a3, b3, rfl, rfl, g3, h3⟩ := vec_cells t3
  obtain ⟨x4, e4, f4, m4⟩ := DataW.trod_int Tryd.underlying3 t4
  obtain rfl : c6 = _ := by simpa using e4
  exact ⟨⟨x0, x1, a2, b2, a3, b3, x4⟩, rfl, ⟨in_wf m0, in_wf m1, g2, h2, g3, h3, in_wf m4⟩⟩
theorem shot_open {H : Type} {enc : TypeId × Value → H} {W : World} {base fuel : Nat} {v : Value} {d : DataW H} {pl : List MemPlace} (hv : Value.okWide Tryd.prog W .any base 26 v) (hf : DataW.trod enc Tryd.prog W 0 (fun _ => true) true fuel 26 v.cells.toList = some (d, pl)) :
    ∃ c : Sh, v = .agg (shv c).toArray ∧ ShOk c := by
  obtain ⟨cs, rfl, _⟩ := okWide_struct Tryd.underlying26 hv
  simp only [Value.cells] at hf
  obtain ⟨c, h1, h2⟩ := sh_open hf
  exact ⟨c, by rw [← h1], h2⟩
theorem weights_mem {H : Type} {P : Program} {e : TypeId} : ∀ {l : List (DataW H)} {d : DataW H}, d ∈ l → ∀ n ∈ d.weights P e, n ∈ DataW.weightsAll P e l
  | [], _, h, _, _ => by cases h
  | x :: r, d, h, n, hn => by
    simp only [DataW.weightsAll, List.mem_append]
    rcases List.mem_cons.1 h with rfl | h
    · exact .inl hn
    · exact .inr (weights_mem h n hn)
theorem bulk_mem {H : Type} : ∀ {l : List (DataW H)} {d : DataW H}, d ∈ l → Rows.uptoBulk d ≤ Rows.uptoBulkAll l
  | [], _, h => by cases h
  | x :: r, d, h => by
    simp only [Rows.uptoBulkAll]
    rcases List.mem_cons.1 h with rfl | h
    · omega
    · have := bulk_mem h; omega
theorem bulk_len {H : Type} : ∀ (l : List (DataW H)), (∀ d ∈ l, 1 ≤ Rows.uptoBulk d) → l.length ≤ Rows.uptoBulkAll l
  | [], _ => by simp
  | x :: r, h => by
    simp only [Rows.uptoBulkAll, List.length_cons]
    have h1 := h x (List.mem_cons_self ..)
    have h2 := bulk_len r (fun d hd => h d (List.mem_cons_of_mem _ hd))
    omega
/-- cars as they are handed in -/
structure CrsW {H : Type} (W : World) (v : Value) (L : List Cr) (d : DataW H) : Prop where
  o : ∃ a cap, v = .slice a L.length cap ∧ (0 < L.length → ∃ g o, a = some ⟨g, o, none⟩ ∧ ∀ (j : Nat) (x : Cr), L[j]? = some x → W.rangeAt g (o + j * 14) (crv x))
  s : ∀ x ∈ L, (x.nm.data.toList.length ≤ 281474976710656 → CrOk x) ∧ x.nm.data.toList.length ∈ d.weights Tryd.prog 22 ∧ x.nm.data.toList.length + 1 ≤ Rows.uptoBulk d
  n : L.length ≤ 9223372036854775807
  b : L.length + 1 ≤ Rows.uptoBulk d
theorem CrsW.full {H : Type} {W : World} {v : Value} {L : List Cr} {d : DataW H} (h : CrsW W v L d) (hw : ∀ n ∈ d.weights Tryd.prog 22, n ≤ 281474976710656) : Crs W v L :=
  ⟨h.o, fun x hx => (h.s x hx).1 (hw _ (h.s x hx).2.1), h.n⟩
theorem CrsW.upto {H : Type} {W : World} {v : Value} {L : List Cr} {d : DataW H} (h : CrsW W v L d) (hw : Rows.uptoBulk d ≤ 1048576) : Crs W v L :=
  ⟨h.o, fun x hx => (h.s x hx).1 (by have := (h.s x hx).2.2; omega), h.n⟩
set_option maxRecDepth 100000 in
set_option maxHeartbeats 2000000 in
theorem crs_cells {H : Type} {enc : TypeId × Value → H} {W : World} {l : List Value} {fuel : Nat} {d : DataW H} {pl : List MemPlace} (hf : DataW.trod enc Tryd.prog W 0 (fun _ => true) true fuel 22 l = some (d, pl)) :
    ∃ v xs, l = [v] ∧ CrsW W v xs d := by
  rcases Deep.open_slice Tryd.underlying22 hf with ⟨hcs, hx⟩ | ⟨a, len, cap, m, n, D, Pl, hcs, _, hl, hm, hmm, hx, hel⟩
  · have hd : d = .nil := congrArg Prod.fst hx
    subst hd
    exact ⟨_, [], hcs, ⟨none, 0, rfl, fun h => by cases h⟩, fun o ho => (by cases ho), by simp, by simp [Rows.uptoBulk]⟩
  · simp only [if_true] at hmm
    have hd : d = .slice ((List.range len).map D) ((List.range (m - len)).map fun j => D (len + j)) := congrArg Prod.fst hx
    have each : ∀ i, i < m → ∃ o : Cr, ((o.nm.data.toList.length ≤ 281474976710656 → CrOk o) ∧ o.nm.data.toList.length ∈ (D i).weights Tryd.prog 38 ∧ o.nm.data.toList.length + 1 ≤ Rows.uptoBulk (D i)) ∧ ∀ j v, (crv o)[j]? = some v → W.cell? (a.add (i * 14 + j)) = some v := by
      intro i hi
      obtain ⟨cs', h1, h2⟩ := hel i hi
      rw [kc38] at h1
      obtain ⟨_, hlen, hcell⟩ := World.cells?_some h1
      obtain ⟨c, rfl, h3⟩ := car_cells h2 hlen
      refine ⟨c, h3, fun j v hv => ?_⟩
      have hj : j < 14 := (List.getElem?_eq_some_iff.1 hv).1
      have g := hcell j (by simpa [crv_len] using hj)
      rw [Deep.add_add] at g
      rw [g]
      exact hv
    have hq0 : ∀ i, ∃ o : Cr, i < m → ((o.nm.data.toList.length ≤ 281474976710656 → CrOk o) ∧ o.nm.data.toList.length ∈ (D i).weights Tryd.prog 38 ∧ o.nm.data.toList.length + 1 ≤ Rows.uptoBulk (D i)) ∧ ∀ j v, (crv o)[j]? = some v → W.cell? (a.add (i * 14 + j)) = some v := fun i => by
      by_cases hi : i < m
      · obtain ⟨o, ho⟩ := each i hi
        exact ⟨o, fun _ => ho⟩
      · exact ⟨zC 0 ⟨#[]⟩, fun q => absurd q hi⟩
    obtain ⟨q, hq⟩ := Classical.axiomOfChoice hq0
    subst hd
    refine ⟨_, (List.range len).map q, hcs, ⟨⟨some a, cap, by simp, fun hn => ?_⟩, fun o ho => ?_, by simp; unfold maxLen at hm; omega, ?_⟩⟩
    · have hn : 0 < len := by simpa using hn
      obtain ⟨b, off, spot⟩ := a
      have hspot : spot = none := by simpa [Addr.add] using World.cell?_spot ((hq 0 (by omega)).2 0 _ rfl)
      subst hspot
      refine ⟨b, off, rfl, fun j o hj => ?_⟩
      have hj2 : j < len := by
        have := (List.getElem?_eq_some_iff.1 hj).1
        simpa using this
      have e : q j = o := by
        rw [List.getElem?_map, List.getElem?_range hj2] at hj
        simpa using hj
      have p := (hq j (by omega)).2
      rw [e] at p
      intro r v hv
      have := p r v hv
      rw [Addr.add_mid] at this
      rw [Nat.add_assoc]; exact this
    · obtain ⟨i, hi, rfl⟩ := List.mem_map.1 ho
      have hi := List.mem_range.1 hi
      obtain ⟨p1, p2, p3⟩ := (hq i (by omega)).1
      refine ⟨p1, ?_, ?_⟩
      · simp only [DataW.weights, Tryd.underlying22, List.mem_cons, List.mem_append]
        exact .inr (.inl (weights_mem (List.mem_map.2 ⟨i, List.mem_range.2 hi, rfl⟩) _ p2))
      · have := bulk_mem (List.mem_map.2 ⟨i, List.mem_range.2 hi, rfl⟩ : D i ∈ (List.range len).map D)
        simp only [Rows.uptoBulk]
        omega
    · have := bulk_len ((List.range len).map D) (fun d hd => by
        obtain ⟨i, hi, rfl⟩ := List.mem_map.1 hd
        have := ((hq i (by have := List.mem_range.1 hi; omega)).1).2.2
        omega)
      simp only [Rows.uptoBulk, List.length_map, List.length_range] at this ⊢
      omega
end Go.Proofs.YtmacmoikjgmaoaaDoor.Bo
