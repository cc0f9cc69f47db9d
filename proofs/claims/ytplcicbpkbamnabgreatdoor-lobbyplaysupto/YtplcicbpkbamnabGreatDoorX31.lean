import Derived.Test.YtplcicbpkbamnabGreatDoorRows
import Derived.Test.YtplcicbpkbamnabGreatDoorChecked
import Derived.Test.YtplcicbpkbamnabGreatDoorX30
import Derived.Test.YtplcicbpkbamnabGreatDoorX17
import Derived.ProofKit
import Derived.LaidMore
import Derived.OpenShut
import Derived.Stop.Joined
import Derived.Lib.LaidU8
import Derived.Deep.Slices
import Derived.Deep.Strs
import Derived.SizedLaws
import Derived.ChangeMaps5
import Derived.ChangeArms
/- What the listed variables give; configurations, texts and scripts as they are handed in. -/
namespace Go.Proofs.YtplcicbpkbamnabGreatDoor.Lo
open Go Go.ChangeShapes Go.WideShapes Go.ChangeAt Go.RowKit

set_option maxRecDepth 100000 in
theorem own : ownKnob Tryz.prog.godebug = none := by kernel_rfl
set_option maxRecDepth 100000 in
theorem gK : Tryz.prog.globalNamed "joust/sha.roundWords" = some 0 := by kernel_rfl
set_option maxRecDepth 100000 in
theorem tK : (Tryz.prog.globals[0]?).map (·.type) = some 170 := by kernel_rfl
set_option maxRecDepth 100000 in
theorem gS : Tryz.prog.globalNamed "joust/name.spans" = some 1 := by kernel_rfl
set_option maxRecDepth 100000 in
theorem tS : (Tryz.prog.globals[1]?).map (·.type) = some 174 := by kernel_rfl
set_option maxRecDepth 100000 in
theorem underW : Tryz.prog.underlying 152 = some (.int .u32) := by kernel_rfl
set_option maxRecDepth 100000 in
theorem cellsW : Tryz.prog.cellsOf 152 = 1 := by kernel_rfl
set_option maxRecDepth 100000 in
theorem underKs : Tryz.prog.underlying 170 = some (.array 64 152) := by kernel_rfl
set_option maxRecDepth 100000 in
theorem underSps : Tryz.prog.underlying 174 = some (.array 10 158) := by kernel_rfl
set_option maxRecDepth 100000 in
theorem ks_datum : (Rows.laid_joust_sha_roundWords : DataW Unit) = .agg (Sha.ks.map fun x => .lit (.int .u32 x.toNat)) := by kernel_rfl
set_option maxRecDepth 100000 in
theorem sp_datum : (Rows.laid_joust_name_spans : DataW Unit) = .agg (Na.spn.map fun p => .agg ([p.1, p.2.1, p.2.2].map fun z => .lit (.int .i32 z))) := by kernel_rfl
set_option maxRecDepth 100000 in
theorem underSpan : ∃ fs, Tryz.prog.underlying 158 = some (.struct fs) ∧ (∀ (i : Nat) (f : Field), fs[i]? = some f → Tryz.prog.underlying f.type = some (.int .i32) ∧ f.offset = i ∧ Tryz.prog.cellsOf f.type = 1) ∧ Tryz.prog.cellsOf 158 = fs.size := by
  refine ⟨_, Tryz.underlying158, ?_, by kernel_rfl⟩
  intro i f h
  match i, h with
  | 0, h => simp at h; subst h; exact ⟨by kernel_rfl, rfl, by kernel_rfl⟩
  | 1, h => simp at h; subst h; exact ⟨by kernel_rfl, rfl, by kernel_rfl⟩
  | 2, h => simp at h; subst h; exact ⟨by kernel_rfl, rfl, by kernel_rfl⟩
  | i + 3, h => simp at h
set_option maxRecDepth 100000 in
theorem cellsSpan : Tryz.prog.cellsOf 158 = 3 := by kernel_rfl
/-- an array of words that reads as a known datum: its cells -/
theorem words_of {W : World} {enc : TypeId × Value → Unit} {base fuel : Nat} {spare held : Bool} {cs : List Value} {x : DataW Unit × List MemPlace} {l : List UInt32} {t : TypeId} {n : Nat} (ht : Tryz.prog.underlying t = some (.array n 152)) (hl : l.length = n)
    (h : DataW.trod enc Tryz.prog W base (fun _ => spare) held fuel t cs = some x) (hx : x.1 = .agg (l.map fun x => .lit (.int .u32 x.toNat))) (j : Nat) (hj : j < n) : cs[j]? = some (.int .u32 (l.getD j 0).toNat) := by
  obtain ⟨xs, m, rfl, rfl, hlen, hn, hel⟩ := DataW.trod_array ht h
  have hj2 : j < xs.length := by omega
  have he := hel j hj
  rw [List.getElem?_eq_getElem hj2] at he
  obtain ⟨k, e1, e2, _⟩ := DataW.trod_int underW he
  simp only [DataW.agg.injEq] at hx
  have hk : (xs.map (·.1))[j]? = (l.map fun x => (.lit (.int .u32 x.toNat) : DataW Unit))[j]? := by rw [hx]
  rw [List.getElem?_map, List.getElem?_map, List.getElem?_eq_getElem hj2, List.getElem?_eq_getElem (by omega : j < l.length)] at hk
  simp only [Option.map_some, Option.some.injEq] at hk
  rw [e2] at hk
  simp only [DataW.lit.injEq, Lit.int.injEq, true_and] at hk
  rw [cellsW, Nat.mul_one] at e1
  have : (cs.drop j)[0]? = some (.int .u32 k) := by
    have h1 : ((cs.drop j).take 1)[0]? = some (.int .u32 k) := by rw [e1]; rfl
    rwa [List.getElem?_take, if_pos (by omega)] at h1
  rw [List.getElem?_drop, Nat.add_zero] at this
  rw [this, hk]
  simp [List.getD, show j < l.length by omega]
set_option maxRecDepth 100000 in
theorem below_of {w w' : World} (h : w.grownBy w' none) : Below w.heap.size w w' := ⟨h.os, h.tape, h.output, h.size, fun k hk => h.block k hk (by simp)⟩
set_option maxRecDepth 100000 in
theorem gR : Tryz.prog.globalNamed "joust/joustref01.roots" = some 2 := by kernel_rfl
set_option maxRecDepth 100000 in
theorem gC : Tryz.prog.globalNamed "joust/joustref01.cubes" = some 3 := by kernel_rfl
set_option maxRecDepth 100000 in
theorem tR : (Tryz.prog.globals[2]?).map (·.type) = some 153 := by kernel_rfl
set_option maxRecDepth 100000 in
theorem tC : (Tryz.prog.globals[3]?).map (·.type) = some 170 := by kernel_rfl
set_option maxRecDepth 100000 in
theorem underRt : Tryz.prog.underlying 153 = some (.array 8 152) := by kernel_rfl
set_option maxRecDepth 100000 in
theorem iv_datum : (Rows.laid_joust_joustref01_roots : DataW Unit) = .agg (Sha.iv.map fun x => .lit (.int .u32 x.toNat)) := by kernel_rfl
set_option maxRecDepth 100000 in
theorem cs_datum : (Rows.laid_joust_joustref01_cubes : DataW Unit) = .agg (Sha.ks.map fun x => .lit (.int .u32 x.toNat)) := by kernel_rfl
abbrev laid4 : List (String × DataW Unit) := [("joust/joustref01.roots", Rows.laid_joust_joustref01_roots), ("joust/joustref01.cubes", Rows.laid_joust_joustref01_cubes), ("joust/sha.roundWords", Rows.laid_joust_sha_roundWords), ("joust/name.spans", Rows.laid_joust_name_spans)]
set_option maxRecDepth 100000 in
theorem all_of_laid {W : World} (h : laidMetH Tryz.prog laid4 W) : Kc W ∧ Na.Kc W ∧ RK W ∧ 4 ≤ W.heap.size := by
  rw [MakeChecks.laidMetH_plain _ _ _ (by kernel_rfl)] at h
  obtain ⟨ps, ⟨g2, t2, cs2, f2, p2, q2, hg2, ht2, hv2, hd2, ⟨g3, t3, cs3, f3, p3, q3, hg3, ht3, hv3, hd3, ⟨g0, t0, cs0, f0, p0, q0, hg0, ht0, hv0, hd0, ⟨g1, t1, cs1, f1, p1, q1, hg1, ht1, hv1, hd1, _, _⟩, _⟩, _⟩, _⟩, _, _⟩ := h
  obtain rfl := Option.some.inj (gR.symm.trans hg2)
  obtain rfl := Option.some.inj (gC.symm.trans hg3)
  obtain rfl := Option.some.inj (gK.symm.trans hg0)
  obtain rfl := Option.some.inj (gS.symm.trans hg1)
  obtain rfl := Option.some.inj (tR.symm.trans ht2)
  obtain rfl := Option.some.inj (tC.symm.trans ht3)
  obtain rfl := Option.some.inj (tK.symm.trans ht0)
  obtain rfl := Option.some.inj (tS.symm.trans ht1)
  have hr : RK W := ⟨fun j hj => by
    rw [World.var?_cell hg2 hv2 j, ← Array.getElem?_toList]
    exact words_of underRt rfl hd2 iv_datum j hj, fun j hj => by
    rw [World.var?_cell hg3 hv3 j, ← Array.getElem?_toList]
    exact words_of underKs rfl hd3 cs_datum j hj⟩
  have h3 := World.block_lt_of_cell? W ⟨3, 0, none⟩ (hr.c 0 (by omega))
  refine ⟨fun j hj => ?_, ?_, hr, h3⟩
  · rw [World.var?_cell hg0 hv0 j, ← Array.getElem?_toList]
    exact words_of underKs rfl hd0 ks_datum j hj
  · rw [sp_datum] at hd1
    have hcell : ∀ j, W.cell? ⟨1, j, none⟩ = cs1.toList[j]? := fun j => by
      rw [World.var?_cell hg1 hv1 j, Array.getElem?_toList]
    obtain ⟨fs, u43, hf, hc43⟩ := underSpan
    have key : ∀ i, i < 10 → (cs1.toList.drop (i * 3)).take 3 = [Na.spn.getD i (0, 0, 0)].flatMap fun p => [Na.rv p.1, Na.rv p.2.1, Na.rv p.2.2] := by
      intro i hi
      obtain ⟨fuel', d, q, hdi, he⟩ := Lib.array_elem underSps hd1 i hi
      rw [List.getElem?_map, List.getElem?_eq_getElem (show i < Na.spn.length from hi)] at hdi
      simp only [Option.map_some, Option.some.injEq] at hdi
      subst hdi
      rw [cellsSpan] at he
      have := Lib.ints_of_struct u43 hf hc43 he
      rw [this]
      simp [List.getD, show i < Na.spn.length from hi]
    have hall : ∀ n, n ≤ 10 → cs1.toList.take (n * 3) = (Na.spn.take n).flatMap fun p => [Na.rv p.1, Na.rv p.2.1, Na.rv p.2.2] := by
      intro n
      induction n with
      | zero => intro _; simp
      | succ n ih =>
        intro hn
        have hl : n < Na.spn.length := show n < 10 by omega
        rw [Nat.succ_mul, List.take_add, ih (by omega), key n (by omega), List.take_add_one, List.flatMap_append, List.getElem?_eq_getElem hl]
        simp [List.getD, hl]
    have h30 : cs1.toList.take 30 = Na.spc := hall 10 (Nat.le_refl _)
    intro j v hv
    have hj : j < 30 := (List.getElem?_eq_some_iff.1 hv).1
    rw [Nat.zero_add, hcell, ← hv, ← h30, List.getElem?_take, if_pos hj]
set_option maxRecDepth 100000 in
theorem door2 (os : Os) (args : Array Value) : laidMetH Tryz.prog laid4 ((World.doorLaid Tryz.prog 400 os).forCall (fun _ _ => 0) ⟨#[], args, []⟩).memory :=
  laidMetH_of_parts3 (fuel := 8) (laidMet_of_run' 8 (by kernel_rfl) (by kernel_rfl)) (by kernel_rfl) (by kernel_rfl)
set_option maxRecDepth 100000 in
theorem laidOut : laidOutB Tryz.prog = true := by kernel_rfl
set_option maxRecDepth 100000 in
theorem kc3 : Tryz.prog.cellsOf 3 = 1 := by kernel_rfl
set_option maxRecDepth 100000 in
theorem kc4 : Tryz.prog.cellsOf 4 = 1 := by kernel_rfl
set_option maxRecDepth 100000 in
theorem kc9 : Tryz.prog.cellsOf 9 = 1 := by kernel_rfl
set_option maxRecDepth 100000 in
theorem kc40 : Tryz.prog.cellsOf 38 = 1 := by kernel_rfl
set_option maxRecDepth 100000 in
theorem kc50 : Tryz.prog.cellsOf 40 = 10 := by kernel_rfl
set_option maxRecDepth 100000 in
theorem in_u64 {a : Int} (h : (Lit.int .u64 a).wf = true) : 0 ≤ a ∧ a < 18446744073709551616 := by
  have m1 : IntKind.u64.min = 0 := by decide
  have m2 : IntKind.u64.max = 18446744073709551615 := by decide
  simp [Lit.wf, m1, m2] at h
  omega
set_option maxRecDepth 100000 in
theorem sz (s : ByteArray) : s.data.toList.length = s.size := by rw [Array.length_toList]; rfl
set_option maxRecDepth 100000 in
theorem cfg_open {H : Type} {enc : TypeId × Value → H} {W : World} {base fuel : Nat} {v : Value} {d : DataW H} {pl : List MemPlace} (hv : Value.okWide Tryz.prog W .any base 24 v) (hf : DataW.trod enc Tryz.prog W 0 (fun _ => true) true fuel 24 v.cells.toList = some (d, pl)) :
    ∃ (c : Cf) (u : Value), v = .agg (cfv c u) := by
  obtain ⟨cs, rfl, _⟩ := okWide_struct Tryz.underlying24 hv
  simp only [Value.cells] at hf
  obtain ⟨xs, n, _, hx, hlen, hxl, hfl⟩ := DataW.trod_struct Tryz.underlying24 hf
  have hlen : cs.toList.length = 13 := hlen.trans (by kernel_rfl)
  have hcs : cs = cs.toList.toArray := by simp
  generalize cs.toList = l at hlen hfl hcs
  subst hcs
  match l, hlen with
  | [c0, c1, c2, c3, c4, c5, c6, c7, c8, c9, c10, c11, c12], _ =>
  match xs, (show xs.length = 13 from hxl) with
  | [y0, y1, y2, y3, y4, y5, y6, y7, y8, y9, y10, y11, y12], _ =>
  have t0 : DataW.trod enc Tryz.prog W 0 (fun _ => true) true n 3 (([c0, c1, c2, c3, c4, c5, c6, c7, c8, c9, c10, c11, c12].drop 0).take (Tryz.prog.cellsOf 3)) = some y0 := hfl 0 _ rfl
  rw [kc3] at t0
  have t1 : DataW.trod enc Tryz.prog W 0 (fun _ => true) true n 3 (([c0, c1, c2, c3, c4, c5, c6, c7, c8, c9, c10, c11, c12].drop 1).take (Tryz.prog.cellsOf 3)) = some y1 := hfl 1 _ rfl
  rw [kc3] at t1
  have t2 : DataW.trod enc Tryz.prog W 0 (fun _ => true) true n 3 (([c0, c1, c2, c3, c4, c5, c6, c7, c8, c9, c10, c11, c12].drop 2).take (Tryz.prog.cellsOf 3)) = some y2 := hfl 2 _ rfl
  rw [kc3] at t2
  have t3 : DataW.trod enc Tryz.prog W 0 (fun _ => true) true n 3 (([c0, c1, c2, c3, c4, c5, c6, c7, c8, c9, c10, c11, c12].drop 3).take (Tryz.prog.cellsOf 3)) = some y3 := hfl 3 _ rfl
  rw [kc3] at t3
  have t4 : DataW.trod enc Tryz.prog W 0 (fun _ => true) true n 3 (([c0, c1, c2, c3, c4, c5, c6, c7, c8, c9, c10, c11, c12].drop 4).take (Tryz.prog.cellsOf 3)) = some y4 := hfl 4 _ rfl
  rw [kc3] at t4
  have t5 : DataW.trod enc Tryz.prog W 0 (fun _ => true) true n 3 (([c0, c1, c2, c3, c4, c5, c6, c7, c8, c9, c10, c11, c12].drop 5).take (Tryz.prog.cellsOf 3)) = some y5 := hfl 5 _ rfl
  rw [kc3] at t5
  have t6 : DataW.trod enc Tryz.prog W 0 (fun _ => true) true n 3 (([c0, c1, c2, c3, c4, c5, c6, c7, c8, c9, c10, c11, c12].drop 6).take (Tryz.prog.cellsOf 3)) = some y6 := hfl 6 _ rfl
  rw [kc3] at t6
  have t7 : DataW.trod enc Tryz.prog W 0 (fun _ => true) true n 3 (([c0, c1, c2, c3, c4, c5, c6, c7, c8, c9, c10, c11, c12].drop 7).take (Tryz.prog.cellsOf 3)) = some y7 := hfl 7 _ rfl
  rw [kc3] at t7
  have t8 : DataW.trod enc Tryz.prog W 0 (fun _ => true) true n 3 (([c0, c1, c2, c3, c4, c5, c6, c7, c8, c9, c10, c11, c12].drop 8).take (Tryz.prog.cellsOf 3)) = some y8 := hfl 8 _ rfl
  rw [kc3] at t8
  have t9 : DataW.trod enc Tryz.prog W 0 (fun _ => true) true n 3 (([c0, c1, c2, c3, c4, c5, c6, c7, c8, c9, c10, c11, c12].drop 9).take (Tryz.prog.cellsOf 3)) = some y9 := hfl 9 _ rfl
  rw [kc3] at t9
  have t10 : DataW.trod enc Tryz.prog W 0 (fun _ => true) true n 9 (([c0, c1, c2, c3, c4, c5, c6, c7, c8, c9, c10, c11, c12].drop 10).take (Tryz.prog.cellsOf 9)) = some y10 := hfl 10 _ rfl
  rw [kc9] at t10
  have t11 : DataW.trod enc Tryz.prog W 0 (fun _ => true) true n 9 (([c0, c1, c2, c3, c4, c5, c6, c7, c8, c9, c10, c11, c12].drop 11).take (Tryz.prog.cellsOf 9)) = some y11 := hfl 11 _ rfl
  rw [kc9] at t11
  obtain ⟨x0, e0, _, _⟩ := DataW.trod_int Tryz.underlying3 t0
  obtain rfl : c0 = _ := by simpa using e0
  obtain ⟨x1, e1, _, _⟩ := DataW.trod_int Tryz.underlying3 t1
  obtain rfl : c1 = _ := by simpa using e1
  obtain ⟨x2, e2, _, _⟩ := DataW.trod_int Tryz.underlying3 t2
  obtain rfl : c2 = _ := by simpa using e2
  obtain ⟨x3, e3, _, _⟩ := DataW.trod_int Tryz.underlying3 t3
  obtain rfl : c3 = _ := by simpa using e3
  obtain ⟨x4, e4, _, _⟩ := DataW.trod_int Tryz.underlying3 t4
  obtain rfl : c4 = _ := by simpa using e4
  obtain ⟨x5, e5, _, _⟩ := DataW.trod_int Tryz.underlying3 t5
  obtain rfl : c5 = _ := by simpa using e5
  obtain ⟨x6, e6, _, _⟩ := DataW.trod_int Tryz.underlying3 t6
  obtain rfl : c6 = _ := by simpa using e6
  obtain ⟨x7, e7, _, _⟩ := DataW.trod_int Tryz.underlying3 t7
  obtain rfl : c7 = _ := by simpa using e7
  obtain ⟨x8, e8, _, _⟩ := DataW.trod_int Tryz.underlying3 t8
  obtain rfl : c8 = _ := by simpa using e8
  obtain ⟨x9, e9, _, _⟩ := DataW.trod_int Tryz.underlying3 t9
  obtain rfl : c9 = _ := by simpa using e9
  obtain ⟨x10, e10, _, _⟩ := DataW.trod_string Tryz.underlying9 t10
  obtain rfl : c10 = _ := by simpa using e10
  obtain ⟨x11, e11, _, _⟩ := DataW.trod_string Tryz.underlying9 t11
  obtain rfl : c11 = _ := by simpa using e11
  exact ⟨⟨x0, x1, x2, x3, x4, x5, x6, x7, x8, x9, x10, x11⟩, c12, rfl⟩
set_option maxRecDepth 100000 in
theorem okWide_arr {P : Program} {w : World} {r : Reach} {base : Nat} {t : TypeId} {v : Value} {n : Nat} {e : TypeId} (ht : P.underlying t = some (.array n e)) (h : Value.okWide P w r base t v) : ∃ cs, v = .agg cs ∧ cs.size = P.cellsOf t := by
  simp only [Value.okWide, ht] at h
  obtain ⟨cs, h1, h2, _⟩ := h
  exact ⟨cs, h1, h2⟩
def datum {H : Type} (o : Opr) : DataW H := .agg [.lit (.int .i64 o.kd), .lit (.int .i64 o.wh), .lit (.string o.a.data.toList), .lit (.string o.b.data.toList), .lit (.string o.c.data.toList), .lit (.string o.nm.data.toList), .lit (.int .u64 o.ses), .lit (.int .u64 o.seq), .lit (.int .u64 o.tick), .lit (.bool o.yes)]
structure Num (o : Opr) : Prop where
  ses : o.ses < 18446744073709551616
  seq : o.seq < 18446744073709551616
  tick : o.tick < 18446744073709551616
instance : Inhabited Opr := ⟨⟨0, 0, ⟨#[]⟩, ⟨#[]⟩, ⟨#[]⟩, ⟨#[]⟩, 0, 0, 0, false⟩⟩
set_option maxRecDepth 100000 in
set_option maxHeartbeats 4000000 in
theorem scr_open {H : Type} {enc : TypeId × Value → H} {W : World} {a0 : Option Addr} {n0 c0 fuel : Nat} {d : DataW H} {pl : List MemPlace} (hf : DataW.trod enc Tryz.prog W 0 (fun _ => true) true fuel 25 (Value.slice a0 n0 c0).cells.toList = some (d, pl)) :
    ∃ L : List Opr, (∃ a cap, Value.slice a0 n0 c0 = .slice a L.length cap ∧ (0 < L.length → ∃ g o, a = some ⟨g, o, none⟩ ∧ ∀ (j : Nat) (x : Opr), L[j]? = some x → W.rangeAt g (o + j * 10) (opv x))) ∧ (∀ x ∈ L, Num x) ∧ ((d = .nil ∧ L = []) ∨ ∃ spare, d = .slice (L.map datum) spare) := by
  rcases Deep.open_slice Tryz.underlying25 hf with ⟨hcs, hx⟩ | ⟨a, len, cap, m, n, D, Pl, hcs, _, hl, hm, hmm, hx, hel⟩
  · have e : Value.slice a0 n0 c0 = Value.slice none 0 0 := by simpa [Value.cells] using hcs
    injection e with e1 e2 e3
    subst e1 e2 e3
    simp only [Prod.mk.injEq] at hx
    exact ⟨[], ⟨none, 0, rfl, fun h => by cases h⟩, fun o ho => (by cases ho), .inl ⟨hx.1, rfl⟩⟩
  · have e : Value.slice a0 n0 c0 = Value.slice (some a) len cap := by simpa [Value.cells] using hcs
    injection e with e1 e2 e3
    subst e1 e2 e3
    simp only [if_true] at hmm
    simp only [Prod.mk.injEq] at hx
    have each : ∀ i, i < m → ∃ o : Opr, Num o ∧ D i = datum o ∧ ∀ j v, (opv o)[j]? = some v → W.cell? (a.add (i * 10 + j)) = some v := by
      intro i hi
      obtain ⟨cs', h1, h2⟩ := hel i hi
      rw [kc50] at h1
      obtain ⟨_, hlen, hcell⟩ := World.cells?_some h1
      obtain ⟨xs, k, _, hD, _, hxl, hfl⟩ := DataW.trod_struct Tryz.underlying40 h2
      match cs', hlen with
      | [x0, x1, x2, x3, x4, x5, x6, x7, x8, x9], _ =>
      match xs, (show xs.length = 10 from hxl) with
      | [y0, y1, y2, y3, y4, y5, y6, y7, y8, y9], _ =>
        have t0 : DataW.trod enc Tryz.prog W 0 (fun _ => true) true k 3 (([x0, x1, x2, x3, x4, x5, x6, x7, x8, x9].drop 0).take (Tryz.prog.cellsOf 3)) = some y0 := hfl 0 _ rfl
        rw [kc3] at t0
        have t1 : DataW.trod enc Tryz.prog W 0 (fun _ => true) true k 3 (([x0, x1, x2, x3, x4, x5, x6, x7, x8, x9].drop 1).take (Tryz.prog.cellsOf 3)) = some y1 := hfl 1 _ rfl
        rw [kc3] at t1
        have t2 : DataW.trod enc Tryz.prog W 0 (fun _ => true) true k 9 (([x0, x1, x2, x3, x4, x5, x6, x7, x8, x9].drop 2).take (Tryz.prog.cellsOf 9)) = some y2 := hfl 2 _ rfl
        rw [kc9] at t2
        have t3 : DataW.trod enc Tryz.prog W 0 (fun _ => true) true k 9 (([x0, x1, x2, x3, x4, x5, x6, x7, x8, x9].drop 3).take (Tryz.prog.cellsOf 9)) = some y3 := hfl 3 _ rfl
        rw [kc9] at t3
        have t4 : DataW.trod enc Tryz.prog W 0 (fun _ => true) true k 9 (([x0, x1, x2, x3, x4, x5, x6, x7, x8, x9].drop 4).take (Tryz.prog.cellsOf 9)) = some y4 := hfl 4 _ rfl
        rw [kc9] at t4
        have t5 : DataW.trod enc Tryz.prog W 0 (fun _ => true) true k 9 (([x0, x1, x2, x3, x4, x5, x6, x7, x8, x9].drop 5).take (Tryz.prog.cellsOf 9)) = some y5 := hfl 5 _ rfl
        rw [kc9] at t5
        have t6 : DataW.trod enc Tryz.prog W 0 (fun _ => true) true k 38 (([x0, x1, x2, x3, x4, x5, x6, x7, x8, x9].drop 6).take (Tryz.prog.cellsOf 38)) = some y6 := hfl 6 _ rfl
        rw [kc40] at t6
        have t7 : DataW.trod enc Tryz.prog W 0 (fun _ => true) true k 38 (([x0, x1, x2, x3, x4, x5, x6, x7, x8, x9].drop 7).take (Tryz.prog.cellsOf 38)) = some y7 := hfl 7 _ rfl
        rw [kc40] at t7
        have t8 : DataW.trod enc Tryz.prog W 0 (fun _ => true) true k 38 (([x0, x1, x2, x3, x4, x5, x6, x7, x8, x9].drop 8).take (Tryz.prog.cellsOf 38)) = some y8 := hfl 8 _ rfl
        rw [kc40] at t8
        have t9 : DataW.trod enc Tryz.prog W 0 (fun _ => true) true k 4 (([x0, x1, x2, x3, x4, x5, x6, x7, x8, x9].drop 9).take (Tryz.prog.cellsOf 4)) = some y9 := hfl 9 _ rfl
        rw [kc4] at t9
        obtain ⟨z0, e0, d0, r0⟩ := DataW.trod_int Tryz.underlying3 t0
        obtain ⟨z1, e1, d1, r1⟩ := DataW.trod_int Tryz.underlying3 t1
        obtain ⟨z2, e2, d2, r2⟩ := DataW.trod_string Tryz.underlying9 t2
        obtain ⟨z3, e3, d3, r3⟩ := DataW.trod_string Tryz.underlying9 t3
        obtain ⟨z4, e4, d4, r4⟩ := DataW.trod_string Tryz.underlying9 t4
        obtain ⟨z5, e5, d5, r5⟩ := DataW.trod_string Tryz.underlying9 t5
        obtain ⟨z6, e6, d6, r6⟩ := DataW.trod_int Tryz.underlying38 t6
        obtain ⟨z7, e7, d7, r7⟩ := DataW.trod_int Tryz.underlying38 t7
        obtain ⟨z8, e8, d8, r8⟩ := DataW.trod_int Tryz.underlying38 t8
        obtain ⟨z9, e9, d9⟩ := DataW.trod_bool Tryz.underlying4 t9
        simp at e0 e1 e2 e3 e4 e5 e6 e7 e8 e9
        subst e0 e1 e2 e3 e4 e5 e6 e7 e8 e9
        have u6 := in_u64 r6
        have u7 := in_u64 r7
        have u8' := in_u64 r8
        have w6 : ((z6.toNat : Nat) : Int) = z6 := by omega
        have w7 : ((z7.toNat : Nat) : Int) = z7 := by omega
        have w8 : ((z8.toNat : Nat) : Int) = z8 := by omega
        refine ⟨⟨z0, z1, z2, z3, z4, z5, z6.toNat, z7.toNat, z8.toNat, z9⟩, ⟨by show z6.toNat < _; omega, by show z7.toNat < _; omega, by show z8.toNat < _; omega⟩, ?_, fun j v hv => ?_⟩
        · rw [show D i = .agg [y0.1, y1.1, y2.1, y3.1, y4.1, y5.1, y6.1, y7.1, y8.1, y9.1] from congrArg Prod.fst hD]
          simp only [datum, w6, w7, w8, d0, d1, d2, d3, d4, d5, d6, d7, d8, d9]
        · simp only [opv, uv, w6, w7, w8] at hv
          have hj : j < 10 := (List.getElem?_eq_some_iff.1 hv).1
          have g := hcell j (by simpa using hj)
          rw [Deep.add_add] at g
          rw [g]
          exact hv
    obtain ⟨q, hq⟩ := Deep.choose_lt each
    refine ⟨(List.range n0).map q, ⟨some a, c0, by simp, fun hn => ?_⟩, fun o ho => ?_, .inr ⟨(List.range (m - n0)).map (fun j => D (n0 + j)), ?_⟩⟩
    · have hn : 0 < n0 := by simpa using hn
      obtain ⟨b, off, spot⟩ := a
      have hspot : spot = none := by simpa [Addr.add] using World.cell?_spot ((hq 0 (by omega)).2.2 0 _ rfl)
      subst hspot
      refine ⟨b, off, rfl, fun j o hj => ?_⟩
      have hj2 : j < n0 := by
        have := (List.getElem?_eq_some_iff.1 hj).1
        simpa using this
      have e : q j = o := by
        rw [List.getElem?_map, List.getElem?_range hj2] at hj
        simpa using hj
      have p := (hq j (by omega)).2.2
      rw [e] at p
      intro r v hv
      have := p r v hv
      rw [Addr.add_mid] at this
      rw [Nat.add_assoc]; exact this
    · obtain ⟨i, hi, rfl⟩ := List.mem_map.1 ho
      exact (hq i (by have := List.mem_range.1 hi; omega)).1
    · rw [hx.1, List.map_map]
      congr 1
      refine List.map_congr_left fun i hi => ?_
      exact (hq i (by have := List.mem_range.1 hi; omega)).2.1
set_option maxRecDepth 100000 in
theorem weights_mem {H : Type} {P : Program} {e : TypeId} : ∀ {l : List (DataW H)} {d : DataW H}, d ∈ l → ∀ n ∈ d.weights P e, n ∈ DataW.weightsAll P e l
  | [], _, h, _, _ => by cases h
  | x :: r, d, h, n, hn => by
    simp only [DataW.weightsAll, List.mem_append]
    rcases List.mem_cons.1 h with rfl | h
    · exact .inl hn
    · exact .inr (weights_mem h n hn)
/-- the sizes of a script's texts, by the reach -/
theorem scr_wide {H : Type} {d : DataW H} {L : List Opr} (h : (d = .nil ∧ L = []) ∨ ∃ spare, d = .slice (L.map datum) spare) (hw : ∀ n ∈ d.weights Tryz.prog 25, n ≤ 140737488351232) (x : Opr) (hx : x ∈ L) : x.a.size ≤ 140737488351232 ∧ x.b.size ≤ 140737488351232 ∧ x.c.size ≤ 140737488351232 ∧ x.nm.size ≤ 140737488351232 := by
  rcases h with ⟨_, rfl⟩ | ⟨sp, rfl⟩
  · cases hx
  · have key : ∀ n ∈ (datum (H := H) x).weights Tryz.prog 40, n ≤ 140737488351232 := fun n hn => hw n (by
      simp only [DataW.weights, Tryz.underlying25, List.mem_cons, List.mem_append]
      exact .inr (.inl (weights_mem (List.mem_map.2 ⟨x, hx, rfl⟩) n hn)))
    have e : ∀ (j : Nat) (b : ByteArray), j < 10 → (j = 2 ∧ b = x.a ∨ j = 3 ∧ b = x.b ∨ j = 4 ∧ b = x.c ∨ j = 5 ∧ b = x.nm) → b.size ≤ 140737488351232 := fun j b hj hb => by
      rw [← sz b]
      refine key _ ?_
      unfold datum
      simp only [DataW.weights, Tryz.underlying40]
      rcases hb with ⟨rfl, rfl⟩ | ⟨rfl, rfl⟩ | ⟨rfl, rfl⟩ | ⟨rfl, rfl⟩
      · exact DataW.weights_mem_each (j := 2) (t := 9) rfl rfl _ (by simp [DataW.weights])
      · exact DataW.weights_mem_each (j := 3) (t := 9) rfl rfl _ (by simp [DataW.weights])
      · exact DataW.weights_mem_each (j := 4) (t := 9) rfl rfl _ (by simp [DataW.weights])
      · exact DataW.weights_mem_each (j := 5) (t := 9) rfl rfl _ (by simp [DataW.weights])
    exact ⟨e 2 _ (by omega) (.inl ⟨rfl, rfl⟩), e 3 _ (by omega) (.inr (.inl ⟨rfl, rfl⟩)), e 4 _ (by omega) (.inr (.inr (.inl ⟨rfl, rfl⟩))), e 5 _ (by omega) (.inr (.inr (.inr ⟨rfl, rfl⟩)))⟩
end Go.Proofs.YtplcicbpkbamnabGreatDoor.Lo

