import Derived.Test.YtplcicbpkbamnaaGreatDoorRows
import Derived.Test.YtplcicbpkbamnaaGreatDoorChecked
import Derived.Test.YtplcicbpkbamnaaGreatDoorX25
import Derived.ProofKit
import Derived.LaidMore
import Derived.OpenShut
import Derived.Stop.Joined
import Derived.Lib.LaidU8
import Derived.Deep.Slices
import Derived.Deep.Strs
import Derived.SizedLaws
import Derived.ChangeMaps5
import Derived.ChangeArms
/- What the listed variables give; configurations, texts and scripts as they are handed in. -/
namespace Go.Proofs.YtplcicbpkbamnaaGreatDoor.Lo
open Go Go.ChangeShapes Go.WideShapes Go.ChangeAt Go.RowKit

set_option maxRecDepth 100000 in
theorem own : ownKnob Tryz.prog.godebug = none := by kernel_rfl
set_option maxRecDepth 100000 in
theorem gK : Tryz.prog.globalNamed "joust/sha.roundWords" = some 0 := by kernel_rfl
set_option maxRecDepth 100000 in
theorem tK : (Tryz.prog.globals[0]?).map (·.type) = some 137 := by kernel_rfl
set_option maxRecDepth 100000 in
theorem gS : Tryz.prog.globalNamed "joust/name.spans" = some 1 := by kernel_rfl
set_option maxRecDepth 100000 in
theorem tS : (Tryz.prog.globals[1]?).map (·.type) = some 142 := by kernel_rfl
set_option maxRecDepth 100000 in
theorem underW : Tryz.prog.underlying 120 = some (.int .u32) := by kernel_rfl
set_option maxRecDepth 100000 in
theorem cellsW : Tryz.prog.cellsOf 120 = 1 := by kernel_rfl
set_option maxRecDepth 100000 in
theorem underKs : Tryz.prog.underlying 137 = some (.array 64 120) := by kernel_rfl
set_option maxRecDepth 100000 in
theorem underSps : Tryz.prog.underlying 142 = some (.array 10 128) := by kernel_rfl
set_option maxRecDepth 100000 in
theorem ks_datum : (Rows.laid_joust_sha_roundWords : DataW Unit) = .agg (Sha.ks.map fun x => .lit (.int .u32 x.toNat)) := by kernel_rfl
set_option maxRecDepth 100000 in
theorem sp_datum : (Rows.laid_joust_name_spans : DataW Unit) = .agg (Na.spn.map fun p => .agg ([p.1, p.2.1, p.2.2].map fun z => .lit (.int .i32 z))) := by kernel_rfl
set_option maxRecDepth 100000 in
theorem underSpan : ∃ fs, Tryz.prog.underlying 128 = some (.struct fs) ∧ (∀ (i : Nat) (f : Field), fs[i]? = some f → Tryz.prog.underlying f.type = some (.int .i32) ∧ f.offset = i ∧ Tryz.prog.cellsOf f.type = 1) ∧ Tryz.prog.cellsOf 128 = fs.size := by
  refine ⟨_, Tryz.underlying128, ?_, by kernel_rfl⟩
  intro i f h
  match i, h with
  | 0, h => simp at h; subst h; exact ⟨by kernel_rfl, rfl, by kernel_rfl⟩
  | 1, h => simp at h; subst h; exact ⟨by kernel_rfl, rfl, by kernel_rfl⟩
  | 2, h => simp at h; subst h; exact ⟨by kernel_rfl, rfl, by kernel_rfl⟩
  | i + 3, h => simp at h
set_option maxRecDepth 100000 in
theorem cellsSpan : Tryz.prog.cellsOf 128 = 3 := by kernel_rfl
/-- an array of words that reads as a known datum: its cells -/
theorem words_of {W : World} {enc : TypeId × Value → Unit} {base fuel : Nat} {spare held : Bool} {cs : List Value} {x : DataW Unit × List MemPlace} {l : List UInt32} {t : TypeId} {n : Nat} (ht : Tryz.prog.underlying t = some (.array n 120)) (hl : l.length = n)
    (h : DataW.trod enc Tryz.prog W base (fun _ => spare) held fuel t cs = some x) (hx : x.1 = .agg (l.map fun x => .lit (.int .u32 x.toNat))) (j : Nat) (hj : j < n) : cs[j]? = some (.int .u32 (l.getD j 0).toNat) := by
  obtain ⟨xs, m, rfl, rfl, hlen, hn, hel⟩ := DataW.trod_array ht h
  have hj2 : j < xs.length := by omega
  have he := hel j hj
  rw [List.getElem?_eq_getElem hj2] at he
  obtain ⟨k, e1, e2, _⟩ := DataW.trod_int underW he
  simp only [DataW.agg.injEq] at hx
  have hk : (xs.map (·.1))[j]? = (l.map fun x => (.lit (.int .u32 x.toNat) : DataW Unit))[j]? := by rw [hx]
  rw [List.getElem?_map, List.getElem?_map, List.getElem?_eq_getElem hj2, List.getElem?_eq_getElem (by omega : j < l.length)] at hk
  simp only [Option.map_some, Option.some.injEq] at hk
  rw [e2] at hk
  simp only [DataW.lit.injEq, Lit.int.injEq, true_and] at hk
  rw [cellsW, Nat.mul_one] at e1
  have : (cs.drop j)[0]? = some (.int .u32 k) := by
    have h1 : ((cs.drop j).take 1)[0]? = some (.int .u32 k) := by rw [e1]; rfl
    rwa [List.getElem?_take, if_pos (by omega)] at h1
  rw [List.getElem?_drop, Nat.add_zero] at this
  rw [this, hk]
  simp [List.getD, show j < l.length by omega]
set_option maxRecDepth 100000 in
theorem below_of {w w' : World} (h : w.grownBy w' none) : Below w.heap.size w w' := ⟨h.os, h.tape, h.output, h.size, fun k hk => h.block k hk (by simp)⟩
abbrev laid2 : List (String × DataW Unit) := [("joust/sha.roundWords", Rows.laid_joust_sha_roundWords), ("joust/name.spans", Rows.laid_joust_name_spans)]
set_option maxRecDepth 100000 in
theorem all_of_laid {W : World} (h : laidMetH Tryz.prog laid2 W) : Kc W ∧ Na.Kc W := by
  rw [MakeChecks.laidMetH_plain _ _ _ (by kernel_rfl)] at h
  obtain ⟨ps, ⟨g0, t0, cs0, f0, p0, q0, hg0, ht0, hv0, hd0, ⟨g1, t1, cs1, f1, p1, q1, hg1, ht1, hv1, hd1, _, _⟩, _⟩, _, _⟩ := h
  obtain rfl := Option.some.inj (gK.symm.trans hg0)
  obtain rfl := Option.some.inj (gS.symm.trans hg1)
  obtain rfl := Option.some.inj (tK.symm.trans ht0)
  obtain rfl := Option.some.inj (tS.symm.trans ht1)
  refine ⟨fun j hj => ?_, ?_⟩
  · rw [World.var?_cell hg0 hv0 j, ← Array.getElem?_toList]
    exact words_of underKs rfl hd0 ks_datum j hj
  · rw [sp_datum] at hd1
    have hcell : ∀ j, W.cell? ⟨1, j, none⟩ = cs1.toList[j]? := fun j => by
      rw [World.var?_cell hg1 hv1 j, Array.getElem?_toList]
    obtain ⟨fs, u43, hf, hc43⟩ := underSpan
    have key : ∀ i, i < 10 → (cs1.toList.drop (i * 3)).take 3 = [Na.spn.getD i (0, 0, 0)].flatMap fun p => [Na.rv p.1, Na.rv p.2.1, Na.rv p.2.2] := by
      intro i hi
      obtain ⟨fuel', d, q, hdi, he⟩ := Lib.array_elem underSps hd1 i hi
      rw [List.getElem?_map, List.getElem?_eq_getElem (show i < Na.spn.length from hi)] at hdi
      simp only [Option.map_some, Option.some.injEq] at hdi
      subst hdi
      rw [cellsSpan] at he
      have := Lib.ints_of_struct u43 hf hc43 he
      rw [this]
      simp [List.getD, show i < Na.spn.length from hi]
    have hall : ∀ n, n ≤ 10 → cs1.toList.take (n * 3) = (Na.spn.take n).flatMap fun p => [Na.rv p.1, Na.rv p.2.1, Na.rv p.2.2] := by
      intro n
      induction n with
      | zero => intro _; simp
      | succ n ih =>
        intro hn
        have hl : n < Na.spn.length := show n < 10 by omega
        rw [Nat.succ_mul, List.take_add, ih (by omega), key n (by omega), List.take_add_one, List.flatMap_append, List.getElem?_eq_getElem hl]
        simp [List.getD, hl]
    have h30 : cs1.toList.take 30 = Na.spc := hall 10 (Nat.le_refl _)
    intro j v hv
    have hj : j < 30 := (List.getElem?_eq_some_iff.1 hv).1
    rw [Nat.zero_add, hcell, ← hv, ← h30, List.getElem?_take, if_pos hj]
set_option maxRecDepth 100000 in
theorem door2 (os : Os) (args : Array Value) : laidMetH Tryz.prog laid2 ((World.doorLaid Tryz.prog 400 os).forCall (fun _ _ => 0) ⟨#[], args, []⟩).memory :=
  laidMetH_of_parts3 (fuel := 8) (laidMet_of_run' 8 (by kernel_rfl) (by kernel_rfl)) (by kernel_rfl) (by kernel_rfl)
set_option maxRecDepth 100000 in
theorem laidOut : laidOutB Tryz.prog = true := by kernel_rfl
set_option maxRecDepth 100000 in
theorem kc3 : Tryz.prog.cellsOf 3 = 1 := by kernel_rfl
set_option maxRecDepth 100000 in
theorem kc4 : Tryz.prog.cellsOf 4 = 1 := by kernel_rfl
set_option maxRecDepth 100000 in
theorem kc9 : Tryz.prog.cellsOf 9 = 1 := by kernel_rfl
set_option maxRecDepth 100000 in
theorem kc40 : Tryz.prog.cellsOf 37 = 1 := by kernel_rfl
set_option maxRecDepth 100000 in
theorem in_u64 {a : Int} (h : (Lit.int .u64 a).wf = true) : 0 ≤ a ∧ a < 18446744073709551616 := by
  have m1 : IntKind.u64.min = 0 := by decide
  have m2 : IntKind.u64.max = 18446744073709551615 := by decide
  simp [Lit.wf, m1, m2] at h
  omega
set_option maxRecDepth 100000 in
theorem sz (s : ByteArray) : s.data.toList.length = s.size := by rw [Array.length_toList]; rfl
set_option maxRecDepth 100000 in
theorem cfg_open {H : Type} {enc : TypeId × Value → H} {W : World} {base fuel : Nat} {v : Value} {d : DataW H} {pl : List MemPlace} (hv : Value.okWide Tryz.prog W .any base 24 v) (hf : DataW.trod enc Tryz.prog W 0 (fun _ => true) true fuel 24 v.cells.toList = some (d, pl)) :
    ∃ (c : Cf) (u : Value), v = .agg (cfv c u) := by
  obtain ⟨cs, rfl, _⟩ := okWide_struct Tryz.underlying24 hv
  simp only [Value.cells] at hf
  obtain ⟨xs, n, _, hx, hlen, hxl, hfl⟩ := DataW.trod_struct Tryz.underlying24 hf
  have hlen : cs.toList.length = 13 := hlen.trans (by kernel_rfl)
  have hcs : cs = cs.toList.toArray := by simp
  generalize cs.toList = l at hlen hfl hcs
  subst hcs
  match l, hlen with
  | [c0, c1, c2, c3, c4, c5, c6, c7, c8, c9, c10, c11, c12], _ =>
  match xs, (show xs.length = 13 from hxl) with
  | [y0, y1, y2, y3, y4, y5, y6, y7, y8, y9, y10, y11, y12], _ =>
  have t0 : DataW.trod enc Tryz.prog W 0 (fun _ => true) true n 3 (([c0, c1, c2, c3, c4, c5, c6, c7, c8, c9, c10, c11, c12].drop 0).take (Tryz.prog.cellsOf 3)) = some y0 := hfl 0 _ rfl
  rw [kc3] at t0
  have t1 : DataW.trod enc Tryz.prog W 0 (fun _ => true) true n 3 (([c0, c1, c2, c3, c4, c5, c6, c7, c8, c9, c10, c11, c12].drop 1).take (Tryz.prog.cellsOf 3)) = some y1 := hfl 1 _ rfl
  rw [kc3] at t1
  have t2 : DataW.trod enc Tryz.prog W 0 (fun _ => true) true n 3 (([c0, c1, c2, c3, c4, c5, c6, c7, c8, c9, c10, c11, c12].drop 2).take (Tryz.prog.cellsOf 3)) = some y2 := hfl 2 _ rfl
  rw [kc3] at t2
  have t3 : DataW.trod enc Tryz.prog W 0 (fun _ => true) true n 3 (([c0, c1, c2, c3, c4, c5, c6, c7, c8, c9, c10, c11, c12].drop 3).take (Tryz.prog.cellsOf 3)) = some y3 := hfl 3 _ rfl
  rw [kc3] at t3
  have t4 : DataW.trod enc Tryz.prog W 0 (fun _ => true) true n 3 (([c0, c1, c2, c3, c4, c5, c6, c7, c8, c9, c10, c11, c12].drop 4).take (Tryz.prog.cellsOf 3)) = some y4 := hfl 4 _ rfl
  rw [kc3] at t4
  have t5 : DataW.trod enc Tryz.prog W 0 (fun _ => true) true n 3 (([c0, c1, c2, c3, c4, c5, c6, c7, c8, c9, c10, c11, c12].drop 5).take (Tryz.prog.cellsOf 3)) = some y5 := hfl 5 _ rfl
  rw [kc3] at t5
  have t6 : DataW.trod enc Tryz.prog W 0 (fun _ => true) true n 3 (([c0, c1, c2, c3, c4, c5, c6, c7, c8, c9, c10, c11, c12].drop 6).take (Tryz.prog.cellsOf 3)) = some y6 := hfl 6 _ rfl
  rw [kc3] at t6
  have t7 : DataW.trod enc Tryz.prog W 0 (fun _ => true) true n 3 (([c0, c1, c2, c3, c4, c5, c6, c7, c8, c9, c10, c11, c12].drop 7).take (Tryz.prog.cellsOf 3)) = some y7 := hfl 7 _ rfl
  rw [kc3] at t7
  have t8 : DataW.trod enc Tryz.prog W 0 (fun _ => true) true n 3 (([c0, c1, c2, c3, c4, c5, c6, c7, c8, c9, c10, c11, c12].drop 8).take (Tryz.prog.cellsOf 3)) = some y8 := hfl 8 _ rfl
  rw [kc3] at t8
  have t9 : DataW.trod enc Tryz.prog W 0 (fun _ => true) true n 3 (([c0, c1, c2, c3, c4, c5, c6, c7, c8, c9, c10, c11, c12].drop 9).take (Tryz.prog.cellsOf 3)) = some y9 := hfl 9 _ rfl
  rw [kc3] at t9
  have t10 : DataW.trod enc Tryz.prog W 0 (fun _ => true) true n 9 (([c0, c1, c2, c3, c4, c5, c6, c7, c8, c9, c10, c11, c12].drop 10).take (Tryz.prog.cellsOf 9)) = some y10 := hfl 10 _ rfl
  rw [kc9] at t10
  have t11 : DataW.trod enc Tryz.prog W 0 (fun _ => true) true n 9 (([c0, c1, c2, c3, c4, c5, c6, c7, c8, c9, c10, c11, c12].drop 11).take (Tryz.prog.cellsOf 9)) = some y11 := hfl 11 _ rfl
  rw [kc9] at t11
  obtain ⟨x0, e0, _, _⟩ := DataW.trod_int Tryz.underlying3 t0
  obtain rfl : c0 = _ := by simpa using e0
  obtain ⟨x1, e1, _, _⟩ := DataW.trod_int Tryz.underlying3 t1
  obtain rfl : c1 = _ := by simpa using e1
  obtain ⟨x2, e2, _, _⟩ := DataW.trod_int Tryz.underlying3 t2
  obtain rfl : c2 = _ := by simpa using e2
  obtain ⟨x3, e3, _, _⟩ := DataW.trod_int Tryz.underlying3 t3
  obtain rfl : c3 = _ := by simpa using e3
  obtain ⟨x4, e4, _, _⟩ := DataW.trod_int Tryz.underlying3 t4
  obtain rfl : c4 = _ := by simpa using e4
  obtain ⟨x5, e5, _, _⟩ := DataW.trod_int Tryz.underlying3 t5
  obtain rfl : c5 = _ := by simpa using e5
  obtain ⟨x6, e6, _, _⟩ := DataW.trod_int Tryz.underlying3 t6
  obtain rfl : c6 = _ := by simpa using e6
  obtain ⟨x7, e7, _, _⟩ := DataW.trod_int Tryz.underlying3 t7
  obtain rfl : c7 = _ := by simpa using e7
  obtain ⟨x8, e8, _, _⟩ := DataW.trod_int Tryz.underlying3 t8
  obtain rfl : c8 = _ := by simpa using e8
  obtain ⟨x9, e9, _, _⟩ := DataW.trod_int Tryz.underlying3 t9
  obtain rfl : c9 = _ := by simpa using e9
  obtain ⟨x10, e10, _, _⟩ := DataW.trod_string Tryz.underlying9 t10
  obtain rfl : c10 = _ := by simpa using e10
  obtain ⟨x11, e11, _, _⟩ := DataW.trod_string Tryz.underlying9 t11
  obtain rfl : c11 = _ := by simpa using e11
  exact ⟨⟨x0, x1, x2, x3, x4, x5, x6, x7, x8, x9, x10, x11⟩, c12, rfl⟩
set_option maxRecDepth 100000 in
theorem okWide_arr {P : Program} {w : World} {r : Reach} {base : Nat} {t : TypeId} {v : Value} {n : Nat} {e : TypeId} (ht : P.underlying t = some (.array n e)) (h : Value.okWide P w r base t v) : ∃ cs, v = .agg cs ∧ cs.size = P.cellsOf t := by
  simp only [Value.okWide, ht] at h
  obtain ⟨cs, h1, h2, _⟩ := h
  exact ⟨cs, h1, h2⟩
set_option maxRecDepth 100000 in
theorem weights_mem {H : Type} {P : Program} {e : TypeId} : ∀ {l : List (DataW H)} {d : DataW H}, d ∈ l → ∀ n ∈ d.weights P e, n ∈ DataW.weightsAll P e l
  | [], _, h, _, _ => by cases h
  | x :: r, d, h, n, hn => by
    simp only [DataW.weightsAll, List.mem_append]
    rcases List.mem_cons.1 h with rfl | h
    · exact .inl hn
    · exact .inr (weights_mem h n hn)
end Go.Proofs.YtplcicbpkbamnaaGreatDoor.Lo

