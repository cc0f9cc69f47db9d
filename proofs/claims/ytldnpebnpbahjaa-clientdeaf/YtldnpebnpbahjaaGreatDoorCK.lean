import Derived.Test.YtldnpebnpbahjaaGreatDoorRows
import Derived.Test.YtldnpebnpbahjaaGreatDoorChecked
import Derived.Test.YtldnpebnpbahjaaGreatDoorCB3
import Derived.SevenTiedAt
import Derived.ProofKit
import Derived.LaidMore
import Derived.OpenShut
import Derived.Stop.Joined
import Derived.Lib.LaidU8
import Derived.Deep.Slices
import Derived.Deep.Strs
import Derived.SizedLaws
import Derived.ChangeMaps5
import Derived.ChangeArms
/- What the listed variables give; configurations, texts and scripts as they are handed in. -/
namespace Go.Proofs.YtldnpebnpbahjaaGreatDoor
open Go Go.ChangeShapes Go.WideShapes Go.ChangeAt Go.RowKit Pk.Sn

set_option maxRecDepth 100000 in
theorem own : ownKnob Tryz.prog.godebug = none := by kernel_rfl
set_option maxRecDepth 100000 in
theorem gK : Tryz.prog.globalNamed "joust/sha.roundWords" = some 1 := by kernel_rfl
set_option maxRecDepth 100000 in
theorem tK : (Tryz.prog.globals[1]?).map (·.type) = some 220 := by kernel_rfl
set_option maxRecDepth 100000 in
theorem gS : Tryz.prog.globalNamed "joust/name.spans" = some 0 := by kernel_rfl
set_option maxRecDepth 100000 in
theorem tS : (Tryz.prog.globals[0]?).map (·.type) = some 210 := by kernel_rfl
set_option maxRecDepth 100000 in
theorem underW : Tryz.prog.underlying 179 = some (.int .u32) := by kernel_rfl
set_option maxRecDepth 100000 in
theorem cellsW : Tryz.prog.cellsOf 179 = 1 := by kernel_rfl
set_option maxRecDepth 100000 in
theorem underKs : Tryz.prog.underlying 220 = some (.array 64 179) := by kernel_rfl
set_option maxRecDepth 100000 in
theorem underSps : Tryz.prog.underlying 210 = some (.array 10 149) := by kernel_rfl
set_option maxRecDepth 100000 in
theorem ks_datum : (Rows.laid_joust_sha_roundWords : DataW Unit) = .agg (Sha.ks.map fun x => .lit (.int .u32 x.toNat)) := by kernel_rfl
set_option maxRecDepth 100000 in
theorem sp_datum : (Rows.laid_joust_name_spans : DataW Unit) = .agg (Pk.Na.spn.map fun p => .agg ([p.1, p.2.1, p.2.2].map fun z => .lit (.int .i32 z))) := by kernel_rfl
set_option maxRecDepth 100000 in
theorem underSpan : ∃ fs, Tryz.prog.underlying 149 = some (.struct fs) ∧ (∀ (i : Nat) (f : Field), fs[i]? = some f → Tryz.prog.underlying f.type = some (.int .i32) ∧ f.offset = i ∧ Tryz.prog.cellsOf f.type = 1) ∧ Tryz.prog.cellsOf 149 = fs.size := by
  refine ⟨_, Tryz.underlying149, ?_, by kernel_rfl⟩
  intro i f h
  match i, h with
  | 0, h => simp at h; subst h; exact ⟨by kernel_rfl, rfl, by kernel_rfl⟩
  | 1, h => simp at h; subst h; exact ⟨by kernel_rfl, rfl, by kernel_rfl⟩
  | 2, h => simp at h; subst h; exact ⟨by kernel_rfl, rfl, by kernel_rfl⟩
  | i + 3, h => simp at h
set_option maxRecDepth 100000 in
theorem cellsSpan : Tryz.prog.cellsOf 149 = 3 := by kernel_rfl
/-- an array of words that reads as a known datum: its cells -/
theorem words_of {W : World} {enc : TypeId × Value → Unit} {base fuel : Nat} {spare held : Bool} {cs : List Value} {x : DataW Unit × List MemPlace} {l : List UInt32} {t : TypeId} {n : Nat} (ht : Tryz.prog.underlying t = some (.array n 179)) (hl : l.length = n)
    (h : DataW.trod enc Tryz.prog W base (fun _ => spare) held fuel t cs = some x) (hx : x.1 = .agg (l.map fun x => .lit (.int .u32 x.toNat))) (j : Nat) (hj : j < n) : cs[j]? = some (.int .u32 (l.getD j 0).toNat) := by
  obtain ⟨xs, m, rfl, rfl, hlen, hn, hel⟩ := DataW.trod_array ht h
  have hj2 : j < xs.length := by omega
  have he := hel j hj
  rw [List.getElem?_eq_getElem hj2] at he
  obtain ⟨k, e1, e2, _⟩ := DataW.trod_int underW he
  simp only [DataW.agg.injEq] at hx
  have hk : (xs.map (·.1))[j]? = (l.map fun x => (.lit (.int .u32 x.toNat) : DataW Unit))[j]? := by rw [hx]
  rw [List.getElem?_map, List.getElem?_map, List.getElem?_eq_getElem hj2, List.getElem?_eq_getElem (by omega : j < l.length)] at hk
  simp only [Option.map_some, Option.some.injEq] at hk
  rw [e2] at hk
  simp only [DataW.lit.injEq, Lit.int.injEq, true_and] at hk
  rw [cellsW, Nat.mul_one] at e1
  have : (cs.drop j)[0]? = some (.int .u32 k) := by
    have h1 : ((cs.drop j).take 1)[0]? = some (.int .u32 k) := by rw [e1]; rfl
    rwa [List.getElem?_take, if_pos (by omega)] at h1
  rw [List.getElem?_drop, Nat.add_zero] at this
  rw [this, hk]
  simp [List.getD, show j < l.length by omega]
theorem below_of {w w' : World} (h : w.grownBy w' none) : Below w.heap.size w w' := ⟨h.os, h.tape, h.output, h.size, fun k hk => h.block k hk (by simp)⟩
abbrev laid2 : List (String × DataW Unit) := [("joust/sha.roundWords", Rows.laid_joust_sha_roundWords), ("joust/name.spans", Rows.laid_joust_name_spans)]
set_option maxRecDepth 100000 in
theorem all_of_laid {W : World} (h : laidMetH Tryz.prog laid2 W) : Kc W ∧ Pk.Na.Kc W := by
  rw [MakeChecks.laidMetH_plain _ _ _ (by kernel_rfl)] at h
  obtain ⟨ps, ⟨g0, t0, cs0, f0, p0, q0, hg0, ht0, hv0, hd0, ⟨g1, t1, cs1, f1, p1, q1, hg1, ht1, hv1, hd1, _, _⟩, _⟩, _, _⟩ := h
  obtain rfl := Option.some.inj (gK.symm.trans hg0)
  obtain rfl := Option.some.inj (gS.symm.trans hg1)
  obtain rfl := Option.some.inj (tK.symm.trans ht0)
  obtain rfl := Option.some.inj (tS.symm.trans ht1)
  refine ⟨fun j hj => ?_, ?_⟩
  · rw [World.var?_cell hg0 hv0 j, ← Array.getElem?_toList]
    exact words_of underKs rfl hd0 ks_datum j hj
  · rw [sp_datum] at hd1
    have hcell : ∀ j, W.cell? ⟨0, j, none⟩ = cs1.toList[j]? := fun j => by
      rw [World.var?_cell hg1 hv1 j, Array.getElem?_toList]
    obtain ⟨fs, u43, hf, hc43⟩ := underSpan
    have key : ∀ i, i < 10 → (cs1.toList.drop (i * 3)).take 3 = [Pk.Na.spn.getD i (0, 0, 0)].flatMap fun p => [Pk.Na.rv p.1, Pk.Na.rv p.2.1, Pk.Na.rv p.2.2] := by
      intro i hi
      obtain ⟨fuel', d, q, hdi, he⟩ := Lib.array_elem underSps hd1 i hi
      rw [List.getElem?_map, List.getElem?_eq_getElem (show i < Pk.Na.spn.length from hi)] at hdi
      simp only [Option.map_some, Option.some.injEq] at hdi
      subst hdi
      rw [cellsSpan] at he
      have := Lib.ints_of_struct u43 hf hc43 he
      rw [this]
      simp [List.getD, show i < Pk.Na.spn.length from hi]
    have hall : ∀ n, n ≤ 10 → cs1.toList.take (n * 3) = (Pk.Na.spn.take n).flatMap fun p => [Pk.Na.rv p.1, Pk.Na.rv p.2.1, Pk.Na.rv p.2.2] := by
      intro n
      induction n with
      | zero => intro _; simp
      | succ n ih =>
        intro hn
        have hl : n < Pk.Na.spn.length := show n < 10 by omega
        rw [Nat.succ_mul, List.take_add, ih (by omega), key n (by omega), List.take_add_one, List.flatMap_append, List.getElem?_eq_getElem hl]
        simp [List.getD, hl]
    have h30 : cs1.toList.take 30 = Pk.Na.spc := hall 10 (Nat.le_refl _)
    intro j v hv
    have hj : j < 30 := (List.getElem?_eq_some_iff.1 hv).1
    rw [Nat.zero_add, hcell, ← hv, ← h30, List.getElem?_take, if_pos hj]
set_option maxRecDepth 100000 in
theorem door2 (os : Os) (args : Array Value) : laidMetH Tryz.prog laid2 ((World.doorLaid Tryz.prog 400 os).forCall (fun _ _ => 0) ⟨#[], args, []⟩).memory :=
  laidMetH_of_parts3 (fuel := 8) (laidMet_of_run' 8 (by kernel_rfl) (by kernel_rfl)) (by kernel_rfl) (by kernel_rfl)
set_option maxRecDepth 100000 in
theorem laidOut : laidOutB Tryz.prog = true := by kernel_rfl
set_option maxRecDepth 100000 in
theorem under22' : Tryz.prog.underlying 58 = some (.slice 9) := by kernel_rfl
set_option maxRecDepth 100000 in
theorem cells9 : Tryz.prog.cellsOf 9 = 1 := by kernel_rfl
set_option maxRecDepth 100000 in
theorem kc3 : Tryz.prog.cellsOf 3 = 1 := by kernel_rfl
set_option maxRecDepth 100000 in
theorem kc4 : Tryz.prog.cellsOf 4 = 1 := by kernel_rfl
set_option maxRecDepth 100000 in
theorem kc29 : Tryz.prog.cellsOf 29 = 4 := by kernel_rfl
set_option maxRecDepth 100000 in
theorem under29s : Tryz.prog.underlying 22 = some (.slice 29) := by kernel_rfl
set_option maxRecDepth 100000 in
theorem under42s : Tryz.prog.underlying 42 = some (.slice 26) := by kernel_rfl
set_option maxRecDepth 100000 in
theorem kc26 : Tryz.prog.cellsOf 26 = 1 := by kernel_rfl
set_option maxRecDepth 100000 in
theorem under4b : Tryz.prog.underlying 4 = some .bool := by kernel_rfl
theorem in_i {a : Int} (h : (Lit.int .i64 a).wf = true) : -9223372036854775808 ≤ a ∧ a < 9223372036854775808 := by
  have m1 : IntKind.i64.min = -9223372036854775808 := by decide
  have m2 : IntKind.i64.max = 9223372036854775807 := by decide
  simp [Lit.wf, m1, m2] at h
  omega
theorem in_u {a : Int} (h : (Lit.int .u64 a).wf = true) : 0 ≤ a ∧ a < 18446744073709551616 := by
  have m1 : IntKind.u64.min = 0 := by decide
  have m2 : IntKind.u64.max = 18446744073709551615 := by decide
  simp [Lit.wf, m1, m2] at h
  omega
set_option maxRecDepth 100000 in
/-- a command as it is handed in -/
theorem cm_open {H : Type} {enc : TypeId × Value → H} {W : World} {fuel : Nat} {l : List Value} {d : DataW H} {pl : List MemPlace} (hf : DataW.trod enc Tryz.prog W 0 (fun _ => true) true fuel 29 l = some (d, pl)) : ∃ c : Cm, l = c.cs ∧ c.ok := by
  obtain ⟨xs, n, _, hx, hlen0, hxl, hfl⟩ := DataW.trod_struct Tryz.underlying29 hf
  have hlen : l.length = 4 := hlen0.trans (by kernel_rfl)
  clear hf hlen0
  match l, hlen with
  | [c0, c1, c2, c3], _ =>
  match xs, (show xs.length = 4 from hxl) with
  | [y0, y1, y2, y3], _ =>
  have t0 : DataW.trod enc Tryz.prog W 0 (fun _ => true) true n 3 (([c0, c1, c2, c3].drop 0).take (Tryz.prog.cellsOf 3)) = some y0 := hfl 0 _ rfl
  rw [kc3] at t0
  have t1 : DataW.trod enc Tryz.prog W 0 (fun _ => true) true n 3 (([c0, c1, c2, c3].drop 1).take (Tryz.prog.cellsOf 3)) = some y1 := hfl 1 _ rfl
  rw [kc3] at t1
  have t2 : DataW.trod enc Tryz.prog W 0 (fun _ => true) true n 4 (([c0, c1, c2, c3].drop 2).take (Tryz.prog.cellsOf 4)) = some y2 := hfl 2 _ rfl
  rw [kc4] at t2
  have t3 : DataW.trod enc Tryz.prog W 0 (fun _ => true) true n 4 (([c0, c1, c2, c3].drop 3).take (Tryz.prog.cellsOf 4)) = some y3 := hfl 3 _ rfl
  rw [kc4] at t3
  obtain ⟨x0, e0, f0, m0⟩ := DataW.trod_int Tryz.underlying3 t0
  obtain rfl : c0 = _ := by simpa using e0
  obtain ⟨x1, e1, f1, m1⟩ := DataW.trod_int Tryz.underlying3 t1
  obtain rfl : c1 = _ := by simpa using e1
  obtain ⟨x2, e2, f2, _⟩ := DataW.trod_bool under4b t2
  obtain rfl : c2 = _ := by simpa using e2
  obtain ⟨x3, e3, f3, _⟩ := DataW.trod_bool under4b t3
  obtain rfl : c3 = _ := by simpa using e3
  exact ⟨⟨x0, x1, x2, x3⟩, rfl, ⟨in_i m0, in_i m1⟩⟩
/-- a list of things of k cells as it is handed in -/
theorem lst_open {α : Type} [Inhabited α] {ec : α → List Value} {k : Nat} {t e : TypeId} {Ok : α → Prop} (ht : Tryz.prog.underlying t = some (.slice e)) (hk : Tryz.prog.cellsOf e = k) (hkpos : 0 < k) (hkl : ∀ x, (ec x).length = k) {H : Type} {enc : TypeId × Value → H} {W : World} {fuel : Nat} {l : List Value} {d : DataW H} {pl : List MemPlace}
    (hel : ∀ (fuel : Nat) (cs : List Value) (d' : DataW H) (pl' : List MemPlace), DataW.trod enc Tryz.prog W 0 (fun _ => true) true fuel e cs = some (d', pl') → ∃ o, cs = ec o ∧ Ok o) (hf : DataW.trod enc Tryz.prog W 0 (fun _ => true) true fuel t l = some (d, pl)) :
    ∃ (a : Option Addr) (c : Nat) (L : List α), l = [.slice a L.length c] ∧ (∀ x ∈ L, Ok x) ∧ (0 < L.length → ∃ b o, a = some ⟨b, o, none⟩ ∧ ∀ j x, L[j]? = some x → W.rangeAt b (o + j * k) (ec x)) := by
  rcases Deep.open_slice ht hf with ⟨hcs, hx⟩ | ⟨a, len, cap, m, n, D, Pl, hcs, _, hl, hm, hmm, hx, hel2⟩
  · exact ⟨none, 0, [], hcs, fun o ho => (by cases ho), fun h => by cases h⟩
  · simp only [if_true] at hmm
    have each : ∀ i, i < len → ∃ o : α, Ok o ∧ ∀ j v, (ec o)[j]? = some v → W.cell? (a.add (i * k + j)) = some v := by
      intro i hi
      obtain ⟨cs', h1, h2⟩ := hel2 i (by omega)
      rw [hk] at h1
      obtain ⟨_, hlen, hcell⟩ := World.cells?_some h1
      obtain ⟨c, rfl, h3⟩ := hel _ _ _ _ h2
      refine ⟨c, h3, fun j v hv => ?_⟩
      have hj : j < k := by have := (List.getElem?_eq_some_iff.1 hv).1; rw [hkl] at this; exact this
      have g := hcell j (by simpa [hkl] using hj)
      rw [Deep.add_add] at g
      rw [g]
      exact hv
    have hq0 : ∀ i, ∃ o : α, i < len → Ok o ∧ ∀ j v, (ec o)[j]? = some v → W.cell? (a.add (i * k + j)) = some v := fun i => by
      by_cases hi : i < len
      · obtain ⟨o, ho⟩ := each i hi
        exact ⟨o, fun _ => ho⟩
      · exact ⟨default, fun q => absurd q hi⟩
    obtain ⟨q, hq⟩ := Classical.axiomOfChoice hq0
    refine ⟨some a, cap, (List.range len).map q, by simpa using hcs, fun o ho => ?_, fun hn => ?_⟩
    · obtain ⟨i, hi, rfl⟩ := List.mem_map.1 ho
      exact (hq i (by have := List.mem_range.1 hi; omega)).1
    · have hn : 0 < len := by simpa using hn
      obtain ⟨b, off, spot⟩ := a
      have hspot : spot = none := by
        have h0 : 0 < (ec (q 0)).length := by rw [hkl]; exact hkpos
        simpa [Addr.add] using World.cell?_spot ((hq 0 (by omega)).2 0 _ (List.getElem?_eq_getElem h0))
      subst hspot
      refine ⟨b, off, rfl, fun j o hj => ?_⟩
      have hj2 : j < len := by
        have := (List.getElem?_eq_some_iff.1 hj).1
        simpa using this
      have e : q j = o := by
        rw [List.getElem?_map, List.getElem?_range hj2] at hj
        simpa using hj
      have p := (hq j (by omega)).2
      rw [e] at p
      intro r v hv
      have := p r v hv
      rw [Addr.add_mid] at this
      rw [Nat.add_assoc]; exact this
instance : Inhabited Cm := ⟨⟨0, 0, false, false⟩⟩
/-- a list of strings as it is handed in -/
theorem strs_open {H : Type} {enc : TypeId × Value → H} {W : World} {a0 : Option Addr} {n0 c0 fuel : Nat} {d : DataW H} {pl : List MemPlace} (hf : DataW.trod enc Tryz.prog W 0 (fun _ => true) true fuel 58 (Value.slice a0 n0 c0).cells.toList = some (d, pl)) :
    ∃ ps : List ByteArray, Strs W a0 n0 ps ∧ n0 ≤ c0 ∧ (a0 = none → c0 = 0) ∧ (n0 = 0 ∨ ∃ elems spare, d = .slice elems spare ∧ n0 ≤ elems.length + spare.length) ∧ ∀ (j : Nat) (p : ByteArray), ps[j]? = some p → p.size ≤ 9223372036854775807 := by
  rcases Deep.open_strs under22' under9 cells9 hf with ⟨hcs, hx⟩ | ⟨a, len, cap, m, Sx, hcs, _, hl, _, hm, hx, hc⟩
  · have e : Value.slice a0 n0 c0 = Value.slice none 0 0 := by simpa [Value.cells] using hcs
    injection e with e1 e2 e3
    subst e1 e2 e3
    exact ⟨[], ⟨rfl, fun h => by omega⟩, Nat.le_refl _, fun _ => rfl, .inl rfl, fun j p h => by simp at h⟩
  · have e : Value.slice a0 n0 c0 = Value.slice (some a) len cap := by simpa [Value.cells] using hcs
    injection e with e1 e2 e3
    subst e1 e2 e3
    simp only [if_true] at hm
    simp only [Prod.mk.injEq] at hx
    have at_ : ∀ j p, ((List.range n0).map Sx)[j]? = some p → j < n0 ∧ Sx j = p := fun j p hp => by
      have hj : j < n0 := by have := (List.getElem?_eq_some_iff.1 hp).1; simpa using this
      refine ⟨hj, ?_⟩
      have : ((List.range n0).map Sx)[j]? = some (Sx j) := by rw [List.getElem?_map, List.getElem?_range hj]; rfl
      rw [this] at hp; exact Option.some.inj hp
    refine ⟨(List.range n0).map Sx, ⟨by simp, fun hn => ?_⟩, by omega, (fun h => by cases h), .inr ⟨_, _, hx.1, by simp⟩, fun j p hp => ?_⟩
    · have h0 := (hc 0 (by omega)).1
      obtain ⟨b, off, rfl⟩ : ∃ b off, a = ⟨b, off, none⟩ := by
        obtain ⟨b, off, bt⟩ := a
        cases bt with
        | none => exact ⟨b, off, rfl⟩
        | some x =>
          exfalso
          simp [World.cell?, Addr.add] at h0
          split at h0 <;> cases h0
      refine ⟨b, off, rfl, fun j p hp => ?_⟩
      obtain ⟨hj, e2⟩ := at_ j p hp
      have := (hc j (by omega)).1
      rw [Addr.add_mid] at this
      rw [this, e2]
    · obtain ⟨hj, e2⟩ := at_ j p hp
      have := (hc j (by omega)).2
      rw [e2] at this
      exact this
end Go.Proofs.YtldnpebnpbahjaaGreatDoor
