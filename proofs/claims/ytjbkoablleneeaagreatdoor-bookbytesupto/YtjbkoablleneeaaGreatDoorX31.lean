import Derived.Test.YtjbkoablleneeaaGreatDoorRows
import Derived.Test.YtjbkoablleneeaaGreatDoorChecked
import Derived.Test.YtjbkoablleneeaaGreatDoorX24
import Derived.Test.YtjbkoablleneeaaGreatDoorX30
import Derived.ProofKit
import Derived.LaidMore
import Derived.OpenShut
import Derived.Stop.Joined
import Derived.Lib.LaidU8
import Derived.Deep.Slices
import Derived.Deep.Strs
import Derived.SizedLaws
import Derived.ChangeMaps5
import Derived.ChangeArms
/- what is handed in; what the listed variables give -/
namespace Go.Proofs.YtjbkoablleneeaaGreatDoor.Pk
open Go Go.ChangeShapes Go.WideShapes Go.ChangeAt Go.RowKit

set_option maxRecDepth 100000 in
theorem own : ownKnob Tryz.prog.godebug = none := by kernel_rfl
set_option maxRecDepth 100000 in
theorem gK : Tryz.prog.globalNamed "joust/sha.roundWords" = some 3 := by kernel_rfl
set_option maxRecDepth 100000 in
theorem tK : (Tryz.prog.globals[3]?).map (·.type) = some 182 := by kernel_rfl
set_option maxRecDepth 100000 in
theorem gR : Tryz.prog.globalNamed "joust/joustref01.roots" = some 0 := by kernel_rfl
set_option maxRecDepth 100000 in
theorem tR : (Tryz.prog.globals[0]?).map (·.type) = some 181 := by kernel_rfl
set_option maxRecDepth 100000 in
theorem gC : Tryz.prog.globalNamed "joust/joustref01.cubes" = some 1 := by kernel_rfl
set_option maxRecDepth 100000 in
theorem tC : (Tryz.prog.globals[1]?).map (·.type) = some 182 := by kernel_rfl
set_option maxRecDepth 100000 in
theorem underW : Tryz.prog.underlying 180 = some (.int .u32) := by kernel_rfl
set_option maxRecDepth 100000 in
theorem cellsW : Tryz.prog.cellsOf 180 = 1 := by kernel_rfl
set_option maxRecDepth 100000 in
theorem underKs : Tryz.prog.underlying 182 = some (.array 64 180) := by kernel_rfl
set_option maxRecDepth 100000 in
theorem underRt : Tryz.prog.underlying 181 = some (.array 8 180) := by kernel_rfl
set_option maxRecDepth 100000 in
theorem ks_datum : (Rows.laid_joust_sha_roundWords : DataW Unit) = .agg (Sha.ks.map fun x => .lit (.int .u32 x.toNat)) := by kernel_rfl
set_option maxRecDepth 100000 in
theorem iv_datum : (Rows.laid_joust_joustref01_roots : DataW Unit) = .agg (Sha.iv.map fun x => .lit (.int .u32 x.toNat)) := by kernel_rfl
set_option maxRecDepth 100000 in
theorem cs_datum : (Rows.laid_joust_joustref01_cubes : DataW Unit) = .agg (Sha.ks.map fun x => .lit (.int .u32 x.toNat)) := by kernel_rfl
theorem words_of {W : World} {enc : TypeId × Value → Unit} {base fuel : Nat} {spare held : Bool} {cs : List Value} {x : DataW Unit × List MemPlace} {l : List UInt32} {t : TypeId} {n : Nat} (ht : Tryz.prog.underlying t = some (.array n 180)) (hl : l.length = n)
    (h : DataW.trod enc Tryz.prog W base (fun _ => spare) held fuel t cs = some x) (hx : x.1 = .agg (l.map fun x => .lit (.int .u32 x.toNat))) (j : Nat) (hj : j < n) : cs[j]? = some (.int .u32 (l.getD j 0).toNat) := by
  obtain ⟨xs, m, rfl, rfl, hlen, hn, hel⟩ := DataW.trod_array ht h
  have hj2 : j < xs.length := by omega
  have he := hel j hj
  rw [List.getElem?_eq_getElem hj2] at he
  obtain ⟨k, e1, e2, _⟩ := DataW.trod_int underW he
  simp only [DataW.agg.injEq] at hx
  have hk : (xs.map (·.1))[j]? = (l.map fun x => (.lit (.int .u32 x.toNat) : DataW Unit))[j]? := by rw [hx]
  rw [List.getElem?_map, List.getElem?_map, List.getElem?_eq_getElem hj2, List.getElem?_eq_getElem (by omega : j < l.length)] at hk
  simp only [Option.map_some, Option.some.injEq] at hk
  rw [e2] at hk
  simp only [DataW.lit.injEq, Lit.int.injEq, true_and] at hk
  rw [cellsW, Nat.mul_one] at e1
  have : (cs.drop j)[0]? = some (.int .u32 k) := by
    have h1 : ((cs.drop j).take 1)[0]? = some (.int .u32 k) := by rw [e1]; rfl
    rwa [List.getElem?_take, if_pos (by omega)] at h1
  rw [List.getElem?_drop, Nat.add_zero] at this
  rw [this, hk]
  simp [List.getD, show j < l.length by omega]
theorem below_of {w w' : World} (h : w.grownBy w' none) : Below w.heap.size w w' := ⟨h.os, h.tape, h.output, h.size, fun k hk => h.block k hk (by simp)⟩
abbrev laid4 : List (String × DataW Unit) := [("joust/joustref01.roots", Rows.laid_joust_joustref01_roots), ("joust/joustref01.cubes", Rows.laid_joust_joustref01_cubes), ("joust/sha.roundWords", Rows.laid_joust_sha_roundWords), ("joust/name.spans", Rows.laid_joust_name_spans)]
set_option maxRecDepth 100000 in
theorem all_of_laid {W : World} (h : laidMetH Tryz.prog laid4 W) : Wk W := by
  rw [MakeChecks.laidMetH_plain _ _ _ (by kernel_rfl)] at h
  obtain ⟨ps, ⟨g2, t2, cs2, f2, p2, q2, hg2, ht2, hv2, hd2, ⟨g3, t3, cs3, f3, p3, q3, hg3, ht3, hv3, hd3, ⟨g0, t0, cs0, f0, p0, q0, hg0, ht0, hv0, hd0, ⟨g1, t1, cs1, f1, p1, q1, hg1, ht1, hv1, hd1, _, _⟩, _⟩, _⟩, _⟩, _, _⟩ := h
  obtain rfl := Option.some.inj (gR.symm.trans hg2)
  obtain rfl := Option.some.inj (gC.symm.trans hg3)
  obtain rfl := Option.some.inj (gK.symm.trans hg0)
  obtain rfl := Option.some.inj (tR.symm.trans ht2)
  obtain rfl := Option.some.inj (tC.symm.trans ht3)
  obtain rfl := Option.some.inj (tK.symm.trans ht0)
  have hr : RK W := ⟨fun j hj => by
    rw [World.var?_cell hg2 hv2 j, ← Array.getElem?_toList]
    exact words_of underRt rfl hd2 iv_datum j hj, fun j hj => by
    rw [World.var?_cell hg3 hv3 j, ← Array.getElem?_toList]
    exact words_of underKs rfl hd3 cs_datum j hj⟩
  have hk : Kc W := fun j hj => by
    rw [World.var?_cell hg0 hv0 j, ← Array.getElem?_toList]
    exact words_of underKs rfl hd0 ks_datum j hj
  have h3 := World.block_lt_of_cell? W ⟨3, 0, none⟩ (hk 0 (by omega))
  exact ⟨hk, hr, h3⟩
set_option maxRecDepth 100000 in
theorem laidOut : laidOutB Tryz.prog = true := by kernel_rfl
theorem kc3 : Tryz.prog.cellsOf 3 = 1 := by kernel_rfl
theorem kc5 : Tryz.prog.cellsOf 5 = 1 := by kernel_rfl
theorem kc9 : Tryz.prog.cellsOf 9 = 1 := by kernel_rfl
theorem kc33 : Tryz.prog.cellsOf 33 = 1 := by kernel_rfl
theorem kc35 : Tryz.prog.cellsOf 35 = 8 := by kernel_rfl
theorem in_u64 {a : Int} (h : (Lit.int .u64 a).wf = true) : 0 ≤ a ∧ a < 18446744073709551616 := by
  have m1 : IntKind.u64.min = 0 := by decide
  have m2 : IntKind.u64.max = 18446744073709551615 := by decide
  simp [Lit.wf, m1, m2] at h
  omega
theorem in_i64 {a : Int} (h : (Lit.int .i64 a).wf = true) : -9223372036854775808 ≤ a ∧ a < 9223372036854775808 := by
  have m1 : IntKind.i64.min = -9223372036854775808 := by decide
  have m2 : IntKind.i64.max = 9223372036854775807 := by decide
  simp [Lit.wf, m1, m2] at h
  omega
theorem in_u8 {a : Int} (h : (Lit.int .u8 a).wf = true) : 0 ≤ a ∧ a < 256 := by
  have m1 : IntKind.u8.min = 0 := by decide
  have m2 : IntKind.u8.max = 255 := by decide
  simp [Lit.wf, m1, m2] at h
  omega
/-- an entry as it is read -/
def datum {H : Type} (e : En) : DataW H := .agg [.lit (.int .i64 e.kind), .lit (.int .u64 e.tick), .lit (.int .u64 e.ses), .lit (.int .i64 e.player), .lit (.string e.nm), .lit (.string e.fr), .lit (.int .u64 e.seq), .lit (.string e.dat)]
instance : Inhabited En := ⟨⟨0, 0, 0, 0, [], [], 0, []⟩⟩
set_option maxRecDepth 100000 in
set_option maxHeartbeats 4000000 in
theorem ent_open {H : Type} {enc : TypeId × Value → H} {W : World} {a0 : Option Addr} {n0 c0 fuel : Nat} {d : DataW H} {pl : List MemPlace} (hf : DataW.trod enc Tryz.prog W 0 (fun _ => true) true fuel 22 (Value.slice a0 n0 c0).cells.toList = some (d, pl)) :
    ∃ L : List En, (∃ a cap, Value.slice a0 n0 c0 = .slice a L.length cap ∧ (0 < L.length → ∃ g o, a = some ⟨g, o, none⟩ ∧ ∀ (j : Nat) (x : En), L[j]? = some x → W.rangeAt g (o + j * 8) (en x))) ∧ (∀ x ∈ L, En.Ok x) ∧ ((d = .nil ∧ L = []) ∨ ∃ spare, d = .slice (L.map datum) spare) := by
  rcases Deep.open_slice Tryz.underlying22 hf with ⟨hcs, hx⟩ | ⟨a, len, cap, m, n, D, Pl, hcs, _, hl, hm, hmm, hx, hel⟩
  · have e : Value.slice a0 n0 c0 = Value.slice none 0 0 := by simpa [Value.cells] using hcs
    injection e with e1 e2 e3
    subst e1 e2 e3
    simp only [Prod.mk.injEq] at hx
    exact ⟨[], ⟨none, 0, rfl, fun h => by cases h⟩, fun o ho => (by cases ho), .inl ⟨hx.1, rfl⟩⟩
  · have e : Value.slice a0 n0 c0 = Value.slice (some a) len cap := by simpa [Value.cells] using hcs
    injection e with e1 e2 e3
    subst e1 e2 e3
    simp only [if_true] at hmm
    simp only [Prod.mk.injEq] at hx
    have each : ∀ i, i < m → ∃ o : En, En.Ok o ∧ D i = datum o ∧ ∀ j v, (en o)[j]? = some v → W.cell? (a.add (i * 8 + j)) = some v := by
      intro i hi
      obtain ⟨cs', h1, h2⟩ := hel i hi
      rw [kc35] at h1
      obtain ⟨_, hlen, hcell⟩ := World.cells?_some h1
      obtain ⟨xs, k, _, hD, _, hxl, hfl⟩ := DataW.trod_struct Tryz.underlying35 h2
      match cs', hlen with
      | [x0, x1, x2, x3, x4, x5, x6, x7], _ =>
      match xs, (show xs.length = 8 from hxl) with
      | [y0, y1, y2, y3, y4, y5, y6, y7], _ =>
        have t0 : DataW.trod enc Tryz.prog W 0 (fun _ => true) true k 3 (([x0, x1, x2, x3, x4, x5, x6, x7].drop 0).take (Tryz.prog.cellsOf 3)) = some y0 := hfl 0 _ rfl
        rw [kc3] at t0
        have t1 : DataW.trod enc Tryz.prog W 0 (fun _ => true) true k 33 (([x0, x1, x2, x3, x4, x5, x6, x7].drop 1).take (Tryz.prog.cellsOf 33)) = some y1 := hfl 1 _ rfl
        rw [kc33] at t1
        have t2 : DataW.trod enc Tryz.prog W 0 (fun _ => true) true k 33 (([x0, x1, x2, x3, x4, x5, x6, x7].drop 2).take (Tryz.prog.cellsOf 33)) = some y2 := hfl 2 _ rfl
        rw [kc33] at t2
        have t3 : DataW.trod enc Tryz.prog W 0 (fun _ => true) true k 3 (([x0, x1, x2, x3, x4, x5, x6, x7].drop 3).take (Tryz.prog.cellsOf 3)) = some y3 := hfl 3 _ rfl
        rw [kc3] at t3
        have t4 : DataW.trod enc Tryz.prog W 0 (fun _ => true) true k 9 (([x0, x1, x2, x3, x4, x5, x6, x7].drop 4).take (Tryz.prog.cellsOf 9)) = some y4 := hfl 4 _ rfl
        rw [kc9] at t4
        have t5 : DataW.trod enc Tryz.prog W 0 (fun _ => true) true k 9 (([x0, x1, x2, x3, x4, x5, x6, x7].drop 5).take (Tryz.prog.cellsOf 9)) = some y5 := hfl 5 _ rfl
        rw [kc9] at t5
        have t6 : DataW.trod enc Tryz.prog W 0 (fun _ => true) true k 33 (([x0, x1, x2, x3, x4, x5, x6, x7].drop 6).take (Tryz.prog.cellsOf 33)) = some y6 := hfl 6 _ rfl
        rw [kc33] at t6
        have t7 : DataW.trod enc Tryz.prog W 0 (fun _ => true) true k 9 (([x0, x1, x2, x3, x4, x5, x6, x7].drop 7).take (Tryz.prog.cellsOf 9)) = some y7 := hfl 7 _ rfl
        rw [kc9] at t7
        obtain ⟨z0, e0, d0, r0⟩ := DataW.trod_int Tryz.underlying3 t0
        obtain ⟨z1, e1, d1, r1⟩ := DataW.trod_int Tryz.underlying33 t1
        obtain ⟨z2, e2, d2, r2⟩ := DataW.trod_int Tryz.underlying33 t2
        obtain ⟨z3, e3, d3, r3⟩ := DataW.trod_int Tryz.underlying3 t3
        obtain ⟨z4, e4, d4, r4⟩ := DataW.trod_string Tryz.underlying9 t4
        obtain ⟨z5, e5, d5, r5⟩ := DataW.trod_string Tryz.underlying9 t5
        obtain ⟨z6, e6, d6, r6⟩ := DataW.trod_int Tryz.underlying33 t6
        obtain ⟨z7, e7, d7, r7⟩ := DataW.trod_string Tryz.underlying9 t7
        simp at e0 e1 e2 e3 e4 e5 e6 e7
        subst e0 e1 e2 e3 e4 e5 e6 e7
        have u0 := in_i64 r0
        have u1 := in_u64 r1
        have w1 : ((z1.toNat : Nat) : Int) = z1 := by omega
        have u2 := in_u64 r2
        have w2 : ((z2.toNat : Nat) : Int) = z2 := by omega
        have u3 := in_i64 r3
        have u6 := in_u64 r6
        have w6 : ((z6.toNat : Nat) : Int) = z6 := by omega
        refine ⟨⟨z0, z1.toNat, z2.toNat, z3, sl z4, sl z5, z6.toNat, sl z7⟩, ⟨u0.1, u0.2, by show z1.toNat < _; omega, by show z2.toNat < _; omega, u3.1, u3.2, by show z6.toNat < _; omega⟩, ?_, fun j v hv => ?_⟩
        · rw [show D i = .agg [y0.1, y1.1, y2.1, y3.1, y4.1, y5.1, y6.1, y7.1] from congrArg Prod.fst hD]
          simp only [datum, w1, w2, w6, d0, d1, d2, d3, d4, d5, d6, d7, sl]
        · simp only [en, w1, w2, w6, ba_sl] at hv
          have hj : j < 8 := (List.getElem?_eq_some_iff.1 hv).1
          have g := hcell j (by simpa using hj)
          rw [Deep.add_add] at g
          rw [g]
          exact hv
    obtain ⟨q, hq⟩ := Deep.choose_lt each
    refine ⟨(List.range n0).map q, ⟨some a, c0, by simp, fun hn => ?_⟩, fun o ho => ?_, .inr ⟨(List.range (m - n0)).map (fun j => D (n0 + j)), ?_⟩⟩
    · have hn : 0 < n0 := by simpa using hn
      obtain ⟨b, off, spot⟩ := a
      have hspot : spot = none := by simpa [Addr.add] using World.cell?_spot ((hq 0 (by omega)).2.2 0 _ rfl)
      subst hspot
      refine ⟨b, off, rfl, fun j o hj => ?_⟩
      have hj2 : j < n0 := by
        have := (List.getElem?_eq_some_iff.1 hj).1
        simpa using this
      have e : q j = o := by
        rw [List.getElem?_map, List.getElem?_range hj2] at hj
        simpa using hj
      have p := (hq j (by omega)).2.2
      rw [e] at p
      intro r v hv
      have := p r v hv
      rw [Addr.add_mid] at this
      rw [Nat.add_assoc]; exact this
    · obtain ⟨i, hi, rfl⟩ := List.mem_map.1 ho
      exact (hq i (by have := List.mem_range.1 hi; omega)).1
    · rw [hx.1, List.map_map]
      congr 1
      refine List.map_congr_left fun i hi => ?_
      exact (hq i (by have := List.mem_range.1 hi; omega)).2.1
set_option maxRecDepth 100000 in
/-- which byte is turned, as it is read -/
theorem tur_open {H : Type} {enc : TypeId × Value → H} {W : World} {base fuel : Nat} {v : Value} {d : DataW H} {pl : List MemPlace} (hv : Value.okWide Tryz.prog W .any base 24 v) (hf : DataW.trod enc Tryz.prog W 0 (fun _ => true) true fuel 24 v.cells.toList = some (d, pl)) :
    ∃ (at_ : Int) (by_ : UInt8) (more : List UInt8), v = .agg #[iv at_, .int .u8 by_.toNat, .string (ba more)] ∧ -9223372036854775808 ≤ at_ ∧ at_ < 9223372036854775808 ∧ more.length ≤ Rows.uptoBulk d := by
  obtain ⟨cs, rfl, _⟩ := okWide_struct Tryz.underlying24 hv
  simp only [Value.cells] at hf
  obtain ⟨xs, k, _, hx, hlen, hxl, hfl⟩ := DataW.trod_struct Tryz.underlying24 hf
  have hlen : cs.toList.length = 3 := hlen.trans (by kernel_rfl)
  have hcs : cs = cs.toList.toArray := by simp
  generalize cs.toList = l at hlen hfl hcs
  subst hcs
  match l, hlen with
  | [x0, x1, x2], _ =>
  match xs, (show xs.length = 3 from hxl) with
  | [y0, y1, y2], _ =>
    have t0 : DataW.trod enc Tryz.prog W 0 (fun _ => true) true k 3 (([x0, x1, x2].drop 0).take (Tryz.prog.cellsOf 3)) = some y0 := hfl 0 _ rfl
    rw [kc3] at t0
    have t1 : DataW.trod enc Tryz.prog W 0 (fun _ => true) true k 5 (([x0, x1, x2].drop 1).take (Tryz.prog.cellsOf 5)) = some y1 := hfl 1 _ rfl
    rw [kc5] at t1
    have t2 : DataW.trod enc Tryz.prog W 0 (fun _ => true) true k 9 (([x0, x1, x2].drop 2).take (Tryz.prog.cellsOf 9)) = some y2 := hfl 2 _ rfl
    rw [kc9] at t2
    obtain ⟨z0, e0, d0, r0⟩ := DataW.trod_int Tryz.underlying3 t0
    obtain ⟨z1, e1, d1, r1⟩ := DataW.trod_int Tryz.underlying5 t1
    obtain ⟨z2, e2, d2, r2⟩ := DataW.trod_string Tryz.underlying9 t2
    simp at e0 e1 e2
    subst e0 e1 e2
    have u0 := in_i64 r0
    have u1 := in_u8 r1
    refine ⟨z0, UInt8.ofNat z1.toNat, sl z2, ?_, u0.1, u0.2, ?_⟩
    · rw [ba_sl]
      have : ((UInt8.ofNat z1.toNat).toNat : Int) = z1 := by
        rw [UInt8.toNat_ofNat']
        omega
      rw [this]
    · have hd : d = .agg [y0.1, y1.1, y2.1] := congrArg Prod.fst hx
      rw [hd, d2]
      simp only [Rows.uptoBulk, Rows.uptoBulkAll, sl]
      omega
set_option maxRecDepth 100000 in
theorem bulk_ent {H : Type} : ∀ (L : List En), tl L + L.length ≤ 64 * Rows.uptoBulkAll (L.map (datum (H := H)))
  | [] => by simp [tl]
  | x :: r => by
    have := bulk_ent (H := H) r
    simp only [List.map_cons, Rows.uptoBulkAll, List.length_cons, datum, Rows.uptoBulk, tl]
    omega
set_option maxRecDepth 100000 in
theorem bulk_num {H : Type} : ∀ (L : List En), L.length ≤ Rows.uptoBulkAll (L.map (datum (H := H)))
  | [] => by simp
  | x :: r => by
    have := bulk_num (H := H) r
    simp only [List.map_cons, Rows.uptoBulkAll, List.length_cons, datum, Rows.uptoBulk]
    omega
set_option maxRecDepth 100000 in
theorem ent_bulk {H : Type} {d : DataW H} {L : List En} (h : (d = .nil ∧ L = []) ∨ ∃ spare, d = .slice (L.map datum) spare) (hb : Rows.uptoBulk d ≤ 1048576) : L.length ≤ 1048576 ∧ tl L ≤ 134217728 := by
  rcases h with ⟨_, rfl⟩ | ⟨sp, rfl⟩
  · exact ⟨by simp, by simp [tl]⟩
  · simp only [Rows.uptoBulk] at hb
    have h1 := bulk_ent (H := H) L
    have h2 := bulk_num (H := H) L
    exact ⟨by omega, by omega⟩
set_option maxRecDepth 100000 in
theorem bytes_c (a : Option Addr) (n c : Nat) (L : List En) (w : World) (at_ : Int) (by_ : UInt8) (more : List UInt8) (hE : Es w a n c L) (hz : a = none → c = 0) (hok : ∀ e ∈ L, e.Ok) (hwk : Wk w) (hn : n ≤ 1048576) (hT : tl L ≤ 134217728) (hm : more.length ≤ 1048576) (ha1 : -9223372036854775808 ≤ at_) (ha2 : at_ < 9223372036854775808) :
    Calls Tryz.prog 3 #[.slice a n c, .agg #[iv at_, .int .u8 by_.toNat, .string (ba more)]] w fun e w' => e = .returned (.bool true) ∧ w.grownBy w' none := by
  rcases hb : wBody L with _ | b
  · exact bytes_none alive_all a n c L w at_ by_ more hb hE hz hok hwk hn hT hm ha1 ha2
  · exact bytes_some alive_all a n c L w at_ by_ more b hb hE hz hok hwk hn hT hm ha1 ha2
end Go.Proofs.YtjbkoablleneeaaGreatDoor.Pk

