import Derived.Test.YtldnpebnpbahjaaGreatDoorRows
import Derived.Test.YtldnpebnpbahjaaGreatDoorChecked
import Derived.Test.YtldnpebnpbahjaaGreatDoorX19
import Derived.SevenTiedAt
import Derived.ProofKit
import Derived.LaidMore
import Derived.OpenShut
import Derived.Stop.Joined
import Derived.Lib.LaidU8
import Derived.Deep.Slices
import Derived.Deep.Strs
import Derived.SizedLaws
import Derived.ChangeMaps5
import Derived.ChangeArms
set_option maxRecDepth 100000
namespace Go.Proofs.YtldnpebnpbahjaaGreatDoor
open Go Go.ChangeShapes Go.WideShapes Go.ChangeAt Go.RowKit Pk.Sn Go.Proofs.Tryz
theorem own : ownKnob prog.godebug = none := by kernel_rfl
theorem gK : prog.globalNamed "joust/sha.roundWords" = some 1 := by kernel_rfl
theorem tK : (prog.globals[1]?).map (·.type) = some 220 := by kernel_rfl
theorem gS : prog.globalNamed "joust/name.spans" = some 0 := by kernel_rfl
theorem tS : (prog.globals[0]?).map (·.type) = some 210 := by kernel_rfl
theorem underW : prog.underlying 179 = some (.int .u32) := by kernel_rfl
theorem cellsW : prog.cellsOf 179 = 1 := by kernel_rfl
theorem underKs : prog.underlying 220 = some (.array 64 179) := by kernel_rfl
theorem underSps : prog.underlying 210 = some (.array 10 149) := by kernel_rfl
theorem ks_datum : (Rows.laid_joust_sha_roundWords : DataW Unit) = .agg (Sha.ks.map fun x => .lit (.int .u32 x.toNat)) := by kernel_rfl
theorem sp_datum : (Rows.laid_joust_name_spans : DataW Unit) = .agg (Pk.Na.spn.map fun p => .agg ([p.1, p.2.1, p.2.2].map fun z => .lit (.int .i32 z))) := by kernel_rfl
theorem underSpan : ∃ fs, prog.underlying 149 = some (.struct fs) ∧ (∀ (i : Nat) (f : Field), fs[i]? = some f → prog.underlying f.type = some (.int .i32) ∧ f.offset = i ∧ prog.cellsOf f.type = 1) ∧ prog.cellsOf 149 = fs.size := by
  refine ⟨_, underlying149, ?_, by kernel_rfl⟩; intro i f h
  match i, h with
  | 0, h => simp at h; subst h; exact ⟨by kernel_rfl, rfl, by kernel_rfl⟩
  | 1, h => simp at h; subst h; exact ⟨by kernel_rfl, rfl, by kernel_rfl⟩
  | 2, h => simp at h; subst h; exact ⟨by kernel_rfl, rfl, by kernel_rfl⟩
  | i + 3, h => simp at h
theorem cellsSpan : prog.cellsOf 149 = 3 := by kernel_rfl
theorem words_of {W : World} {enc : TypeId × Value → Unit} {base fuel : Nat} {spare held : Bool} {cs : List Value} {x : DataW Unit × List MemPlace} {l : List UInt32} {t : TypeId} {n : Nat} (ht : prog.underlying t = some (.array n 179)) (hl : l.length = n)
    (h : DataW.trod enc prog W base (fun _ => spare) held fuel t cs = some x) (hx : x.1 = .agg (l.map fun x => .lit (.int .u32 x.toNat))) (j : Nat) (hj : j < n) : cs[j]? = some (.int .u32 (l.getD j 0).toNat) := by
  obtain ⟨xs, m, rfl, rfl, hlen, hn, hel⟩ := DataW.trod_array ht h; have hj2 : j < xs.length := by omega
  have he := hel j hj; rw [List.getElem?_eq_getElem hj2] at he; obtain ⟨k, e1, e2, _⟩ := DataW.trod_int underW he; simp only [DataW.agg.injEq] at hx; have hk : (xs.map (·.1))[j]? = (l.map fun x => (.lit (.int .u32 x.toNat) : DataW Unit))[j]? := by rw [hx]
  rw [List.getElem?_map, List.getElem?_map, List.getElem?_eq_getElem hj2, List.getElem?_eq_getElem (by omega : j < l.length)] at hk; simp only [Option.map_some, Option.some.injEq] at hk; rw [e2] at hk; simp only [DataW.lit.injEq, Lit.int.injEq, true_and] at hk; rw [cellsW, Nat.mul_one] at e1
  have : (cs.drop j)[0]? = some (.int .u32 k) := by
    have h1 : ((cs.drop j).take 1)[0]? = some (.int .u32 k) := by rw [e1]; rfl
    rwa [List.getElem?_take, if_pos (by omega)] at h1
  rw [List.getElem?_drop, Nat.add_zero] at this; rw [this, hk]; simp [List.getD, show j < l.length by omega]
theorem below_of {w w' : World} (h : w.grownBy w' none) : Below w.heap.size w w' := ⟨h.os, h.tape, h.output, h.size, fun k hk => h.block k hk (by simp)⟩
theorem laidOut : laidOutB prog = true := by kernel_rfl
theorem kc3 : prog.cellsOf 3 = 1 := by kernel_rfl
theorem kc4 : prog.cellsOf 4 = 1 := by kernel_rfl
theorem kc26 : prog.cellsOf 26 = 1 := by kernel_rfl
theorem under4b : prog.underlying 4 = some .bool := by kernel_rfl
theorem in_i {a : Int} (h : (Lit.int .i64 a).wf = true) : -9223372036854775808 ≤ a ∧ a < 9223372036854775808 := by
  have m1 : IntKind.i64.min = -9223372036854775808 := by decide
  have m2 : IntKind.i64.max = 9223372036854775807 := by decide
  simp [Lit.wf, m1, m2] at h; omega
theorem cm_open {H : Type} {enc : TypeId × Value → H} {W : World} {fuel : Nat} {l : List Value} {d : DataW H} {pl : List MemPlace} (hf : DataW.trod enc prog W 0 (fun _ => true) true fuel 29 l = some (d, pl)) : ∃ c : Cm, l = c.cs ∧ c.ok := by
  obtain ⟨xs, n, _, hx, hlen0, hxl, hfl⟩ := DataW.trod_struct underlying29 hf; have hlen : l.length = 4 := hlen0.trans (by kernel_rfl); clear hf hlen0
  match l, hlen with
  | [c0, c1, c2, c3], _ =>
  match xs, (show xs.length = 4 from hxl) with
  | [y0, y1, y2, y3], _ =>
  have t0 : DataW.trod enc prog W 0 (fun _ => true) true n 3 (([c0, c1, c2, c3].drop 0).take (prog.cellsOf 3)) = some y0 := hfl 0 _ rfl; rw [kc3] at t0; have t1 : DataW.trod enc prog W 0 (fun _ => true) true n 3 (([c0, c1, c2, c3].drop 1).take (prog.cellsOf 3)) = some y1 := hfl 1 _ rfl; rw [kc3] at t1; have t2 : DataW.trod enc prog W 0 (fun _ => true) true n 4 (([c0, c1, c2, c3].drop 2).take (prog.cellsOf 4)) = some y2 := hfl 2 _ rfl; rw [kc4] at t2; have t3 : DataW.trod enc prog W 0 (fun _ => true) true n 4 (([c0, c1, c2, c3].drop 3).take (prog.cellsOf 4)) = some y3 := hfl 3 _ rfl; rw [kc4] at t3; obtain ⟨x0, e0, f0, m0⟩ := DataW.trod_int underlying3 t0; obtain rfl : c0 = _ := by simpa using e0
  obtain ⟨x1, e1, f1, m1⟩ := DataW.trod_int underlying3 t1; obtain rfl : c1 = _ := by simpa using e1
  obtain ⟨x2, e2, f2, _⟩ := DataW.trod_bool under4b t2; obtain rfl : c2 = _ := by simpa using e2
  obtain ⟨x3, e3, f3, _⟩ := DataW.trod_bool under4b t3; obtain rfl : c3 = _ := by simpa using e3
  exact ⟨⟨x0, x1, x2, x3⟩, rfl, ⟨in_i m0, in_i m1⟩⟩
instance : Inhabited Cm := ⟨⟨0, 0, false, false⟩⟩
end Go.Proofs.YtldnpebnpbahjaaGreatDoor
