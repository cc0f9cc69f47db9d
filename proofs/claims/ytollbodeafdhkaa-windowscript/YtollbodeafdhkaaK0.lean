/- for the rows -/
import Derived.Test.YtollbodeafdhkaaRows
import Derived.Test.YtollbodeafdhkaaA3
import Derived.ProofKit
import Derived.OpenShut
import Derived.ChangeMaps5
import Derived.SizedLaws
import Derived.JoinedCond
import Derived.Deep.Slices
import Derived.Deep.Strs
namespace Go.Proofs.Ytollbodeafdhkaa
open Go Go.ChangeShapes Go.WideShapes Go.ChangeAt Go.RowKit

theorem own : ownKnob Try.prog.godebug = none := by kernel_rfl
theorem below_of {w w' : World} (h : w.grownBy w' none) : Below w.heap.size w w' := ⟨h.os, h.tape, h.output, h.size, fun k hk => h.block k hk (by simp)⟩
theorem laidOut : laidOutB Try.prog = true := by kernel_rfl
theorem cells3 : Try.prog.cellsOf 3 = 1 := by kernel_rfl
theorem cells4 : Try.prog.cellsOf 4 = 1 := by kernel_rfl
theorem cells5 : Try.prog.cellsOf 5 = 1 := by kernel_rfl
theorem cells24 : Try.prog.cellsOf 24 = 1 := by kernel_rfl
theorem cells33 : Try.prog.cellsOf 33 = 1 := by kernel_rfl
theorem wf_u64 {x : Int} (h : (Lit.int .u64 x).wf = true) : ∃ n : Nat, x = (n : Int) ∧ n < 18446744073709551616 := by
  have h2 : IntKind.u64.min ≤ x ∧ x ≤ IntKind.u64.max := by simpa [Lit.wf] using h
  have e1 : IntKind.u64.min = 0 := by decide
  have e2 : IntKind.u64.max = 18446744073709551615 := by decide
  rw [e1, e2] at h2
  exact ⟨x.toNat, by omega, by omega⟩
theorem wf_u8 {x : Int} (h : (Lit.int .u8 x).wf = true) : ∃ n : Nat, x = (n : Int) ∧ n < 256 := by
  have h2 : IntKind.u8.min ≤ x ∧ x ≤ IntKind.u8.max := by simpa [Lit.wf] using h
  have e1 : IntKind.u8.min = 0 := by decide
  have e2 : IntKind.u8.max = 255 := by decide
  rw [e1, e2] at h2
  exact ⟨x.toNat, by omega, by omega⟩
theorem add_plain (b o i : Nat) : (⟨b, o, none⟩ : Addr).add i = ⟨b, o + i, none⟩ := by simp [Addr.add]
theorem ns_open {H : Type} {enc : TypeId × Value → H} {W : World} {a0 : Option Addr} {n0 c0 fuel : Nat} {d : DataW H} {pl : List MemPlace} {t e : TypeId} {k : IntKind} (ht : Try.prog.underlying t = some (.slice e)) (he : Try.prog.underlying e = some (.int k)) (hc : Try.prog.cellsOf e = 1) (hwf : ∀ x, (Lit.int k x).wf = true → ∃ n : Nat, x = (n : Int) ∧ (n : Int) < 2 ^ k.bits)
    (hf : DataW.trod enc Try.prog W 0 (fun _ => true) true fuel t [Value.slice a0 n0 c0] = some (d, pl)) :
    (∃ xs, Ns k W a0 n0 xs) ∧ n0 ≤ 9223372036854775807 := by
  rcases Deep.open_slice1 ht hc hf with ⟨hcs, _⟩ | ⟨a, len, cap, m, n, V, D, Pl, hcs, _, hl, hm, hmm, hx, hel⟩
  · have e : Value.slice a0 n0 c0 = Value.slice none 0 0 := by simpa using hcs
    injection e with e1 e2 e3
    subst e1 e2 e3
    exact ⟨⟨[], rfl, fun h => by omega⟩, by omega⟩
  · have e : Value.slice a0 n0 c0 = Value.slice (some a) len cap := by simpa using hcs
    injection e with e1 e2 e3
    subst e1 e2 e3
    simp only [if_true] at hmm
    refine ⟨?_, by unfold maxLen at hm; omega⟩
    have each : ∀ i, i < m → ∃ q : Nat, W.cell? (a.add i) = some (.int k (q : Nat)) ∧ (q : Int) < 2 ^ k.bits := by
      intro i hi
      obtain ⟨h1, h2⟩ := hel i hi
      obtain ⟨z0, e0, _, r0⟩ := DataW.trod_int he h2
      simp at e0
      rw [e0] at h1
      obtain ⟨q, rfl, hq⟩ := hwf z0 r0
      exact ⟨q, h1, hq⟩
    obtain ⟨q, hq⟩ := Deep.choose_lt each
    refine ⟨(List.range n0).map q, by simp, fun hn => ?_⟩
    obtain ⟨b, off, spot⟩ := a
    have hspot : spot = none := by simpa [Addr.add] using World.cell?_spot (hq 0 (by omega)).1
    subst hspot
    refine ⟨b, off, rfl, fun j x hj => ?_⟩
    have hj2 : j < n0 := by
      have := (List.getElem?_eq_some_iff.1 hj).1
      simpa using this
    have e : q j = x := by
      rw [List.getElem?_map, List.getElem?_range hj2] at hj
      simpa using hj
    have h3 := hq j (by omega)
    rw [e] at h3
    rw [add_plain] at h3
    exact h3
theorem n8 : ∀ x, (Lit.int .u8 x).wf = true → ∃ n : Nat, x = (n : Int) ∧ (n : Int) < 2 ^ IntKind.u8.bits := fun x h => by
  obtain ⟨n, e, l⟩ := wf_u8 h
  exact ⟨n, e, by simp [IntKind.bits]; omega⟩
theorem n64 : ∀ x, (Lit.int .u64 x).wf = true → ∃ n : Nat, x = (n : Int) ∧ (n : Int) < 2 ^ IntKind.u64.bits := fun x h => by
  obtain ⟨n, e, l⟩ := wf_u64 h
  exact ⟨n, e, by simp [IntKind.bits]; omega⟩
end Go.Proofs.Ytollbodeafdhkaa
