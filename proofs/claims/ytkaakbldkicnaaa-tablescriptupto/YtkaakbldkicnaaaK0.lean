/- for the rows -/
import Derived.Test.YtkaakbldkicnaaaRows
import Derived.Test.YtkaakbldkicnaaaS2
import Derived.ProofKit
import Derived.OpenShut
import Derived.ChangeMaps5
import Derived.SizedLaws
import Derived.JoinedCond
import Derived.Deep.Slices
import Derived.Deep.Strs
namespace Go.Proofs.Ytkaakbldkicnaaa
open Go Go.ChangeShapes Go.WideShapes Go.ChangeAt Go.RowKit

theorem own : ownKnob Try.prog.godebug = none := by kernel_rfl
theorem below_of {w w' : World} (h : w.grownBy w' none) : Below w.heap.size w w' := ⟨h.os, h.tape, h.output, h.size, fun k hk => h.block k hk (by simp)⟩
theorem laidOut : laidOutB Try.prog = true := by kernel_rfl
theorem cells3 : Try.prog.cellsOf 3 = 1 := by kernel_rfl
theorem cells9 : Try.prog.cellsOf 9 = 1 := by kernel_rfl
theorem cells22 : Try.prog.cellsOf 22 = 1 := by kernel_rfl
theorem bytes9 : Try.checked.prog.bytesOf 9 = 16 := by kernel_rfl
theorem reach : reachBytes = 140737488351232 := by decide
theorem sl_len (s : ByteArray) : s.data.toList.length = s.size := by rw [Array.length_toList]; rfl
def strD {H : Type} (s : ByteArray) : DataW H := .lit (.string s.data.toList)
/-- a list of strings as it is handed in -/
theorem strs_open {H : Type} {enc : TypeId × Value → H} {W : World} {cs : List Value} {fuel : Nat} {x : DataW H × List MemPlace} (hf : DataW.trod enc Try.prog W 0 (fun _ => true) true fuel 22 cs = some x) :
    ∃ v xs, cs = [v] ∧ Str W v xs ∧ (x.1 = .nil ∧ xs = [] ∨ ∃ spare, x.1 = .slice (xs.map strD) spare) := by
  rcases Deep.open_strs under22 Try.underlying9 cells9 hf with ⟨hcs, hx⟩ | ⟨a, len, cap, m, Sx, hcs, _, hl, _, hm, hx, hc⟩
  · exact ⟨_, [], hcs, ⟨.inl ⟨rfl, rfl⟩⟩, .inl ⟨by rw [hx], rfl⟩⟩
  · simp only [if_true] at hm
    refine ⟨_, (List.range len).map Sx, hcs, ⟨.inr ⟨a, cap, by simp, fun j p hp => ?_⟩⟩, .inr ⟨(List.range (m - len)).map fun j => .lit (.string (Sx (len + j)).data.toList), by rw [hx]; simp [strD, Function.comp_def]⟩⟩
    have hj : j < len := by have := (List.getElem?_eq_some_iff.1 hp).1; simpa using this
    have : ((List.range len).map Sx)[j]? = some (Sx j) := by rw [List.getElem?_map, List.getElem?_range hj]; rfl
    rw [this] at hp
    rw [← Option.some.inj hp]
    exact (hc j (by omega)).1
theorem weights_mem {H : Type} {P : Program} {e : TypeId} {l : List (DataW H)} {d : DataW H} {n : Nat} (hd : d ∈ l) (hn : n ∈ d.weights P e) : n ∈ DataW.weightsAll P e l := by
  induction l with
  | nil => cases hd
  | cons a r ih =>
    simp only [DataW.weightsAll, List.mem_append]
    rcases List.mem_cons.1 hd with rfl | hd
    · exact .inl hn
    · exact .inr (ih hd)
/-- how long they are -/
theorem strs_wide {H : Type} {d : DataW H} {xs : List ByteArray} (h : d = .nil ∧ xs = [] ∨ ∃ spare, d = .slice (xs.map strD) spare) (hw : ∀ n ∈ d.weights Try.checked.prog 22, n ≤ 140737488351232) : xs.length ≤ 8796093022207 ∧ ∀ x ∈ xs, x.size ≤ 140737488351232 := by
  rcases h with ⟨_, rfl⟩ | ⟨sp, rfl⟩
  · exact ⟨by simp, fun x h => by cases h⟩
  · have h22 : Try.checked.prog.underlying 22 = some (.slice 9) := under22
    constructor
    · have := hw ((xs.map (strD (H := H))).length * 16 + sp.length * 16) (by
        simp only [DataW.weights, h22, List.mem_cons, bytes9, Nat.add_mul]; exact .inl trivial)
      rw [List.length_map] at this
      omega
    · intro x hx
      refine hw _ ?_
      simp only [DataW.weights, h22, List.mem_cons, List.mem_append]
      refine .inr (.inl (weights_mem (List.mem_map.2 ⟨x, hx, rfl⟩) ?_))
      simp [strD, DataW.weights]
theorem in_i64 {a : Int} (h : (Lit.int .i64 a).wf = true) : -9223372036854775808 ≤ a ∧ a < 9223372036854775808 := by
  have m1 : IntKind.i64.min = -9223372036854775808 := by decide
  have m2 : IntKind.i64.max = 9223372036854775807 := by decide
  simp [Lit.wf, m1, m2] at h
  omega
end Go.Proofs.Ytkaakbldkicnaaa
