import Derived.Test.YtbmnlhmelbhjeaaDoorMaA8
namespace Go.Proofs.YtbmnlhmelbhjeaaDoor
open Go Go.RowKit

/-- the bytes of a slice -/
structure BytesOf (w : World) (a : Option Addr) (n c : Nat) (q : List UInt8) : Prop where
  len : q.length = n
  cap : n ≤ c
  at_ : 0 < n → ∃ B o, a = some ⟨B, o, none⟩ ∧ ∀ j x, q[j]? = some x → w.cell? ⟨B, o + j, none⟩ = some (bv x)
theorem BytesOf.kept {w w' : World} {a : Option Addr} {n c : Nat} {q : List UInt8} (h : BytesOf w a n c q) (hg : w.grownBy w' none) : BytesOf w' a n c q := by
  refine ⟨h.len, h.cap, fun hn => ?_⟩
  obtain ⟨B, o, h1, h3⟩ := h.at_ hn
  exact ⟨B, o, h1, fun j x hx => hg.cell (h3 j x hx) (by simp)⟩
theorem BytesOf.apart {w w' : World} {a : Option Addr} {n c b : Nat} {q : List UInt8} (h : BytesOf w a n c q) (hg : w.grownBy w' none) (hb : w.heap.size ≤ b) : Bytes b w' a n c q := by
  refine ⟨h.len, h.cap, fun hn => ?_⟩
  obtain ⟨B, o, h1, h3⟩ := h.at_ hn
  refine ⟨B, o, h1, ?_, fun j x hx => hg.cell (h3 j x hx) (by simp)⟩
  have hl : 0 < q.length := by rw [h.len]; exact hn
  have := World.block_lt_of_cell? w _ (h3 0 q[0] (by rw [List.getElem?_eq_getElem hl]))
  simp at this
  omega
/-- a list of slices -/
structure Parts (w : World) (a : Option Addr) (n : Nat) (ps : List (List UInt8)) : Prop where
  len : ps.length = n
  at_ : 0 < n → ∃ B o, a = some ⟨B, o, none⟩ ∧ ∀ j q, ps[j]? = some q → ∃ a' n' c', w.cell? ⟨B, o + j, none⟩ = some (.slice a' n' c') ∧ BytesOf w a' n' c' q

theorem take_flat (ps : List (List UInt8)) (i : Nat) (hi : i < ps.length) : (ps.take (i + 1)).flatten = (ps.take i).flatten ++ ps[i] := by
  rw [List.take_succ_eq_append_getElem hi, List.flatten_append]; simp
theorem flat_le (ps : List (List UInt8)) (i : Nat) : (ps.take i).flatten.length ≤ ps.flatten.length := by
  have e : ps.flatten = (ps.take i).flatten ++ (ps.drop i).flatten := by rw [← List.flatten_append, List.take_append_drop]
  rw [e, List.length_append]; omega

structure OfRel (w w' : World) (ps : List (List UInt8)) (i : Nat) : Prop where
  r : Has w' w.heap.size ((List.replicate 32 (0 : UInt8)).map bv) 76
  h : HashOf w' (w.heap.size + 1) (ps.take i).flatten
  g : w.grownBy w' none
theorem OfRel.start (w w1 : World) (C : Array Value) (ps : List (List UInt8)) (hC : C = ((List.replicate 32 (0 : UInt8)).map bv).toArray) (h1 : HashOf w1 (w.alloc (.cells C 76)).heap.size []) (g1 : (w.alloc (.cells C 76)).grownBy w1 none) : OfRel w w1 ps 0 := by
  subst hC
  rw [heap1] at h1
  exact ⟨(Has.new _ _ _).kept g1 (by simp), h1, (World.grownBy_alloc _ _ _).trans g1⟩

end Go.Proofs.YtbmnlhmelbhjeaaDoor
