/- a ring of texts of the call's own -/
import Derived.Test.YtflglflggeaokaaB1
import Derived.Test.YtflglflggeaokaaSA3
import Derived.Test.YtflglflggeaokaaSA4
namespace Go.Proofs.Ytflglflggeaokaa.Str
open Go Go.RowKit

/-- a ring of the call's own -/
structure Mine (w0 w : World) (rb sz : Nat) (L : List ByteArray) : Prop where
  r : ∃ v, RingAt w rb v sz L ∧ ∀ i, RF rb v i → w0.heap.size ≤ i
  g : w0.grownBy w none
theorem Mine.drewN {w0 w : World} {rb sz : Nat} {L : List ByteArray} (h : Mine w0 w rb sz L) (n : Nat) : Mine w0 (w.drewN n) rb sz L := by
  obtain ⟨v, h1, h2⟩ := h.r
  exact ⟨⟨v, h1.drewN n, h2⟩, h.g.trans (gr_drewN _ _ _)⟩
theorem Mine.grown {w0 w w' : World} {rb sz : Nat} {L : List ByteArray} (h : Mine w0 w rb sz L) (hg : w.grownBy w' none) : Mine w0 w' rb sz L := by
  obtain ⟨v, h1, h2⟩ := h.r
  exact ⟨⟨v, h1.kept hg, h2⟩, h.g.trans hg⟩
theorem my_push {w0 w : World} {rb sz : Nat} {L : List ByteArray} (h : Mine w0 w rb sz L) (x : ByteArray) (hl : L.length < sz) :
    Calls Try.prog 18 #[.pointer (some ⟨rb, 0, none⟩), .string x] w fun e w' => e = .returned (.int .i64 0) ∧ Mine w0 w' rb sz (L ++ [x]) := by
  obtain ⟨v, h1, h2⟩ := h.r
  refine (push_c rb v sz L x w h1 hl).mono ?_
  rintro e w' ⟨rfl, v', p⟩
  refine ⟨rfl, ⟨v', p.r, fun i hi => ?_⟩, fr_mine h.g p.f h2⟩
  rcases hi with rfl | hi
  · exact h2 _ (.inl rfl)
  · rcases p.n i hi with q | q
    · exact h2 _ (.inr q)
    · have := h.g.size; omega
theorem my_pop {w0 w : World} {rb sz : Nat} {L : List ByteArray} {x : ByteArray} (h : Mine w0 w rb sz (x :: L)) :
    Calls Try.prog 19 #[.pointer (some ⟨rb, 0, none⟩)] w fun e w' => e = .returned (.tuple #[.string x, .bool true]) ∧ Mine w0 w' rb sz L := by
  obtain ⟨v, h1, h2⟩ := h.r
  refine (pop_c rb v sz L x w h1).mono ?_
  rintro e w' ⟨rfl, r, f, _⟩
  exact ⟨rfl, ⟨v, r, h2⟩, fr_mine h.g f h2⟩
theorem my_pop_no {w0 w : World} {rb sz : Nat} (h : Mine w0 w rb sz []) :
    Calls Try.prog 19 #[.pointer (some ⟨rb, 0, none⟩)] w fun e w' => e = .returned (.tuple #[.string ⟨#[]⟩, .bool false]) ∧ w' = w := by
  obtain ⟨v, h1, h2⟩ := h.r
  exact pop_no rb v sz w h1
theorem my_take {w0 w : World} {rb sz : Nat} {L : List ByteArray} (h : Mine w0 w rb sz L) (n : Int) (k : Nat) (hk : k = (min n (L.length : Nat)).toNat) :
    Calls Try.prog 20 #[.pointer (some ⟨rb, 0, none⟩), .int .i64 n] w fun e w' => e = .returned (.slice (some ⟨w.heap.size, 0, none⟩) k k) ∧ Mine w0 w' rb sz (L.drop k) ∧ Has w' w.heap.size ((L.take k).map sv) 9 := by
  obtain ⟨v, h1, h2⟩ := h.r
  refine (take_c rb v sz L n k w h1 hk).mono ?_
  rintro e w' ⟨rfl, t⟩
  exact ⟨rfl, ⟨⟨v, t.r, h2⟩, fr_mine h.g t.f h2⟩, t.h⟩
end Go.Proofs.Ytflglflggeaokaa.Str
