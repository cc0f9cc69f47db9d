/- cars as they are handed in: nil, or somewhere -/
import Derived.Test.YtmacmoikjgmaoaaDoorK1
namespace Go.Proofs.YtmacmoikjgmaoaaDoor.Bo
open Go Go.ChangeShapes Go.WideShapes Go.ChangeAt Go.RowKit

theorem crs_some {H : Type} {enc : TypeId × Value → H} {W : World} {a0 : Option Addr} {n0 c0 fuel : Nat} {d : DataW H} {pl : List MemPlace} (hf : DataW.trod enc Tryd.prog W 0 (fun _ => true) true fuel 22 (Value.slice a0 n0 c0).cells.toList = some (d, pl)) :
    Value.slice a0 n0 c0 = .slice none 0 0 ∨ ∃ a n c, Value.slice a0 n0 c0 = .slice (some a) n c := by
  rcases Deep.open_slice Tryd.underlying22 hf with ⟨hcs, _⟩ | ⟨a, len, cap, m, n, D, Pl, hcs, _⟩
  · exact .inl (by simpa [Value.cells] using hcs)
  · exact .inr ⟨a, len, cap, by simpa [Value.cells] using hcs⟩
end Go.Proofs.YtmacmoikjgmaoaaDoor.Bo
