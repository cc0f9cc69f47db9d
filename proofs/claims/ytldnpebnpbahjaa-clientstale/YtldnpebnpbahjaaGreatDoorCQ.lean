import Derived.Test.YtldnpebnpbahjaaGreatDoorCK
/- A number as it is handed in. -/
namespace Go.Proofs.YtldnpebnpbahjaaGreatDoor
open Go Go.ChangeShapes Go.WideShapes Go.ChangeAt Go.RowKit Pk.Sn

set_option maxRecDepth 100000 in
theorem u64_open {H : Type} {enc : TypeId × Value → H} {W : World} {fuel : Nat} {l : List Value} {d : DataW H} {pl : List MemPlace} (hf : DataW.trod enc Tryz.prog W 0 (fun _ => true) true fuel 26 l = some (d, pl)) : ∃ n : Nat, l = [.int .u64 (n : Int)] ∧ n < 18446744073709551616 := by
  obtain ⟨x, e, f, m⟩ := DataW.trod_int Tryz.underlying26 hf
  have hx := in_u m
  refine ⟨x.toNat, ?_, by omega⟩
  rw [e, show ((x.toNat : Nat) : Int) = x by omega]
end Go.Proofs.YtldnpebnpbahjaaGreatDoor
