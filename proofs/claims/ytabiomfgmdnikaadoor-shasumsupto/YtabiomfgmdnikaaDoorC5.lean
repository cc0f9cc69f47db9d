import Derived.Test.YtabiomfgmdnikaaDoorC4
import Derived.Laws.StructEq
namespace Go.Proofs.YtabiomfgmdnikaaDoor
open Go Go.RowKit
set_option maxRecDepth 100000 in
set_option maxHeartbeats 4000000 in
theorem eq25 (S : List UInt8) (h : S.length = 32) (w : World) : (Op.equalIn 10000 36 (.agg (S.map bv).toArray) (.agg (S.map bv).toArray)).run Tryd.prog w = .ok true w := by
  have u5 := Tryd.underlying5
  have a5 := Tryd.isAgg5
  have z5 := Tryd.sizeOf5
  match S, h with
  | [b0, b1, b2, b3, b4, b5, b6, b7, b8, b9, b10, b11, b12, b13, b14, b15, b16, b17, b18, b19, b20, b21, b22, b23, b24, b25, b26, b27, b28, b29, b30, b31], _ =>
    simp only [List.map_cons, List.map_nil]
    rw [show (10000 : Nat) = 9999 + 1 from rfl, Op.equalIn]
    simp only [Sem.run_bind, run_underlying Tryd.underlying36, Result.andThen_ok]
    simp only [Std.Legacy.Range.forIn_eq_forIn_range', Std.Legacy.Range.size, Nat.sub_zero, Nat.add_sub_cancel, Nat.div_one, List.range'_succ, List.range'_zero, List.forIn_cons, List.forIn_nil]
    go_simp
end Go.Proofs.YtabiomfgmdnikaaDoor
