/- VecBounds -/
import Derived.Test.YtkpedhmjjhjniaaDoorVG
import Derived.Test.YtkpedhmjjhjniaaDoorVE
namespace Go.Proofs.YtkpedhmjjhjniaaDoor
open Go Go.RowKit

set_option maxHeartbeats 4000000 in
theorem boundsL_any (ax ay bx by' k r h j : Int) (h1 : In ax) (h2 : In ay) (h3 : In bx) (h4 : In by') (h5 : In k) (w : World) (hk : Kc w) :
    Calls Tryd.prog 6 #[.agg #[.int .i64 ax, .int .i64 ay, .int .i64 bx, .int .i64 by', .int .i64 k, .int .i64 r, .int .i64 h, .int .i64 j]] w fun e w' => e = .returned (.bool true) ∧ w.grownBy w' none := by
  have c0 := fun W (hk : Kc W) => alive_c W hk
  have c1 := fun W (hk : Kc W) => bounds_c ax ay bx by' k h h1 h2 h3 h4 h5 W hk
  have HB := Keep.mk (Bc.start hk #[.int .i64 ax, .int .i64 ay, .int .i64 bx, .int .i64 by', .int .i64 k, .int .i64 r, .int .i64 h, .int .i64 j])
  clear hk h1 h2 h3 h4 h5
  obtain ⟨cb, hcb⟩ : ∃ b, w.heap.size = b := ⟨_, rfl⟩
  obtain ⟨W0, hW0⟩ : ∃ W, w.alloc (.cells #[.int .i64 ax, .int .i64 ay, .int .i64 bx, .int .i64 by', .int .i64 k, .int .i64 r, .int .i64 h, .int .i64 j] 39) = W := ⟨_, rfl⟩
  rw [hcb, hW0] at HB
  go_enter Tryd.func6, Tryd.ntmps6
  go_wp2_with fail
  refine (c0 _ HB.out.k).mono ?_
  rintro e w1 ⟨rfl, hg⟩
  replace HB := Keep.mk (HB.out.kept hg)
  clear hg c0 hW0 hcb
  have x0 := HB.out.has.cellv 0 _ rfl
  have x1 := HB.out.has.cellv 1 _ rfl
  have x2 := HB.out.has.cellv 2 _ rfl
  have x3 := HB.out.has.cellv 3 _ rfl
  have x4 := HB.out.has.cellv 4 _ rfl
  have x6 := HB.out.has.cellv 6 _ rfl
  go_wp2_with fail
  refine (c1 _ HB.out.k).mono ?_
  rintro e w2 ⟨rfl, hg⟩
  replace HB := Keep.mk (HB.out.kept hg)
  clear hg x0 x1 x2 x3 x4 x6
  go_wp2_with fail
  go_ret
  exact ⟨rfl, HB.out.g⟩
end Go.Proofs.YtkpedhmjjhjniaaDoor
