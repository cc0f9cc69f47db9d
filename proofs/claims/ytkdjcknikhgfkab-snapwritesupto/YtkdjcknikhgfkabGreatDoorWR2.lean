import Derived.Test.YtkdjcknikhgfkabGreatDoorWR1
import Derived.Test.YtkdjcknikhgfkabGreatDoorX28
import Derived.Test.YtkdjcknikhgfkabGreatDoorX36
/- the reference's unsigned and own -/
namespace Go.Proofs.YtkdjcknikhgfkabGreatDoor.Pk.Sn
open Go Go.RowKit

def unsN (n : Int) : Nat := if n < 0 then 9223372036854775808 else n.toNat
theorem unsN_lt (n : Int) (h : n < 9223372036854775808) : unsN n < 18446744073709551616 := by unfold unsN; split <;> omega
theorem unsN_num (st : WS) (n : Int) (h : -9223372036854775808 ≤ n ∧ n < 9223372036854775808) : wNum st (unsN n) 1 = wNum st (u64 n) 1 := by
  unfold unsN
  by_cases q : n < 0
  · rw [if_pos q]
    exact (wNum_big st 9223372036854775808 1 1 rfl (by omega)).trans (wNum_big st (u64 n) 1 1 rfl (by unfold u64; omega)).symm
  · rw [if_neg q, show u64 n = n.toNat by unfold u64; omega]
set_option maxHeartbeats 8000000 in
set_option maxRecDepth 100000 in
theorem uns_c (n : Int) (w : World) (h : -9223372036854775808 ≤ n ∧ n < 9223372036854775808) :
    Calls Tryz.prog 17 #[iv n] w fun e w' => e = .returned (.int .u64 (unsN n)) ∧ w' = w := by
  unfold unsN
  by_cases q : n < 0
  · rw [if_pos q]
    go_enter Tryz.func17, Tryz.ntmps17
    go_wp2_with fail
    go_ret
    exact ⟨rfl, rfl⟩
  · rw [if_neg q]
    have e : IntKind.u64.wrap n = ((n.toNat : Nat) : Int) := by
      show n % 18446744073709551616 = _
      omega
    go_enter Tryz.func17, Tryz.ntmps17
    go_wp2_with fail
    go_ret
    exact ⟨rfl, rfl⟩
set_option maxRecDepth 100000 in
theorem builtL (a0 a1 a2 a3 a4 a5 a6 a7 a8 a9 a10 a11 : Int) : Tryz.prog.built 60 [(0, iv a0), (1, iv a1), (2, iv a2), (3, iv a3), (4, iv a4), (5, iv a5), (6, iv a6), (7, iv a7), (8, iv a8), (9, iv a9), (10, iv a10), (11, iv a11)] = some #[iv a0, iv a1, iv a2, iv a3, iv a4, iv a5, iv a6, iv a7, iv a8, iv a9, iv a10, iv a11] := by kernel_rfl
set_option maxRecDepth 100000 in
theorem infoL : (Tryz.prog.info? 60).map (·.size) = some 12 := by kernel_rfl
theorem underL : ∃ d, Tryz.prog.underlying 60 = some d ∧ d.isRow = true := ⟨_, Tryz.underlying60, rfl⟩
set_option maxHeartbeats 8000000 in
set_option maxRecDepth 100000 in
theorem own_c (p : Int) (nm : ByteArray) (a0 a1 a2 a3 a4 a5 a6 a7 a8 a9 a10 a11 : Int) (w : World) :
    Calls Tryz.prog 19 #[.agg #[iv p, .string nm, iv a0, iv a1, iv a2, iv a3, iv a4, iv a5, iv a6, iv a7, iv a8, iv a9, iv a10, iv a11]] w fun e w' => e = .returned (.agg #[iv a0, iv a1, iv a2, iv a3, iv a4, iv a5, iv a6, iv a7, iv a8, iv a9, iv a10, iv a11]) ∧ w.grownBy w' none := by
  obtain ⟨d, hd, hrw⟩ := underL
  obtain ⟨w0, hw0⟩ : ∃ q, w.alloc (.cells #[iv p, .string nm, iv a0, iv a1, iv a2, iv a3, iv a4, iv a5, iv a6, iv a7, iv a8, iv a9, iv a10, iv a11] 26) = q := ⟨_, rfl⟩
  obtain ⟨w1, hw1⟩ : ∃ q, w0.alloc (.cells #[.int .i64 0, .int .i64 0, .int .i64 0, .int .i64 0, .int .i64 0, .int .i64 0, .int .i64 0, .int .i64 0, .int .i64 0, .int .i64 0, .int .i64 0, .int .i64 0] 60) = q := ⟨_, rfl⟩
  have h0 : Has w0 w.heap.size [iv p, .string nm, iv a0, iv a1, iv a2, iv a3, iv a4, iv a5, iv a6, iv a7, iv a8, iv a9, iv a10, iv a11] 26 := by rw [← hw0]; exact Has.newA w _ 26
  have h1 : Has w1 w.heap.size [iv p, .string nm, iv a0, iv a1, iv a2, iv a3, iv a4, iv a5, iv a6, iv a7, iv a8, iv a9, iv a10, iv a11] 26 := by rw [← hw1]; exact h0.alloc _
  have h2 : Has w1 w0.heap.size [.int .i64 0, .int .i64 0, .int .i64 0, .int .i64 0, .int .i64 0, .int .i64 0, .int .i64 0, .int .i64 0, .int .i64 0, .int .i64 0, .int .i64 0, .int .i64 0] 60 := by rw [← hw1]; exact Has.newA w0 _ 60
  have g1 : w.grownBy w1 none := by rw [← hw1, ← hw0]; exact (World.grownBy_alloc _ _ _).trans (World.grownBy_alloc _ _ _)
  have s0 : w.heap.size ≤ w0.heap.size := by rw [← hw0]; exact (World.grownBy_alloc w _ none).size
  have c0 : w1.cell? ⟨w.heap.size, 2, none⟩ = some (iv a0) := h1.cellv 2 _ rfl
  have c1 : w1.cell? ⟨w.heap.size, 3, none⟩ = some (iv a1) := h1.cellv 3 _ rfl
  have c2 : w1.cell? ⟨w.heap.size, 4, none⟩ = some (iv a2) := h1.cellv 4 _ rfl
  have c3 : w1.cell? ⟨w.heap.size, 5, none⟩ = some (iv a3) := h1.cellv 5 _ rfl
  have c4 : w1.cell? ⟨w.heap.size, 6, none⟩ = some (iv a4) := h1.cellv 6 _ rfl
  have c5 : w1.cell? ⟨w.heap.size, 7, none⟩ = some (iv a5) := h1.cellv 7 _ rfl
  have c6 : w1.cell? ⟨w.heap.size, 8, none⟩ = some (iv a6) := h1.cellv 8 _ rfl
  have c7 : w1.cell? ⟨w.heap.size, 9, none⟩ = some (iv a7) := h1.cellv 9 _ rfl
  have c8 : w1.cell? ⟨w.heap.size, 10, none⟩ = some (iv a8) := h1.cellv 10 _ rfl
  have c9 : w1.cell? ⟨w.heap.size, 11, none⟩ = some (iv a9) := h1.cellv 11 _ rfl
  have c10 : w1.cell? ⟨w.heap.size, 12, none⟩ = some (iv a10) := h1.cellv 12 _ rfl
  have c11 : w1.cell? ⟨w.heap.size, 13, none⟩ = some (iv a11) := h1.cellv 13 _ rfl
  have H2 := Keep.mk (And.intro h2 (And.intro g1 s0))
  clear h0 h1 h2 g1 s0
  go_enter Tryz.func19, Tryz.ntmps19
  have e0 := hw0
  go_wp2_with (first
    | (with_reducible show wpList _ _ _ ({ dst := some 31, op := Op.build 60 _, type := _, pos := _, after := _, guard := _ } :: _) _ _
       refine build_g rfl 60 _ rfl _ ((congrArg (Tryz.prog.built 60) (by first | (simp only [List.map_toArray, List.map_cons, List.map_nil, Act.eval]; done) | (simp only [List.map_toArray, List.map_cons, List.map_nil, Act.eval]; with_reducible rfl) | (simp only [List.map_toArray, List.map_cons, List.map_nil, Act.eval]; rfl))).trans (builtL a0 a1 a2 a3 a4 a5 a6 a7 a8 a9 a10 a11)) ?_
       simp only [Act.put, List.setIfInBounds_toArray, List.set_cons_zero, List.set_cons_succ])
    | (with_reducible show wpList _ _ _ ({ dst := none, op := Op.store 60 _ (Operand.tmp 31), type := _, pos := _, after := _, guard := _ } :: _) _ _
       refine wpList_store_mid rfl 60 _ _ rfl w0.heap.size 0 #[iv a0, iv a1, iv a2, iv a3, iv a4, iv a5, iv a6, iv a7, iv a8, iv a9, iv a10, iv a11] rfl rfl (H2.out.1.there 0 12 (Nat.le_refl 12)) infoL (all_oneCell_toArray (by intro u hu; simp only [List.mem_cons, List.not_mem_nil, or_false] at hu; rcases hu with rfl | rfl | rfl | rfl | rfl | rfl | rfl | rfl | rfl | rfl | rfl | rfl <;> rfl)) ?_))
  have h6 := H2.out.1.setAll [iv a0, iv a1, iv a2, iv a3, iv a4, iv a5, iv a6, iv a7, iv a8, iv a9, iv a10, iv a11] rfl
  have g6 : w.grownBy (w1.setCells w0.heap.size 0 [iv a0, iv a1, iv a2, iv a3, iv a4, iv a5, iv a6, iv a7, iv a8, iv a9, iv a10, iv a11]) none := gr_new H2.out.2.1 (gr_sets _ _ _ _) H2.out.2.2
  exact ret_cell rfl rfl h6 hd hrw infoL rfl ⟨rfl, g6⟩
end Go.Proofs.YtkdjcknikhgfkabGreatDoor.Pk.Sn
