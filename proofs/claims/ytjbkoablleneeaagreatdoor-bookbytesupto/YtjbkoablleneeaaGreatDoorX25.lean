import Derived.Test.YtjbkoablleneeaaGreatDoorX21
/- ticks alone: Decode of nothing; the hall without anybody -/
namespace Go.Proofs.YtjbkoablleneeaaGreatDoor.Pk
open Go Go.RowKit

/-- a datagram that is none -/
def zdg : List Value := [Value.int IntKind.i64 0, Value.string { data := #[] }, Value.int IntKind.u64 0, Value.string { data := #[] }, Value.string { data := #[] }, Value.int IntKind.u64 0, Value.int IntKind.i64 0, Value.string { data := #[] }, Value.int IntKind.u64 0, Value.int IntKind.i64 0, Value.int IntKind.i64 0, Value.bool false, Value.bool false, Value.string { data := #[] }, Value.string { data := #[] }]
theorem under103 : ∃ d, Tryz.prog.underlying 103 = some d ∧ d.isRow = true := by
  have h : (Tryz.prog.underlying 103).map (·.isRow) = some true := by kernel_rfl
  cases hq : Tryz.prog.underlying 103 with
  | none => rw [hq] at h; cases h
  | some d => rw [hq] at h; exact ⟨d, rfl, Option.some.inj h⟩
theorem size103 : (Tryz.prog.info? 103).map (·.size) = some 15 := by kernel_rfl
theorem size27 : (Tryz.prog.info? 27).map (·.size) = some 1 := by kernel_rfl
theorem zdg_one : zdg.toArray.all (·.oneCell') = true := all_oneCell_toArray (by
  intro v hv
  simp only [zdg, List.mem_cons, List.not_mem_nil, or_false] at hv
  rcases hv with rfl | rfl | rfl | rfl | rfl | rfl | rfl | rfl | rfl | rfl | rfl | rfl | rfl | rfl | rfl <;> rfl)
theorem load27 {W : World} {b : Nat} {x : Int} (h : Has W b [iv x] 27) : (loadVar 27 ⟨b, 0, none⟩).run Tryz.prog W = .ok (iv x) W := by
  have hc : W.cell? ⟨b, 0, none⟩ = some (iv x) := h.cellv 0 _ rfl
  simp [loadVar, go_sem, hc]
theorem results_two {fn : Func} {p q : Tmp} {s t : TypeId} (h : fn.results = #[.cell p s, .cell q t]) (tmps : Array Value) (P : Program) (w : World) :
    (results fn tmps).run P w = ((asAddr (tmps.getD p undef)).run P w).andThen fun a w₁ => ((loadVar s a).run P w₁).andThen fun x w₂ => ((asAddr (tmps.getD q undef)).run P w₂).andThen fun b w₃ => ((loadVar t b).run P w₃).andThen fun y w₄ => .ok (.tuple #[x, y]) w₄ := by
  simp only [results, h]
  simp [Sem.run_bind, Result.andThen]
set_option maxRecDepth 100000 in
set_option maxHeartbeats 4000000 in
theorem decode0_c (w : World) :
    Calls Tryz.prog 75 #[.string { data := #[] }] w fun e w' => e = .returned (.tuple #[.agg zdg.toArray, .int .i64 70]) ∧ w.grownBy w' none := by
  have HP := Keep.mk (strPrefix_c { data := #[] } { data := #[74, 48, 49] })
  have hf : decide ((sl { data := #[] }).take (ByteArray.mk #[74, 48, 49]).size = sl { data := #[74, 48, 49] }) = false := by rfl
  rw [hf] at HP
  clear hf
  obtain ⟨d3, U3, Q3⟩ := under103
  go_enter Tryz.func75, Tryz.ntmps75
  go_wp2_with fail
  refine (HP.out _).mono ?_
  rintro e w1 ⟨rfl, rfl⟩
  obtain ⟨W1, hW1⟩ : ∃ W1, (w.alloc (.cells zdg.toArray 103)).alloc (.cells #[Value.int IntKind.i64 0] 27) = W1 := ⟨_, rfl⟩
  have hh1 : Has W1 w.heap.size zdg 103 := by rw [← hW1]; exact (Has.newA w zdg.toArray 103).alloc _
  have hh2 : Has W1 (w.heap.size + 1) [iv 0] 27 := by
    rw [← hW1]
    have := Has.newA (w.alloc (.cells zdg.toArray 103)) #[Value.int IntKind.i64 0] 27
    rw [heap1] at this
    exact this
  have hg1 : w.grownBy W1 none := by rw [← hW1]; exact (World.grownBy_alloc _ _ _).trans (World.grownBy_alloc _ _ _)
  have HH := Keep.mk (And.intro hh1 (And.intro hh2 hg1))
  rw [show (w.alloc (Obj.cells #[Value.int IntKind.i64 0, Value.string { data := #[] }, Value.int IntKind.u64 0, Value.string { data := #[] }, Value.string { data := #[] }, Value.int IntKind.u64 0, Value.int IntKind.i64 0, Value.string { data := #[] }, Value.int IntKind.u64 0, Value.int IntKind.i64 0, Value.int IntKind.i64 0, Value.bool false, Value.bool false, Value.string { data := #[] }, Value.string { data := #[] }] 103)).alloc (Obj.cells #[Value.int IntKind.i64 0] 27) = W1 from hW1]
  clear hh1 hh2 hg1 hW1
  have HD2 : Keep (Has (W1.setCells w.heap.size 0 zdg) w.heap.size zdg 103 ∧ Has (W1.setCells w.heap.size 0 zdg) (w.heap.size + 1) [iv 0] 27 ∧ w.grownBy (W1.setCells w.heap.size 0 zdg) none) := ⟨HH.out.1.setAll zdg rfl, HH.out.2.1.kept (gr_sets _ _ _ _) (by simp), gr_new HH.out.2.2 (gr_sets _ _ _ _) (Nat.le_refl _)⟩
  have cc : (W1.setCells w.heap.size 0 zdg).cell? ⟨w.heap.size + 1, 0, none⟩ = some (iv 0) := HD2.out.2.1.cellv 0 _ rfl
  have ff := HD2.out.2.1.frozen 0
  generalize hW2 : W1.setCells w.heap.size 0 zdg = W2 at HD2 cc ff
  have HW2 := Keep.mk hW2
  clear hW2
  go_wp2_with (first
    | (show wpList _ _ _ ({ dst := _, op := Op.load 103 _, type := _, pos := _, after := _, guard := _ } :: _) _ _
       refine wpList_load_mid rfl 103 _ rfl _ _ rfl zdg _ HH.out.1.range U3 Q3 size103 ?_)
    | (show wpList _ _ _ ({ dst := _, op := Op.store 103 _ _, type := _, pos := _, after := _, guard := _ } :: _) _ _
       refine wpList_store_mid rfl 103 _ _ rfl w.heap.size 0 zdg.toArray rfl rfl (HH.out.1.there 0 _ (Nat.le_refl 15)) size103 zdg_one ?_
       rw [show zdg.toArray.toList = zdg from rfl, HW2.out]))
  refine bodyPost_ret (v := .tuple #[.agg zdg.toArray, iv 70]) ?_ rfl ⟨rfl, gr_new HD2.out.2.2 (gr_set _ _ _ _) (by omega)⟩
  rw [results_two rfl]
  have hA : Has (W2.setCell ⟨w.heap.size + 1, 0, none⟩ (iv 70)) w.heap.size zdg 103 := HD2.out.1.kept (gr_set _ _ _ _) (by simp)
  have hB : Has (W2.setCell ⟨w.heap.size + 1, 0, none⟩ (iv 70)) (w.heap.size + 1) [iv 70] 27 := HD2.out.2.1.setCell 0 _
  have e1 := run_loadVar_mid (P := Tryz.prog) _ w.heap.size 0 103 zdg d3 hA.range U3 Q3 size103
  have e2 := load27 hB
  show ((asAddr (.pointer (some ⟨w.heap.size, 0, none⟩))).run Tryz.prog _).andThen _ = _
  simp only [asAddr, Sem.run_pure, Result.andThen_ok, e1]
  show ((asAddr (.pointer (some ⟨w.heap.size + 1, 0, none⟩))).run Tryz.prog _).andThen _ = _
  simp only [asAddr, Sem.run_pure, Result.andThen_ok, e2]
end Go.Proofs.YtjbkoablleneeaaGreatDoor.Pk

