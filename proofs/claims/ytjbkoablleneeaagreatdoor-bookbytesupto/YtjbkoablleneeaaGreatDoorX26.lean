import Derived.Test.YtjbkoablleneeaaGreatDoorX25
/- ticks alone: the hall without anybody -/
namespace Go.Proofs.YtjbkoablleneeaaGreatDoor.Pk
open Go Go.RowKit

/-- a tick's entry -/
def tk (t : Nat) : En := ⟨3, t, 0, 0, [], [], 0, []⟩
/-- a tick as it is gone through: t is said, b are behind -/
def itm (t b : Nat) : List Value := en (tk t) ++ (.int .u64 b :: zdg)
/-- a seat that nobody has -/
def seat0 : List Value := [.bool false, .int .u64 0, iv 0, Value.string { data := #[] }, Value.string { data := #[] }, .bool false, iv 0, iv 0, iv 0, .bool false, .bool false]
def seats0 : Nat → List Value
  | 0 => [.int .u64 0]
  | n + 1 => seat0 ++ seats0 n
theorem seats_at : ∀ (n i : Nat), i < n → (seats0 n)[i * 11]? = some (.bool false)
  | 0, i, h => by omega
  | n + 1, 0, _ => rfl
  | n + 1, i + 1, h => by
    rw [seats0, List.getElem?_append_right (by show 11 ≤ (i + 1) * 11; omega), show (i + 1) * 11 - seat0.length = i * 11 by show (i + 1) * 11 - 11 = i * 11; omega]
    exact seats_at n i (by omega)
def hz : List Value := seats0 32
set_option maxRecDepth 100000 in
set_option maxHeartbeats 4000000 in
theorem each_c (hb : Nat) (f : Value) (w : World) (h : Has w hb hz 96) :
    Calls Tryz.prog 117 #[.pointer (some ⟨hb, 0, none⟩), f] w fun e w' => e = .returned (.tuple #[]) ∧ w' = w := by
  have HC : Keep (∀ i : Nat, i < 32 → w.cell? ⟨hb, i * 11, none⟩ = some (.bool false)) := ⟨fun i hi => h.cellv _ _ (seats_at 32 i hi)⟩
  clear h
  go_enter Tryz.func117, Tryz.ntmps117
  go_wp2_with fail
  go_loopw [5] (fun t w' => ∃ i : Nat, i ≤ 32 ∧ t = .int .i64 i ∧ w' = w) (fun t _ => 32 - (intOf t).toNat)
  case atStart => exact ⟨0, by omega, rfl, rfl⟩
  case round =>
    obtain ⟨i, hi, rfl, rfl⟩ := hrel
    by_cases hl : i < 32
    · have c0 := HC.out i hl
      go_wp2
      exact ⟨⟨i + 1, by omega, by go_num, trivial⟩, by simp only [intOf]; omega⟩
    · go_wp2
      go_end0
      exact ⟨rfl, rfl⟩
set_option maxRecDepth 100000 in
set_option maxHeartbeats 4000000 in
theorem gather_c (hb : Nat) (w : World) (h : Has w hb hz 96) :
    Calls Tryz.prog 85 #[.pointer (some ⟨hb, 0, none⟩)] w fun e w' => e = .returned (.slice none 0 0) ∧ w.grownBy w' none := by
  have HC := Keep.mk (fun f => each_c hb f _ (h.alloc (.cells #[.slice none 0 0] 51)))
  have HG := Keep.mk (World.grownBy_alloc w (.cells #[.slice none 0 0] 51) none)
  clear h
  go_enter Tryz.func85, Tryz.ntmps85
  go_wp2_with fail
  refine (HC.out _).mono ?_
  rintro e w1 ⟨rfl, hw⟩
  subst hw
  go_wp2
  go_ret
  exact ⟨rfl, HG.out⟩
/-- a tick's label -/
def lbl : List Value := [iv 3, iv 0, Value.string { data := #[] }, .slice none 0 0]
theorem underL : ∃ d, Tryz.prog.underlying 53 = some d ∧ d.isRow = true := by
  have h : (Tryz.prog.underlying 53).map (·.isRow) = some true := by kernel_rfl
  cases hq : Tryz.prog.underlying 53 with
  | none => rw [hq] at h; cases h
  | some d => rw [hq] at h; exact ⟨d, rfl, Option.some.inj h⟩
theorem size53 : (Tryz.prog.info? 53).map (·.size) = some 4 := by kernel_rfl
theorem lbl_one : ∀ v ∈ lbl, v.oneCell' = true := by
  intro v hv
  simp only [lbl, List.mem_cons, List.not_mem_nil, or_false] at hv
  rcases hv with rfl | rfl | rfl | rfl <;> rfl
theorem results_ct {fn : Func} {p q : Tmp} {s : TypeId} (h : fn.results = #[.cell p s, .tmp q]) (tmps : Array Value) (P : Program) (w : World) :
    (results fn tmps).run P w = ((asAddr (tmps.getD p undef)).run P w).andThen fun a w₁ => ((loadVar s a).run P w₁).andThen fun x w₂ => .ok (.tuple #[x, tmps.getD q undef]) w₂ := by
  simp only [results, h]
  simp [Sem.run_bind, Result.andThen]
set_option maxRecDepth 100000 in
set_option maxHeartbeats 4000000 in
theorem admits_c (hb t b : Nat) (w : World) :
    Calls Tryz.prog 45 #[.pointer (some ⟨hb, 0, none⟩), .agg (itm t b).toArray] w fun e w' => e = .returned (.bool true) ∧ w.grownBy w' none := by
  have h := Has.newA w (itm t b).toArray 105
  have c0 : (w.alloc (.cells (itm t b).toArray 105)).cell? ⟨w.heap.size, 0, none⟩ = some (iv 3) := h.cellv 0 _ rfl
  have HG := Keep.mk (World.grownBy_alloc w (.cells (itm t b).toArray 105) none)
  clear h
  generalize (itm t b).toArray = IA at c0 HG ⊢
  go_enter Tryz.func45, Tryz.ntmps45
  go_wp2
  go_ret
  exact ⟨rfl, HG.out⟩
set_option maxRecDepth 100000 in
set_option maxHeartbeats 4000000 in
theorem unformed_c (t b : Nat) (w : World) (ht : t ≠ b) :
    Calls Tryz.prog 44 #[.agg (itm t b).toArray] w fun e w' => e = .returned (.bool false) ∧ w.grownBy w' none := by
  have h := Has.newA w (itm t b).toArray 105
  have c1 : (w.alloc (.cells (itm t b).toArray 105)).cell? ⟨w.heap.size, 1, none⟩ = some (.int .u64 t) := h.cellv 1 _ rfl
  have c8 : (w.alloc (.cells (itm t b).toArray 105)).cell? ⟨w.heap.size, 8, none⟩ = some (.int .u64 b) := h.cellv 8 _ rfl
  have HG := Keep.mk (World.grownBy_alloc w (.cells (itm t b).toArray 105) none)
  have hne : ((t : Int) == (b : Int)) = false := by simp; omega
  clear h
  generalize (itm t b).toArray = IA at c1 c8 HG ⊢
  go_enter Tryz.func44, Tryz.ntmps44
  go_wp2
  go_ret
  exact ⟨rfl, HG.out⟩
set_option maxRecDepth 100000 in
set_option maxHeartbeats 4000000 in
theorem formed_c (t : Nat) (w : World) :
    Calls Tryz.prog 44 #[.agg (itm t t).toArray] w fun e w' => e = .returned (.bool true) ∧ w.grownBy w' none := by
  have h := Has.newA w (itm t t).toArray 105
  have c0 : (w.alloc (.cells (itm t t).toArray 105)).cell? ⟨w.heap.size, 0, none⟩ = some (iv 3) := h.cellv 0 _ rfl
  have c1 : (w.alloc (.cells (itm t t).toArray 105)).cell? ⟨w.heap.size, 1, none⟩ = some (.int .u64 t) := h.cellv 1 _ rfl
  have c8 : (w.alloc (.cells (itm t t).toArray 105)).cell? ⟨w.heap.size, 8, none⟩ = some (.int .u64 t) := h.cellv 8 _ rfl
  have HR : Keep ((w.alloc (.cells (itm t t).toArray 105)).rangeAt w.heap.size 0 (en (tk t))) := ⟨fun j v hv => by
    rw [Nat.zero_add]
    exact h.cellv j v (by
      have hj := (List.getElem?_eq_some_iff.1 hv).1
      rw [List.toList_toArray, itm, List.getElem?_append_left hj]; exact hv)⟩
  have HG := Keep.mk (World.grownBy_alloc w (.cells (itm t t).toArray 105) none)
  have heq : ∀ W : World, (Op.equalIn 10000 35 (.agg (en (tk t)).toArray) (.agg #[iv 3, .int .u64 t, .int .u64 0, iv 0, Value.string { data := #[] }, Value.string { data := #[] }, .int .u64 0, Value.string { data := #[] }])).run Tryz.prog W = .ok true W := fun W => eq35 (tk t) W
  obtain ⟨d35, U35, Q35⟩ := under35
  clear h
  generalize (itm t t).toArray = IA at c0 c1 c8 HG HR ⊢
  generalize hen : en (tk t) = ET at HR heq
  have HSZ : Keep ((Tryz.prog.info? 35).map (·.size) = some ET.length) := ⟨by rw [← hen]; exact size35⟩
  clear hen
  go_enter Tryz.func44, Tryz.ntmps44
  go_wp2_with (
    (show wpList _ _ _ ({ dst := _, op := Op.load 35 _, type := _, pos := _, after := _, guard := _ } :: _) _ _
     refine wpList_load_mid rfl 35 _ rfl _ _ rfl ET _ HR.out U35 Q35 HSZ.out ?_))
  go_ret
  exact ⟨rfl, HG.out⟩
set_option maxRecDepth 100000 in
set_option maxHeartbeats 4000000 in
theorem follow_c (hb t b : Nat) (w : World) (h : Has w hb hz 96) :
    Calls Tryz.prog 46 #[.pointer (some ⟨hb, 0, none⟩), .agg (itm t b).toArray] w fun e w' => e = .returned (.tuple #[.agg lbl.toArray, .bool true]) ∧ w.grownBy w' none := by
  obtain ⟨W1, hW1⟩ : ∃ W1, (w.alloc (.cells (itm t b).toArray 105)).alloc (.cells #[Value.int IntKind.i64 0, Value.int IntKind.i64 0, Value.string { data := #[] }, Value.slice none 0 0] 53) = W1 := ⟨_, rfl⟩
  have hh1 : Has W1 w.heap.size (itm t b) 105 := by rw [← hW1]; exact (Has.newA w (itm t b).toArray 105).alloc _
  have hh2 : Has W1 (w.heap.size + 1) [iv 0, iv 0, Value.string { data := #[] }, .slice none 0 0] 53 := by
    rw [← hW1]
    have := Has.newA (w.alloc (.cells (itm t b).toArray 105)) #[Value.int IntKind.i64 0, Value.int IntKind.i64 0, Value.string { data := #[] }, Value.slice none 0 0] 53
    rw [heap1] at this
    exact this
  have hg1 : w.grownBy W1 none := by rw [← hW1]; exact (World.grownBy_alloc _ _ _).trans (World.grownBy_alloc _ _ _)
  have c0 : W1.cell? ⟨w.heap.size, 0, none⟩ = some (iv 3) := hh1.cellv 0 _ rfl
  have HGA := Keep.mk (gather_c hb W1 (h.kept hg1 (by simp)))
  have HH := Keep.mk (And.intro hh2 hg1)
  have hlt := h.lt
  obtain ⟨d5, U5, Q5⟩ := underL
  clear h hh1 hh2 hg1
  generalize (itm t b).toArray = IA at hW1 ⊢
  go_enter Tryz.func46, Tryz.ntmps46
  go_wp2_with fail
  refine HGA.out.mono ?_
  rintro e W2 ⟨rfl, g2⟩
  have HD : Keep (Has W2 (w.heap.size + 1) [iv 0, iv 0, Value.string { data := #[] }, .slice none 0 0] 53 ∧ w.grownBy W2 none) := ⟨HH.out.1.kept g2 (by simp), HH.out.2.trans g2⟩
  clear g2 HH HGA c0 hW1
  go_wp2_with (
    (show wpList _ _ _ ({ dst := _, op := Op.store 53 _ _, type := _, pos := _, after := _, guard := _ } :: _) _ _
     refine wpList_store_mid rfl 53 _ _ rfl (w.heap.size + 1) 0 lbl.toArray rfl rfl (HD.out.1.there 0 _ (Nat.le_refl 4)) size53 (all_oneCell_toArray lbl_one) ?_))
  have hA : Has (W2.setCells (w.heap.size + 1) 0 lbl) (w.heap.size + 1) lbl 53 := HD.out.1.setAll lbl rfl
  refine bodyPost_ret (v := .tuple #[.agg lbl.toArray, .bool true]) ?_ rfl ⟨rfl, gr_new HD.out.2 (gr_sets _ _ _ _) (by omega)⟩
  rw [results_ct rfl]
  have e1 := run_loadVar_mid (P := Tryz.prog) _ (w.heap.size + 1) 0 53 lbl d5 hA.range U5 Q5 size53
  show ((asAddr (.pointer (some ⟨w.heap.size + 1, 0, none⟩))).run Tryz.prog (W2.setCells (w.heap.size + 1) 0 lbl)).andThen _ = _
  simp only [asAddr, Sem.run_pure, Result.andThen_ok, e1]
  rfl
end Go.Proofs.YtjbkoablleneeaaGreatDoor.Pk

