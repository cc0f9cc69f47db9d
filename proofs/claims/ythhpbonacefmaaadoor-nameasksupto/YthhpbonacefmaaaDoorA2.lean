/- find: the span that a rune lies in. -/
import Derived.Test.YthhpbonacefmaaaDoorA1
import Derived.Laws.ResultCell
namespace Go.Proofs.YthhpbonacefmaaaDoor
open Go Go.RowKit

abbrev rv (x : Int) : Value := .int .i32 x
/-- the program's table -/
def spn : List (Int × Int × Int) := [(45, 45, 0), (48, 57, 0), (65, 90, 32), (95, 95, 0), (97, 122, 0), (192, 214, 32), (216, 222, 32), (223, 246, 0), (248, 255, 0), (945, 969, 0)]
def spc : List Value := [rv 45, rv 45, rv 0, rv 48, rv 57, rv 0, rv 65, rv 90, rv 32, rv 95, rv 95, rv 0, rv 97, rv 122, rv 0, rv 192, rv 214, rv 32, rv 216, rv 222, rv 32, rv 223, rv 246, rv 0, rv 248, rv 255, rv 0, rv 945, rv 969, rv 0]
def fnd (r : Int) : Option (Int × Int × Int) := spn.find? fun p => decide (p.1 ≤ r ∧ r ≤ p.2.1)
/-- what find tells -/
def fndV : Option (Int × Int × Int) → Value
  | some (a, b, c) => .tuple #[.agg #[rv a, rv b, rv c], .bool true]
  | none => .tuple #[.agg #[rv 0, rv 0, rv 0], .bool false]
/-- the variable holds the table -/
def Kc (w : World) : Prop := w.rangeAt 0 0 spc
theorem Kc.kept {w w' : World} (h : Kc w) (hg : w.grownBy w' none) : Kc w' := by
  intro j v hv
  have := h j v hv
  exact hg.cell this (by simp)

theorem under57 : Tryd.prog.underlying 57 = some (.array 10 43) := by kernel_rfl
theorem info57 : (Tryd.prog.info? 57).map (·.size) = some spc.length := by kernel_rfl
/-- the spans from k on -/
def fndK (k : Nat) (r : Int) : Option (Int × Int × Int) := (spn.drop k).find? fun p => decide (p.1 ≤ r ∧ r ≤ p.2.1)

set_option maxHeartbeats 4000000 in
theorem idx57 (k : Nat) (hk : k < 10) (W : World) : (Instr.index 57 (.agg spc.toArray) (.int .i64 k)).run Tryd.prog W = .ok (.agg #[rv (spn.getD k (0, 0, 0)).1, rv (spn.getD k (0, 0, 0)).2.1, rv (spn.getD k (0, 0, 0)).2.2]) W := by
  rcases (by omega : k = 0 ∨ k = 1 ∨ k = 2 ∨ k = 3 ∨ k = 4 ∨ k = 5 ∨ k = 6 ∨ k = 7 ∨ k = 8 ∨ k = 9) with rfl | rfl | rfl | rfl | rfl | rfl | rfl | rfl | rfl | rfl
  all_goals kernel_rfl
theorem fndK_step {k : Nat} (hk : k < 10) (r : Int) : fndK k r = if (spn.getD k (0, 0, 0)).1 ≤ r ∧ r ≤ (spn.getD k (0, 0, 0)).2.1 then some (spn.getD k (0, 0, 0)) else fndK (k + 1) r := by
  have hl : k < spn.length := hk
  unfold fndK
  rw [List.drop_eq_getElem_cons hl, List.find?_cons, List.getD_eq_getElem?_getD, List.getElem?_eq_getElem hl]
  simp only [Option.getD_some]
  split
  · rename_i h; rw [if_pos (of_decide_eq_true h)]
  · rename_i h; rw [if_neg (of_decide_eq_false h)]
theorem fndK_end (r : Int) : fndK 10 r = none := rfl

set_option pp.deepTerms false in
set_option maxHeartbeats 4000000 in
theorem find_c (r : Int) (w : World) (hk : Kc w) :
    Calls Tryd.prog 24 #[rv r] w fun e w' => e = .returned (fndV (fnd r)) ∧ w.grownBy w' none := by
  go_enter Tryd.func24, Tryd.ntmps24
  have H1 : Keep (Kc (w.alloc (Obj.cells #[Value.int IntKind.i32 0, Value.int IntKind.i32 0, Value.int IntKind.i32 0] 43))) := ⟨hk.kept (World.grownBy_alloc _ _ _)⟩
  obtain ⟨V, hV⟩ : ∃ V, Value.agg spc.toArray = V := ⟨_, rfl⟩
  go_wp2_with (refine wpList_load_mid rfl 57 _ rfl _ _ rfl _ _ H1.out under57 rfl info57 ?_; rw [hV])
  have HV : Keep (Value.agg spc.toArray = V) := ⟨hV⟩
  clear hV
  go_loopw [7] (fun i w' => ∃ k : Nat, i = .int .i64 k ∧ k ≤ 10 ∧ Keep (fnd r = fndK k r) ∧ Has w' w.heap.size [rv 0, rv 0, rv 0] 43 ∧ w.grownBy w' none) (fun i _ => (10 - intOf i).toNat)
  case atStart => exact ⟨0, rfl, by omega, ⟨rfl⟩, Has.newA _ _ _, World.grownBy_alloc _ _ _⟩
  case round =>
    obtain ⟨k, rfl, hk10, HF, hH, hg⟩ := hrel
    by_cases hk2 : k = 10
    · subst hk2
      have f0 := hH.frozen 0
      have f1 := hH.frozen 1
      have f2 := hH.frozen 2
      have c0 := hH.cellv 0 _ rfl
      have c1 := hH.cellv 1 _ rfl
      have c2 := hH.cellv 2 _ rfl
      go_wp2_with fail
      refine bodyPost_ret (v := fndV (fnd r)) ?_ rfl ⟨rfl, ?_⟩
      · rw [results_cell_tmp rfl, HF.out, fndK_end]
        go_simp
        rfl
      · exact gr_new (gr_new (gr_new hg (gr_set _ _ _ _) (Nat.le_refl _)) (gr_set _ _ _ _) (Nat.le_refl _)) (gr_set _ _ _ _) (Nat.le_refl _)
    · have hix : ∀ W, (Instr.index 57 V (.int .i64 k)).run Tryd.prog W = .ok (.agg #[rv (spn.getD k (0, 0, 0)).1, rv (spn.getD k (0, 0, 0)).2.1, rv (spn.getD k (0, 0, 0)).2.2]) W := fun W => by rw [← HV.out]; exact idx57 k (by omega) W
      have HS : Keep (fndK k r = if (spn.getD k (0, 0, 0)).1 ≤ r ∧ r ≤ (spn.getD k (0, 0, 0)).2.1 then some (spn.getD k (0, 0, 0)) else fndK (k + 1) r) := ⟨fndK_step (by omega) r⟩
      obtain ⟨⟨A, B, C⟩, hT⟩ : ∃ T, spn.getD k (0, 0, 0) = T := ⟨_, rfl⟩
      rw [hT] at hix HS
      simp only at hix HS
      clear hT
      have hHa := hH.alloc (Obj.cells #[Value.int IntKind.i32 A, Value.int IntKind.i32 B, Value.int IntKind.i32 C] 43)
      have hga : w.grownBy (wr.alloc (Obj.cells #[Value.int IntKind.i32 A, Value.int IntKind.i32 B, Value.int IntKind.i32 C] 43)) none := hg.trans (World.grownBy_alloc _ _ _)
      by_cases hA : A ≤ r
      · by_cases hB : r ≤ B
        · have f0 := hHa.frozen 0
          have f1 := hHa.frozen 1
          have f2 := hHa.frozen 2
          have c0 := hHa.cellv 0 _ rfl
          have c1 := hHa.cellv 1 _ rfl
          have c2 := hHa.cellv 2 _ rfl
          go_wp2_with fail
          refine bodyPost_ret (v := fndV (fnd r)) ?_ rfl ⟨rfl, ?_⟩
          · rw [results_cell_tmp rfl, HF.out, HS.out, if_pos ⟨hA, hB⟩]
            go_simp
            rfl
          · exact gr_new (gr_new (gr_new hga (gr_set _ _ _ _) (Nat.le_refl _)) (gr_set _ _ _ _) (Nat.le_refl _)) (gr_set _ _ _ _) (Nat.le_refl _)
        · go_wp2_with fail
          go_roundw
          case rel => exact ⟨k + 1, by simp, by omega, ⟨by rw [HF.out, HS.out, if_neg (by omega)]⟩, hHa, hga⟩
          case measure => simp [intOf]; omega
      · go_wp2_with fail
        go_roundw
        case rel => exact ⟨k + 1, by simp, by omega, ⟨by rw [HF.out, HS.out, if_neg (by omega)]⟩, hHa, hga⟩
        case measure => simp [intOf]; omega
end Go.Proofs.YthhpbonacefmaaaDoor
