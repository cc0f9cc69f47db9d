import Derived.Test.YtkdjcknikhgfkaaGreatDoorFN1
/- the reference's long, by kinds -/
namespace Go.Proofs.YtkdjcknikhgfkaaGreatDoor.Pk
open Go Go.RowKit
set_option maxHeartbeats 4000000 in
set_option maxRecDepth 100000 in
theorem rlong_1 (s : ByteArray) (w : World) (hy : (sl s)[3]? = some 1) (hl : 3 < s.size) :
    Calls Tryz.prog 125 #[.string s] w fun e w' => e = .returned (.bool (decide ((s.size : Int) = 96))) ∧ w' = w := by
  have ix : ∀ W, (Instr.index 9 (.string s) (.int .i64 3)).run Tryz.prog W = .ok (.int .u8 1) W := fun W => idx9 s 3 1 hl hy W
  by_cases h : (s.size : Int) = 96
  · rw [decide_eq_true h]
    have h2 : ((s.size : Int) == 96) = true := by simp; omega
    go_enter Tryz.func125, Tryz.ntmps125
    go_wp2_with fail
    go_ret
    exact ⟨rfl, rfl⟩
  · rw [decide_eq_false h]
    have h2 : ((s.size : Int) == 96) = false := by simp; omega
    have h3 : decide ((s.size : Int) = 96) = false := decide_eq_false h
    go_enter Tryz.func125, Tryz.ntmps125
    go_wp2_with fail
    go_ret
    exact ⟨rfl, rfl⟩
set_option maxHeartbeats 4000000 in
set_option maxRecDepth 100000 in
theorem rlong_2 (s : ByteArray) (w : World) (hy : (sl s)[3]? = some 2) (hl : 3 < s.size) :
    Calls Tryz.prog 125 #[.string s] w fun e w' => e = .returned (.bool (decide ((s.size : Int) = 60))) ∧ w' = w := by
  have ix : ∀ W, (Instr.index 9 (.string s) (.int .i64 3)).run Tryz.prog W = .ok (.int .u8 2) W := fun W => idx9 s 3 2 hl hy W
  by_cases h : (s.size : Int) = 60
  · rw [decide_eq_true h]
    have h2 : ((s.size : Int) == 60) = true := by simp; omega
    go_enter Tryz.func125, Tryz.ntmps125
    go_wp2_with fail
    go_ret
    exact ⟨rfl, rfl⟩
  · rw [decide_eq_false h]
    have h2 : ((s.size : Int) == 60) = false := by simp; omega
    have h3 : decide ((s.size : Int) = 60) = false := decide_eq_false h
    go_enter Tryz.func125, Tryz.ntmps125
    go_wp2_with fail
    go_ret
    exact ⟨rfl, rfl⟩
set_option maxHeartbeats 4000000 in
set_option maxRecDepth 100000 in
theorem rlong_4 (s : ByteArray) (w : World) (hy : (sl s)[3]? = some 4) (hl : 3 < s.size) :
    Calls Tryz.prog 125 #[.string s] w fun e w' => e = .returned (.bool (decide ((s.size : Int) = 77))) ∧ w' = w := by
  have ix : ∀ W, (Instr.index 9 (.string s) (.int .i64 3)).run Tryz.prog W = .ok (.int .u8 4) W := fun W => idx9 s 3 4 hl hy W
  by_cases h : (s.size : Int) = 77
  · rw [decide_eq_true h]
    have h2 : ((s.size : Int) == 77) = true := by simp; omega
    go_enter Tryz.func125, Tryz.ntmps125
    go_wp2_with fail
    go_ret
    exact ⟨rfl, rfl⟩
  · rw [decide_eq_false h]
    have h2 : ((s.size : Int) == 77) = false := by simp; omega
    have h3 : decide ((s.size : Int) = 77) = false := decide_eq_false h
    go_enter Tryz.func125, Tryz.ntmps125
    go_wp2_with fail
    go_ret
    exact ⟨rfl, rfl⟩
set_option maxHeartbeats 4000000 in
set_option maxRecDepth 100000 in
theorem rlong_5 (s : ByteArray) (w : World) (hy : (sl s)[3]? = some 5) (hl : 3 < s.size) :
    Calls Tryz.prog 125 #[.string s] w fun e w' => e = .returned (.bool (decide ((s.size : Int) = 55))) ∧ w' = w := by
  have ix : ∀ W, (Instr.index 9 (.string s) (.int .i64 3)).run Tryz.prog W = .ok (.int .u8 5) W := fun W => idx9 s 3 5 hl hy W
  by_cases h : (s.size : Int) = 55
  · rw [decide_eq_true h]
    have h2 : ((s.size : Int) == 55) = true := by simp; omega
    go_enter Tryz.func125, Tryz.ntmps125
    go_wp2_with fail
    go_ret
    exact ⟨rfl, rfl⟩
  · rw [decide_eq_false h]
    have h2 : ((s.size : Int) == 55) = false := by simp; omega
    have h3 : decide ((s.size : Int) = 55) = false := decide_eq_false h
    go_enter Tryz.func125, Tryz.ntmps125
    go_wp2_with fail
    go_ret
    exact ⟨rfl, rfl⟩
set_option maxHeartbeats 4000000 in
set_option maxRecDepth 100000 in
theorem rlong_6 (s : ByteArray) (w : World) (hy : (sl s)[3]? = some 6) (hl : 3 < s.size) :
    Calls Tryz.prog 125 #[.string s] w fun e w' => e = .returned (.bool (decide (52 ≤ (s.size : Int)))) ∧ w' = w := by
  have ix : ∀ W, (Instr.index 9 (.string s) (.int .i64 3)).run Tryz.prog W = .ok (.int .u8 6) W := fun W => idx9 s 3 6 hl hy W
  by_cases h : 52 ≤ (s.size : Int)
  · rw [decide_eq_true h]
    skip
    go_enter Tryz.func125, Tryz.ntmps125
    go_wp2_with fail
    go_ret
    exact ⟨rfl, rfl⟩
  · rw [decide_eq_false h]
    skip
    have h3 : decide (52 ≤ (s.size : Int)) = false := decide_eq_false h
    go_enter Tryz.func125, Tryz.ntmps125
    go_wp2_with fail
    go_ret
    exact ⟨rfl, rfl⟩
set_option maxHeartbeats 4000000 in
set_option maxRecDepth 100000 in
theorem rlong_7 (s : ByteArray) (w : World) (hy : (sl s)[3]? = some 7) (hl : 3 < s.size) :
    Calls Tryz.prog 125 #[.string s] w fun e w' => e = .returned (.bool (decide ((s.size : Int) = 52))) ∧ w' = w := by
  have ix : ∀ W, (Instr.index 9 (.string s) (.int .i64 3)).run Tryz.prog W = .ok (.int .u8 7) W := fun W => idx9 s 3 7 hl hy W
  by_cases h : (s.size : Int) = 52
  · rw [decide_eq_true h]
    have h2 : ((s.size : Int) == 52) = true := by simp; omega
    go_enter Tryz.func125, Tryz.ntmps125
    go_wp2_with fail
    go_ret
    exact ⟨rfl, rfl⟩
  · rw [decide_eq_false h]
    have h2 : ((s.size : Int) == 52) = false := by simp; omega
    have h3 : decide ((s.size : Int) = 52) = false := decide_eq_false h
    go_enter Tryz.func125, Tryz.ntmps125
    go_wp2_with fail
    go_ret
    exact ⟨rfl, rfl⟩
end Go.Proofs.YtkdjcknikhgfkaaGreatDoor.Pk
