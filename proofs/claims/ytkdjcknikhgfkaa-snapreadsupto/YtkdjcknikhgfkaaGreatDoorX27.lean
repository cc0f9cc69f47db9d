import Derived.Test.YtkdjcknikhgfkaaGreatDoorX26
namespace Go.Proofs.YtkdjcknikhgfkaaGreatDoor.Pk
open Go Go.RowKit
set_option maxHeartbeats 4000000 in
set_option maxRecDepth 100000 in
theorem rsigned_c (b : UInt8) (w : World) :
    Calls Tryz.prog 74 #[.int .u8 (b.toNat : Int)] w fun e w' => e = .returned (.int .i64 (sval [b])) ∧ w' = w := by
  have hb := UInt8.toNat_lt b
  have hs : sval [b] = if (b.toNat : Int) > 127 then (b.toNat : Int) - 256 else (b.toNat : Int) := by
    unfold sval
    have hv : val [b] = b.toNat := by simp [val]
    rw [hv]
    have e : (256 ^ [b].length : Nat) = 256 := by simp
    rw [e]
    by_cases h : 127 < b.toNat
    · rw [if_neg (by omega), if_pos (by omega)]; rfl
    · rw [if_pos (by omega), if_neg (by omega)]
  rw [hs]
  obtain ⟨z, hz⟩ : ∃ z : Int, (b.toNat : Int) = z := ⟨_, rfl⟩
  have z0 : 0 ≤ z := by omega
  have z1 : z ≤ 255 := by omega
  rw [hz]
  clear hs hz hb
  have w1 : IntKind.i64.wrap z = z := IntWalk.i64_in _ (by omega)
  have w2 : IntKind.i64.wrap (z - 256) = z - 256 := IntWalk.i64_in _ (by omega)
  by_cases h : 127 < z
  · rw [if_pos h]
    go_enter Tryz.func74, Tryz.ntmps74
    go_wp2_with fail
    go_ret
    exact ⟨rfl, rfl⟩
  · rw [if_neg (by omega)]
    go_enter Tryz.func74, Tryz.ntmps74
    go_wp2_with fail
    go_ret
    exact ⟨rfl, rfl⟩
set_option maxHeartbeats 4000000 in
set_option maxRecDepth 100000 in
theorem rnum_c (s : ByteArray) (at' : Nat) (w : World) (h : at' + 8 ≤ s.size) (hs : s.size ≤ 1000000) :
    Calls Tryz.prog 73 #[.string s, .int .i64 (at' : Int)] w fun e w' => e = .returned (.int .u64 (val (((sl s).drop at').take 8) : Nat)) ∧ w' = w := by
  have HB : Keep (∀ i, val (((sl s).drop at').take i) < 256 ^ i ∨ i > 8) := ⟨fun i => by
    by_cases hi : i ≤ 8
    · left
      have := val_lt (((sl s).drop at').take i)
      rwa [List.length_take, List.length_drop, sl_len, Nat.min_eq_left (by omega)] at this
    · right; omega⟩
  go_enter Tryz.func73, Tryz.ntmps73
  go_wp2_with fail
  go_loopw [5, 6] (fun s5 s6 w' => ∃ (i : Nat) (x : Int), i ≤ 8 ∧ s5 = .int .u64 x ∧ s6 = .int .i64 (i : Nat) ∧ w' = w ∧ Keep (x = (val (((sl s).drop at').take i) : Nat))) (fun _ t _ => 8 - (intOf t).toNat)
  case atStart => exact ⟨0, 0, by omega, rfl, rfl, rfl, ⟨by simp [val]⟩⟩
  case round =>
    obtain ⟨i, x, i1, rfl, rfl, rfl, HX⟩ := hrel
    by_cases hi : i < 8
    · have hia : (i : Int) < 8 := by omega
      obtain ⟨y, hy⟩ : ∃ y, (sl s)[at' + i]? = some y := ⟨_, List.getElem?_eq_getElem (by rw [sl_len]; omega)⟩
      have ix : ∀ W, (Instr.index 9 (.string s) (.int .i64 ((at' : Int) + (i : Int)))).run Tryz.prog W = .ok (.int .u8 y.toNat) W := fun W => by
        have := idx9 s (at' + i) y (by omega) hy W
        rwa [show ((at' + i : Nat) : Int) = (at' : Int) + (i : Int) by omega] at this
      have wa : IntKind.i64.wrap ((at' : Int) + (i : Int)) = (at' : Int) + (i : Int) := IntWalk.i64_in _ (by omega)
      have hx7 : 0 ≤ x ∧ x < 72057594037927936 := by
        have h1 := HB.out i
        have h2 : (256 : Nat) ^ i ≤ 256 ^ 7 := Nat.pow_le_pow_right (by decide) (by omega)
        have h3 : (256 : Nat) ^ 7 = 72057594037927936 := by decide
        rw [HX.out]; omega
      have hyl := UInt8.toNat_lt y
      obtain ⟨z, hz⟩ : ∃ z : Int, (y.toNat : Int) = z := ⟨_, rfl⟩
      have z0 : 0 ≤ z := by omega
      have z1 : z ≤ 255 := by omega
      have HN : Keep (x * 256 + z = (val (((sl s).drop at').take (i + 1)) : Nat)) := ⟨by
        have e : ((sl s).drop at').take (i + 1) = ((sl s).drop at').take i ++ [y] := by
          rw [List.take_add_one, List.getElem?_drop, hy]; rfl
        rw [e, val_snoc, HX.out, ← hz]; simp⟩
      have wm : IntKind.u64.wrap (x * 256) = x * 256 := by rw [wu]; omega
      have wp : IntKind.u64.wrap (x * 256 + z) = x * 256 + z := by rw [wu]; omega
      have ix2 : ∀ W, (Instr.index 9 (.string s) (.int .i64 ((at' : Int) + (i : Int)))).run Tryz.prog W = .ok (.int .u8 z) W := fun W => by rw [ix W, hz]
      clear ix hz hyl hy
      go_wp2_with fail
      refine ⟨⟨i + 1, x * 256 + z, by omega, rfl, rfl, by trivial, HN⟩, ?_⟩
      simp only [intOf]; omega
    · have e8 : i = 8 := by omega
      subst e8
      go_wp2_with fail
      go_ret
      exact ⟨by rw [HX.out]; rfl, rfl⟩
end Go.Proofs.YtkdjcknikhgfkaaGreatDoor.Pk

namespace Go.Proofs.YtkdjcknikhgfkaaGreatDoor.Pk
open Go Go.RowKit
set_option maxHeartbeats 4000000 in
set_option maxRecDepth 100000 in
theorem rlong_1 (s : ByteArray) (w : World) (hy : (sl s)[3]? = some 1) (hl : 3 < s.size) :
    Calls Tryz.prog 125 #[.string s] w fun e w' => e = .returned (.bool (decide ((s.size : Int) = 96))) ∧ w' = w := by
  have ix : ∀ W, (Instr.index 9 (.string s) (.int .i64 3)).run Tryz.prog W = .ok (.int .u8 1) W := fun W => idx9 s 3 1 hl hy W
  by_cases h : (s.size : Int) = 96
  · rw [decide_eq_true h]
    have h2 : ((s.size : Int) == 96) = true := by simp; omega
    go_enter Tryz.func125, Tryz.ntmps125
    go_wp2_with fail
    go_ret
    exact ⟨rfl, rfl⟩
  · rw [decide_eq_false h]
    have h2 : ((s.size : Int) == 96) = false := by simp; omega
    have h3 : decide ((s.size : Int) = 96) = false := decide_eq_false h
    go_enter Tryz.func125, Tryz.ntmps125
    go_wp2_with fail
    go_ret
    exact ⟨rfl, rfl⟩
set_option maxHeartbeats 4000000 in
set_option maxRecDepth 100000 in
theorem rlong_2 (s : ByteArray) (w : World) (hy : (sl s)[3]? = some 2) (hl : 3 < s.size) :
    Calls Tryz.prog 125 #[.string s] w fun e w' => e = .returned (.bool (decide ((s.size : Int) = 60))) ∧ w' = w := by
  have ix : ∀ W, (Instr.index 9 (.string s) (.int .i64 3)).run Tryz.prog W = .ok (.int .u8 2) W := fun W => idx9 s 3 2 hl hy W
  by_cases h : (s.size : Int) = 60
  · rw [decide_eq_true h]
    have h2 : ((s.size : Int) == 60) = true := by simp; omega
    go_enter Tryz.func125, Tryz.ntmps125
    go_wp2_with fail
    go_ret
    exact ⟨rfl, rfl⟩
  · rw [decide_eq_false h]
    have h2 : ((s.size : Int) == 60) = false := by simp; omega
    have h3 : decide ((s.size : Int) = 60) = false := decide_eq_false h
    go_enter Tryz.func125, Tryz.ntmps125
    go_wp2_with fail
    go_ret
    exact ⟨rfl, rfl⟩
set_option maxHeartbeats 4000000 in
set_option maxRecDepth 100000 in
theorem rlong_4 (s : ByteArray) (w : World) (hy : (sl s)[3]? = some 4) (hl : 3 < s.size) :
    Calls Tryz.prog 125 #[.string s] w fun e w' => e = .returned (.bool (decide ((s.size : Int) = 77))) ∧ w' = w := by
  have ix : ∀ W, (Instr.index 9 (.string s) (.int .i64 3)).run Tryz.prog W = .ok (.int .u8 4) W := fun W => idx9 s 3 4 hl hy W
  by_cases h : (s.size : Int) = 77
  · rw [decide_eq_true h]
    have h2 : ((s.size : Int) == 77) = true := by simp; omega
    go_enter Tryz.func125, Tryz.ntmps125
    go_wp2_with fail
    go_ret
    exact ⟨rfl, rfl⟩
  · rw [decide_eq_false h]
    have h2 : ((s.size : Int) == 77) = false := by simp; omega
    have h3 : decide ((s.size : Int) = 77) = false := decide_eq_false h
    go_enter Tryz.func125, Tryz.ntmps125
    go_wp2_with fail
    go_ret
    exact ⟨rfl, rfl⟩
set_option maxHeartbeats 4000000 in
set_option maxRecDepth 100000 in
theorem rlong_5 (s : ByteArray) (w : World) (hy : (sl s)[3]? = some 5) (hl : 3 < s.size) :
    Calls Tryz.prog 125 #[.string s] w fun e w' => e = .returned (.bool (decide ((s.size : Int) = 55))) ∧ w' = w := by
  have ix : ∀ W, (Instr.index 9 (.string s) (.int .i64 3)).run Tryz.prog W = .ok (.int .u8 5) W := fun W => idx9 s 3 5 hl hy W
  by_cases h : (s.size : Int) = 55
  · rw [decide_eq_true h]
    have h2 : ((s.size : Int) == 55) = true := by simp; omega
    go_enter Tryz.func125, Tryz.ntmps125
    go_wp2_with fail
    go_ret
    exact ⟨rfl, rfl⟩
  · rw [decide_eq_false h]
    have h2 : ((s.size : Int) == 55) = false := by simp; omega
    have h3 : decide ((s.size : Int) = 55) = false := decide_eq_false h
    go_enter Tryz.func125, Tryz.ntmps125
    go_wp2_with fail
    go_ret
    exact ⟨rfl, rfl⟩
set_option maxHeartbeats 4000000 in
set_option maxRecDepth 100000 in
theorem rlong_6 (s : ByteArray) (w : World) (hy : (sl s)[3]? = some 6) (hl : 3 < s.size) :
    Calls Tryz.prog 125 #[.string s] w fun e w' => e = .returned (.bool (decide (52 ≤ (s.size : Int)))) ∧ w' = w := by
  have ix : ∀ W, (Instr.index 9 (.string s) (.int .i64 3)).run Tryz.prog W = .ok (.int .u8 6) W := fun W => idx9 s 3 6 hl hy W
  by_cases h : 52 ≤ (s.size : Int)
  · rw [decide_eq_true h]
    skip
    go_enter Tryz.func125, Tryz.ntmps125
    go_wp2_with fail
    go_ret
    exact ⟨rfl, rfl⟩
  · rw [decide_eq_false h]
    skip
    have h3 : decide (52 ≤ (s.size : Int)) = false := decide_eq_false h
    go_enter Tryz.func125, Tryz.ntmps125
    go_wp2_with fail
    go_ret
    exact ⟨rfl, rfl⟩
set_option maxHeartbeats 4000000 in
set_option maxRecDepth 100000 in
theorem rlong_7 (s : ByteArray) (w : World) (hy : (sl s)[3]? = some 7) (hl : 3 < s.size) :
    Calls Tryz.prog 125 #[.string s] w fun e w' => e = .returned (.bool (decide ((s.size : Int) = 52))) ∧ w' = w := by
  have ix : ∀ W, (Instr.index 9 (.string s) (.int .i64 3)).run Tryz.prog W = .ok (.int .u8 7) W := fun W => idx9 s 3 7 hl hy W
  by_cases h : (s.size : Int) = 52
  · rw [decide_eq_true h]
    have h2 : ((s.size : Int) == 52) = true := by simp; omega
    go_enter Tryz.func125, Tryz.ntmps125
    go_wp2_with fail
    go_ret
    exact ⟨rfl, rfl⟩
  · rw [decide_eq_false h]
    have h2 : ((s.size : Int) == 52) = false := by simp; omega
    have h3 : decide ((s.size : Int) = 52) = false := decide_eq_false h
    go_enter Tryz.func125, Tryz.ntmps125
    go_wp2_with fail
    go_ret
    exact ⟨rfl, rfl⟩
end Go.Proofs.YtkdjcknikhgfkaaGreatDoor.Pk

namespace Go.Proofs.YtkdjcknikhgfkaaGreatDoor.Pk
open Go Go.RowKit
set_option maxHeartbeats 4000000 in
set_option maxRecDepth 100000 in
theorem rlong_3 (s : ByteArray) (w : World) (hy : (sl s)[3]? = some 3) (hl : 3 < s.size) :
    Calls Tryz.prog 125 #[.string s] w fun e w' => e = .returned (.bool (decide (93 ≤ s.size ∧ s.size = 93 + ((sl s).getD 60 0).toNat))) ∧ w' = w := by
  have ix : ∀ W, (Instr.index 9 (.string s) (.int .i64 3)).run Tryz.prog W = .ok (.int .u8 3) W := fun W => idx9 s 3 3 hl hy W
  by_cases h : 93 ≤ s.size
  · obtain ⟨y, hy6⟩ : ∃ y, (sl s)[60]? = some y := ⟨_, List.getElem?_eq_getElem (by rw [sl_len]; omega)⟩
    have hg : (sl s).getD 60 0 = y := by simp [List.getD, hy6]
    rw [hg]
    have hyl := UInt8.toNat_lt y
    have ix6 : ∀ W, (Instr.index 9 (.string s) (.int .i64 60)).run Tryz.prog W = .ok (.int .u8 y.toNat) W := fun W => idx9 s 60 y (by omega) hy6 W
    obtain ⟨z, hz⟩ : ∃ z : Int, (y.toNat : Int) = z := ⟨_, rfl⟩
    have ix7 : ∀ W, (Instr.index 9 (.string s) (.int .i64 60)).run Tryz.prog W = .ok (.int .u8 z) W := fun W => by rw [ix6 W, hz]
    have z0 : 0 ≤ z := by omega
    have z1 : z ≤ 255 := by omega
    have w1 : IntKind.i64.wrap z = z := IntWalk.i64_in _ (by omega)
    have w2 : IntKind.i64.wrap (93 + z) = 93 + z := IntWalk.i64_in _ (by omega)
    have h93 : (93 : Int) ≤ (s.size : Int) := by omega
    by_cases he : s.size = 93 + y.toNat
    · rw [decide_eq_true ⟨h, he⟩]
      have he2 : (s.size : Int) = 93 + z := by omega
      have h94 : (93 : Int) ≤ 93 + z := by omega
      have h95 : decide ((93 : Int) ≤ 93 + z) = true := decide_eq_true (by omega)
      clear ix6 hz hyl he h hy6 hg h93 hy
      go_enter Tryz.func125, Tryz.ntmps125
      go_wp2_with fail
      go_ret
      exact ⟨rfl, rfl⟩
    · rw [decide_eq_false (fun q => he q.2)]
      obtain ⟨m, hm⟩ : ∃ m : Int, (s.size : Int) = m := ⟨_, rfl⟩
      have he2 : ¬ m = 93 + z := by omega
      have he3 : (m == 93 + z) = false := by simp; omega
      have he4 : decide (m = 93 + z) = false := decide_eq_false he2
      rw [hm] at h93
      clear ix6 hz hyl he h hy6 hg hy
      go_enter Tryz.func125, Tryz.ntmps125
      go_wp2_with fail
      go_ret
      exact ⟨rfl, rfl⟩
  · rw [decide_eq_false (fun q => h q.1)]
    have h1 : ¬ (93 : Int) ≤ (s.size : Int) := by omega
    have h2 : decide ((93 : Int) ≤ (s.size : Int)) = false := decide_eq_false h1
    go_enter Tryz.func125, Tryz.ntmps125
    go_wp2_with fail
    go_ret
    exact ⟨rfl, rfl⟩
end Go.Proofs.YtkdjcknikhgfkaaGreatDoor.Pk

