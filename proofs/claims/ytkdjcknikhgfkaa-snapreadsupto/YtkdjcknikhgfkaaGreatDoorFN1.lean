import Derived.Test.YtkdjcknikhgfkaaGreatDoorFM8
/- the reference's number and signed -/
namespace Go.Proofs.YtkdjcknikhgfkaaGreatDoor.Pk
open Go Go.RowKit
set_option maxHeartbeats 4000000 in
set_option maxRecDepth 100000 in
theorem rsigned_c (b : UInt8) (w : World) :
    Calls Tryz.prog 74 #[.int .u8 (b.toNat : Int)] w fun e w' => e = .returned (.int .i64 (sval [b])) ∧ w' = w := by
  have hb := UInt8.toNat_lt b
  have hs : sval [b] = if (b.toNat : Int) > 127 then (b.toNat : Int) - 256 else (b.toNat : Int) := by
    unfold sval
    have hv : val [b] = b.toNat := by simp [val]
    rw [hv]
    have e : (256 ^ [b].length : Nat) = 256 := by simp
    rw [e]
    by_cases h : 127 < b.toNat
    · rw [if_neg (by omega), if_pos (by omega)]; rfl
    · rw [if_pos (by omega), if_neg (by omega)]
  rw [hs]
  obtain ⟨z, hz⟩ : ∃ z : Int, (b.toNat : Int) = z := ⟨_, rfl⟩
  have z0 : 0 ≤ z := by omega
  have z1 : z ≤ 255 := by omega
  rw [hz]
  clear hs hz hb
  have w1 : IntKind.i64.wrap z = z := IntWalk.i64_in _ (by omega)
  have w2 : IntKind.i64.wrap (z - 256) = z - 256 := IntWalk.i64_in _ (by omega)
  by_cases h : 127 < z
  · rw [if_pos h]
    go_enter Tryz.func74, Tryz.ntmps74
    go_wp2_with fail
    go_ret
    exact ⟨rfl, rfl⟩
  · rw [if_neg (by omega)]
    go_enter Tryz.func74, Tryz.ntmps74
    go_wp2_with fail
    go_ret
    exact ⟨rfl, rfl⟩
set_option maxHeartbeats 4000000 in
set_option maxRecDepth 100000 in
theorem rnum_c (s : ByteArray) (at' : Nat) (w : World) (h : at' + 8 ≤ s.size) (hs : s.size ≤ 1000000) :
    Calls Tryz.prog 73 #[.string s, .int .i64 (at' : Int)] w fun e w' => e = .returned (.int .u64 (val (((sl s).drop at').take 8) : Nat)) ∧ w' = w := by
  have HB : Keep (∀ i, val (((sl s).drop at').take i) < 256 ^ i ∨ i > 8) := ⟨fun i => by
    by_cases hi : i ≤ 8
    · left
      have := val_lt (((sl s).drop at').take i)
      rwa [List.length_take, List.length_drop, sl_len, Nat.min_eq_left (by omega)] at this
    · right; omega⟩
  go_enter Tryz.func73, Tryz.ntmps73
  go_wp2_with fail
  go_loopw [5, 6] (fun s5 s6 w' => ∃ (i : Nat) (x : Int), i ≤ 8 ∧ s5 = .int .u64 x ∧ s6 = .int .i64 (i : Nat) ∧ w' = w ∧ Keep (x = (val (((sl s).drop at').take i) : Nat))) (fun _ t _ => 8 - (intOf t).toNat)
  case atStart => exact ⟨0, 0, by omega, rfl, rfl, rfl, ⟨by simp [val]⟩⟩
  case round =>
    obtain ⟨i, x, i1, rfl, rfl, rfl, HX⟩ := hrel
    by_cases hi : i < 8
    · have hia : (i : Int) < 8 := by omega
      obtain ⟨y, hy⟩ : ∃ y, (sl s)[at' + i]? = some y := ⟨_, List.getElem?_eq_getElem (by rw [sl_len]; omega)⟩
      have ix : ∀ W, (Instr.index 9 (.string s) (.int .i64 ((at' : Int) + (i : Int)))).run Tryz.prog W = .ok (.int .u8 y.toNat) W := fun W => by
        have := idx9 s (at' + i) y (by omega) hy W
        rwa [show ((at' + i : Nat) : Int) = (at' : Int) + (i : Int) by omega] at this
      have wa : IntKind.i64.wrap ((at' : Int) + (i : Int)) = (at' : Int) + (i : Int) := IntWalk.i64_in _ (by omega)
      have hx7 : 0 ≤ x ∧ x < 72057594037927936 := by
        have h1 := HB.out i
        have h2 : (256 : Nat) ^ i ≤ 256 ^ 7 := Nat.pow_le_pow_right (by decide) (by omega)
        have h3 : (256 : Nat) ^ 7 = 72057594037927936 := by decide
        rw [HX.out]; omega
      have hyl := UInt8.toNat_lt y
      obtain ⟨z, hz⟩ : ∃ z : Int, (y.toNat : Int) = z := ⟨_, rfl⟩
      have z0 : 0 ≤ z := by omega
      have z1 : z ≤ 255 := by omega
      have HN : Keep (x * 256 + z = (val (((sl s).drop at').take (i + 1)) : Nat)) := ⟨by
        have e : ((sl s).drop at').take (i + 1) = ((sl s).drop at').take i ++ [y] := by
          rw [List.take_add_one, List.getElem?_drop, hy]; rfl
        rw [e, val_snoc, HX.out, ← hz]; simp⟩
      have wm : IntKind.u64.wrap (x * 256) = x * 256 := by rw [wu]; omega
      have wp : IntKind.u64.wrap (x * 256 + z) = x * 256 + z := by rw [wu]; omega
      have ix2 : ∀ W, (Instr.index 9 (.string s) (.int .i64 ((at' : Int) + (i : Int)))).run Tryz.prog W = .ok (.int .u8 z) W := fun W => by rw [ix W, hz]
      clear ix hz hyl hy
      go_wp2_with fail
      refine ⟨⟨i + 1, x * 256 + z, by omega, rfl, rfl, by trivial, HN⟩, ?_⟩
      simp only [intOf]; omega
    · have e8 : i = 8 := by omega
      subst e8
      go_wp2_with fail
      go_ret
      exact ⟨by rw [HX.out]; rfl, rfl⟩
end Go.Proofs.YtkdjcknikhgfkaaGreatDoor.Pk
