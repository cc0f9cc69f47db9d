/- math/bits: Len64, LeadingZeros64 -/
import Derived.Test.YtkfkhjafhlafhaaDoorF1
import Derived.Lib.BitFns
namespace Go.Proofs.YtkfkhjafhlafhaaDoor
open Go Go.RowKit

theorem bitLenAux_spec : ∀ (f x : Nat), x < 2 ^ f → x < 2 ^ Lib.bitLenAux f x ∧ Lib.bitLenAux f x ≤ f ∧ (0 < x → 1 ≤ Lib.bitLenAux f x ∧ 2 ^ (Lib.bitLenAux f x - 1) ≤ x)
  | 0, x, h => by
    simp at h; subst h; simp [Lib.bitLenAux]
  | f + 1, x, h => by
    unfold Lib.bitLenAux
    by_cases hx : x = 0
    · subst hx; simp
    · rw [if_neg hx]
      have h2 : x / 2 < 2 ^ f := by rw [Nat.pow_succ] at h; omega
      obtain ⟨a, b, c⟩ := bitLenAux_spec f (x / 2) h2
      refine ⟨?_, by omega, fun _ => ⟨by omega, ?_⟩⟩
      · rw [Nat.add_comm, Nat.pow_succ]; omega
      · rw [Nat.add_sub_cancel_left]
        by_cases hz : x / 2 = 0
        · have : x = 1 := by omega
          subst this
          have : Lib.bitLenAux f 0 = 0 := by cases f <;> simp [Lib.bitLenAux]
          simp [this]
        · obtain ⟨c1, c2⟩ := c (by omega)
          have e : 2 ^ Lib.bitLenAux f (x / 2) = 2 ^ (Lib.bitLenAux f (x / 2) - 1) * 2 := by
            rw [← Nat.pow_succ]; congr 1; omega
          rw [e]; omega

/-- how far a number is to be shifted: s, with 2^63 <= y * 2^s < 2^64 -/
theorem lead_spec (y : Nat) (h0 : 0 < y) (h : y < 18446744073709551616) : Lib.bitLen y ≤ 64 ∧ 1 ≤ Lib.bitLen y ∧
    9223372036854775808 ≤ y * 2 ^ (64 - Lib.bitLen y) ∧ y * 2 ^ (64 - Lib.bitLen y) < 18446744073709551616 := by
  obtain ⟨a, b, c⟩ := bitLenAux_spec 64 y h
  obtain ⟨c1, c2⟩ := c h0
  unfold Lib.bitLen
  refine ⟨b, c1, ?_, ?_⟩
  · have := Nat.mul_le_mul_right (2 ^ (64 - Lib.bitLenAux 64 y)) c2
    rw [← Nat.pow_add, show Lib.bitLenAux 64 y - 1 + (64 - Lib.bitLenAux 64 y) = 63 by omega] at this
    exact this
  · have := (Nat.mul_lt_mul_right (Nat.two_pow_pos (64 - Lib.bitLenAux 64 y))).2 a
    rw [← Nat.pow_add, show Lib.bitLenAux 64 y + (64 - Lib.bitLenAux 64 y) = 64 by omega] at this
    exact this

set_option maxHeartbeats 4000000 in
set_option maxRecDepth 100000 in
theorem len64_c (x : Int) (w : World) (h0 : 0 ≤ x) (h1 : x ≤ 18446744073709551615) :
    Calls Tryd.prog 42 #[.int .u64 x] w fun e w' => e = .returned (.int .i64 (Lib.bitLen x.toNat)) ∧ w' = w := by
  go_enter Tryd.func42, Tryd.ntmps42
  by_cases c1 : x < 4294967296
  · by_cases c2 : x < 65536
    · by_cases c3 : x < 256
      · have i0 : 0 ≤ x := by omega
        have i1 : x ≤ 255 := by omega
        have l8 := Lib.len8_of (x) i0 i1
        have l := Lib.bitLen_le8' (x) i0 i1
        have e : (x).toNat = x.toNat / 1 := by omega
        rw [Nat.div_one] at e
        rw [e] at l8 l
        clear e
        have HK : Keep (Lib.len8 (x) + 0 = (Lib.bitLen x.toNat : Int)) := ⟨by omega⟩
        have b0 : 0 ≤ Lib.len8 (x) := by omega
        have b1 : Lib.len8 (x) ≤ 8 := by omega
        generalize hL : Lib.len8 (x) = L at *
        clear l8 l
        go_wp2
        go_ret
        refine ⟨ret_int ?_, rfl⟩
        have := HK.out
        omega
      · have i0 : 0 ≤ x / 256 := by omega
        have i1 : x / 256 ≤ 255 := by omega
        have l8 := Lib.len8_of (x / 256) i0 i1
        have l := Lib.bitLen_le8' (x / 256) i0 i1
        have e : (x / 256).toNat = x.toNat / 256 := by omega
        have s := Lib.bitLen_shift8 x.toNat (by omega) (by omega)
        rw [e] at l8 l
        clear e
        have HK : Keep (Lib.len8 (x / 256) + 8 = (Lib.bitLen x.toNat : Int)) := ⟨by omega⟩
        have b0 : 0 ≤ Lib.len8 (x / 256) := by omega
        have b1 : Lib.len8 (x / 256) ≤ 8 := by omega
        generalize hL : Lib.len8 (x / 256) = L at *
        clear l8 l s
        go_wp2
        go_ret
        refine ⟨ret_int ?_, rfl⟩
        have := HK.out
        omega
    · by_cases c3 : x / 65536 < 256
      · have i0 : 0 ≤ x / 65536 := by omega
        have i1 : x / 65536 ≤ 255 := by omega
        have l8 := Lib.len8_of (x / 65536) i0 i1
        have l := Lib.bitLen_le8' (x / 65536) i0 i1
        have e : (x / 65536).toNat = x.toNat / 65536 := by omega
        have s := Lib.bitLen_shift16 x.toNat (by omega) (by omega)
        rw [e] at l8 l
        clear e
        have HK : Keep (Lib.len8 (x / 65536) + 16 = (Lib.bitLen x.toNat : Int)) := ⟨by omega⟩
        have b0 : 0 ≤ Lib.len8 (x / 65536) := by omega
        have b1 : Lib.len8 (x / 65536) ≤ 8 := by omega
        generalize hL : Lib.len8 (x / 65536) = L at *
        clear l8 l s
        go_wp2
        go_ret
        refine ⟨ret_int ?_, rfl⟩
        have := HK.out
        omega
      · have i0 : 0 ≤ x / 65536 / 256 := by omega
        have i1 : x / 65536 / 256 ≤ 255 := by omega
        have l8 := Lib.len8_of (x / 65536 / 256) i0 i1
        have l := Lib.bitLen_le8' (x / 65536 / 256) i0 i1
        have e : (x / 65536 / 256).toNat = x.toNat / 16777216 := by omega
        have s := Lib.bitLen_shift24 x.toNat (by omega) (by omega)
        rw [e] at l8 l
        clear e
        have HK : Keep (Lib.len8 (x / 65536 / 256) + 24 = (Lib.bitLen x.toNat : Int)) := ⟨by omega⟩
        have b0 : 0 ≤ Lib.len8 (x / 65536 / 256) := by omega
        have b1 : Lib.len8 (x / 65536 / 256) ≤ 8 := by omega
        generalize hL : Lib.len8 (x / 65536 / 256) = L at *
        clear l8 l s
        go_wp2
        go_ret
        refine ⟨ret_int ?_, rfl⟩
        have := HK.out
        omega
  · by_cases c2 : x / 4294967296 < 65536
    · by_cases c3 : x / 4294967296 < 256
      · have i0 : 0 ≤ x / 4294967296 := by omega
        have i1 : x / 4294967296 ≤ 255 := by omega
        have l8 := Lib.len8_of (x / 4294967296) i0 i1
        have l := Lib.bitLen_le8' (x / 4294967296) i0 i1
        have e : (x / 4294967296).toNat = x.toNat / 4294967296 := by omega
        have s := Lib.bitLen_shift32 x.toNat (by omega) (by omega)
        rw [e] at l8 l
        clear e
        have HK : Keep (Lib.len8 (x / 4294967296) + 32 = (Lib.bitLen x.toNat : Int)) := ⟨by omega⟩
        have b0 : 0 ≤ Lib.len8 (x / 4294967296) := by omega
        have b1 : Lib.len8 (x / 4294967296) ≤ 8 := by omega
        generalize hL : Lib.len8 (x / 4294967296) = L at *
        clear l8 l s
        go_wp2
        go_ret
        refine ⟨ret_int ?_, rfl⟩
        have := HK.out
        omega
      · have i0 : 0 ≤ x / 4294967296 / 256 := by omega
        have i1 : x / 4294967296 / 256 ≤ 255 := by omega
        have l8 := Lib.len8_of (x / 4294967296 / 256) i0 i1
        have l := Lib.bitLen_le8' (x / 4294967296 / 256) i0 i1
        have e : (x / 4294967296 / 256).toNat = x.toNat / 1099511627776 := by omega
        have s := Lib.bitLen_shift40 x.toNat (by omega) (by omega)
        rw [e] at l8 l
        clear e
        have HK : Keep (Lib.len8 (x / 4294967296 / 256) + 40 = (Lib.bitLen x.toNat : Int)) := ⟨by omega⟩
        have b0 : 0 ≤ Lib.len8 (x / 4294967296 / 256) := by omega
        have b1 : Lib.len8 (x / 4294967296 / 256) ≤ 8 := by omega
        generalize hL : Lib.len8 (x / 4294967296 / 256) = L at *
        clear l8 l s
        go_wp2
        go_ret
        refine ⟨ret_int ?_, rfl⟩
        have := HK.out
        omega
    · by_cases c3 : x / 4294967296 / 65536 < 256
      · have i0 : 0 ≤ x / 4294967296 / 65536 := by omega
        have i1 : x / 4294967296 / 65536 ≤ 255 := by omega
        have l8 := Lib.len8_of (x / 4294967296 / 65536) i0 i1
        have l := Lib.bitLen_le8' (x / 4294967296 / 65536) i0 i1
        have e : (x / 4294967296 / 65536).toNat = x.toNat / 281474976710656 := by omega
        have s := Lib.bitLen_shift48 x.toNat (by omega) (by omega)
        rw [e] at l8 l
        clear e
        have HK : Keep (Lib.len8 (x / 4294967296 / 65536) + 48 = (Lib.bitLen x.toNat : Int)) := ⟨by omega⟩
        have b0 : 0 ≤ Lib.len8 (x / 4294967296 / 65536) := by omega
        have b1 : Lib.len8 (x / 4294967296 / 65536) ≤ 8 := by omega
        generalize hL : Lib.len8 (x / 4294967296 / 65536) = L at *
        clear l8 l s
        go_wp2
        go_ret
        refine ⟨ret_int ?_, rfl⟩
        have := HK.out
        omega
      · have i0 : 0 ≤ x / 4294967296 / 65536 / 256 := by omega
        have i1 : x / 4294967296 / 65536 / 256 ≤ 255 := by omega
        have l8 := Lib.len8_of (x / 4294967296 / 65536 / 256) i0 i1
        have l := Lib.bitLen_le8' (x / 4294967296 / 65536 / 256) i0 i1
        have e : (x / 4294967296 / 65536 / 256).toNat = x.toNat / 72057594037927936 := by omega
        have s := Lib.bitLen_shift56 x.toNat (by omega) (by omega)
        rw [e] at l8 l
        clear e
        have HK : Keep (Lib.len8 (x / 4294967296 / 65536 / 256) + 56 = (Lib.bitLen x.toNat : Int)) := ⟨by omega⟩
        have b0 : 0 ≤ Lib.len8 (x / 4294967296 / 65536 / 256) := by omega
        have b1 : Lib.len8 (x / 4294967296 / 65536 / 256) ≤ 8 := by omega
        generalize hL : Lib.len8 (x / 4294967296 / 65536 / 256) = L at *
        clear l8 l s
        go_wp2
        go_ret
        refine ⟨ret_int ?_, rfl⟩
        have := HK.out
        omega

theorem lead_c (x : Int) (w : World) (h0 : 0 < x) (h1 : x ≤ 18446744073709551615) :
    Calls Tryd.prog 41 #[.int .u64 x] w fun e w' => e = .returned (.int .i64 (64 - (Lib.bitLen x.toNat : Int))) ∧ w' = w := by
  have c := len64_c x w (by omega) h1
  obtain ⟨l1, l2, _, _⟩ := lead_spec x.toNat (by omega) (by omega)
  generalize Lib.bitLen x.toNat = n at *
  go_enter Tryd.func41, Tryd.ntmps41
  go_wp2_with (go_at_call 42; refine c.mono ?_; rintro e w' ⟨rfl, hw⟩; rw [hw])
  go_ret
  exact ⟨rfl, rfl⟩
end Go.Proofs.YtkfkhjafhlafhaaDoor
