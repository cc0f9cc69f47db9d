/- the reference: power, Div -/
import Derived.Test.YtkfkhjafhlafhaaDoorG5
namespace Go.Proofs.YtkfkhjafhlafhaaDoor
open Go Go.RowKit

def p2 (k : Nat) : Int := ((2 ^ k : Nat) : Int)
theorem p2_zero : p2 0 = 1 := rfl
theorem p2_succ (k : Nat) : p2 (k + 1) = p2 k * 2 := by unfold p2; rw [Nat.pow_succ]; omega
theorem p2_pos (k : Nat) : 0 < p2 k := by unfold p2; have := Nat.two_pow_pos k; omega
theorem p2_le {j k : Nat} (h : j ≤ k) : p2 j ≤ p2 k := by
  unfold p2; have := Nat.pow_le_pow_right (show 0 < 2 by omega) h; omega
theorem p2_63 : p2 63 = 9223372036854775808 := by decide
theorem p2_16 : p2 16 = 65536 := by decide
theorem p2_add (j k : Nat) : p2 (j + k) = p2 j * p2 k := by unfold p2; rw [Nat.pow_add, Int.natCast_mul]

set_option maxHeartbeats 1000000 in
theorem power_c (n : Nat) (hn : n ≤ 63) (w : World) :
    Calls Tryd.prog 40 #[.int .i64 n] w fun e w' => e = .returned (.int .u64 (p2 n)) ∧ w' = w := by
  obtain ⟨ni, hni⟩ : ∃ z : Int, (n : Int) = z := ⟨_, rfl⟩
  have nb : 0 ≤ ni ∧ ni ≤ 63 := by omega
  have HN := Keep.mk hni
  rw [hni]
  clear hni hn
  go_enter Tryd.func40, Tryd.ntmps40
  go_wp2_with fail
  go_loopw [3, 4] (fun s3 s4 w' => ∃ (p i : Int), 0 ≤ i ∧ i ≤ ni ∧ 0 < p ∧ p ≤ 9223372036854775808 ∧ s3 = .int .u64 p ∧ s4 = .int .i64 i ∧ w' = w ∧ Keep (p = p2 i.toNat)) (fun _ s4 _ => (64 - intOf s4).toNat)
  case atStart => exact ⟨1, 0, by omega, by omega, by omega, by omega, rfl, rfl, rfl, ⟨by decide⟩⟩
  case round =>
    obtain ⟨p, i, i0, i1, pb0, pb1, rfl, rfl, rfl, HP⟩ := hrel
    by_cases c : i < ni
    · have hp : p * 2 = p2 (i + 1).toNat := by
        rw [show (i + 1).toNat = i.toNat + 1 by omega, p2_succ, HP.out]
      have hle : p * 2 ≤ 9223372036854775808 := by
        rw [hp, ← p2_63]; exact p2_le (by omega)
      have HQ := Keep.mk hp
      clear hp HP
      go_wp2_with fail
      refine ⟨⟨p * 2, i + 1, by omega, by omega, by omega, hle, rfl, rfl, trivial, HQ⟩, ?_⟩
      simp only [intOf]; omega
    · have HE : Keep (p = p2 n) := ⟨by rw [HP.out]; congr 1; have := HN.out; omega⟩
      clear HP
      go_wp2_with fail
      go_ret
      exact ⟨by rw [← HE.out]; rfl, rfl⟩

def lid (n : Int) : Int := if 4398046511104 < n then 4398046511104 else n

theorem dv_next {T y b n : Int} (hy : 0 < y) (hb0 : 0 ≤ b) (hb1 : b ≤ 1) (hn : n = lid (T / y)) :
    (y ≤ T % y * 2 + b → T % y * 2 + b - y = (2 * T + b) % y ∧ lid (n * 2 + 1) = lid ((2 * T + b) / y)) ∧
    (¬ y ≤ T % y * 2 + b → T % y * 2 + b = (2 * T + b) % y ∧ lid (n * 2) = lid ((2 * T + b) / y)) := by
  have e := Int.mul_ediv_add_emod T y
  have l0 := Int.emod_nonneg T (show y ≠ 0 by omega)
  have l1 := Int.emod_lt_of_pos T hy
  generalize T / y = q at *
  generalize T % y = r at *
  have e2 : 2 * T + b = (r * 2 + b) + y * (2 * q) := by rw [← e, Int.mul_left_comm]; omega
  rw [e2, Int.add_mul_ediv_left _ _ (show y ≠ 0 by omega), Int.add_mul_emod_self_left]
  refine ⟨fun c => ?_, fun c => ?_⟩
  · have d1 : (r * 2 + b) / y = 1 := by
      have h1 : (r * 2 + b) / y < 2 := Int.ediv_lt_of_lt_mul hy (by omega)
      have h2 : 1 ≤ (r * 2 + b) / y := (Int.le_ediv_iff_mul_le hy).2 (by omega)
      omega
    have d2 : (r * 2 + b) % y = r * 2 + b - y := by
      have := Int.mul_ediv_add_emod (r * 2 + b) y
      rw [d1] at this; omega
    rw [d1, d2, hn]
    refine ⟨rfl, ?_⟩
    unfold lid
    (repeat' split) <;> omega
  · rw [Int.ediv_eq_zero_of_lt (by omega) (by omega), Int.emod_eq_of_lt (by omega) (by omega), hn]
    refine ⟨rfl, ?_⟩
    unfold lid
    (repeat' split) <;> omega

/-- the bits of A * 65536, from above -/
theorem bit_split (X : Int) (k : Nat) : X / p2 k = 2 * (X / p2 (k + 1)) + X / p2 k % 2 := by
  have : X / p2 (k + 1) = X / p2 k / 2 := by
    rw [p2_succ, Int.ediv_ediv_of_nonneg (Int.le_of_lt (p2_pos k))]
  rw [this]; omega
theorem bit_low (A : Int) (k : Nat) (h : k < 16) : A * 65536 / p2 k % 2 = 0 := by
  have e : (65536 : Int) = p2 (15 - k) * 2 * p2 k := by
    rw [← p2_succ, ← p2_add, show 15 - k + 1 + k = 16 by omega, p2_16]
  rw [e, ← Int.mul_assoc, Int.mul_ediv_cancel _ (by have := p2_pos k; omega), ← Int.mul_assoc]
  exact Int.mul_emod_left _ _
theorem bit_high (A : Int) (k : Nat) : A * 65536 / p2 (k + 16) % 2 = A / p2 k % 2 := by
  rw [p2_add, p2_16, Int.mul_ediv_mul_of_pos_left _ _ (show (0 : Int) < 65536 by omega)]
theorem top_zero (A : Int) (h0 : 0 ≤ A) (h1 : A ≤ 9223372036854775808) : A * 65536 / p2 80 = 0 := by
  have : p2 80 = 1208925819614629174706176 := by decide
  rw [this]; omega

end Go.Proofs.YtkfkhjafhlafhaaDoor
