/- math/bits: Div64 -/
import Derived.Test.YtkfkhjafhlafhaaDoorF6
namespace Go.Proofs.YtkfkhjafhlafhaaDoor
open Go Go.RowKit

theorem dv_end {hi lo y s Y yn1 yn0 u L un1 un0 : Nat} (D : Dv hi lo y s Y yn1 yn0 u L un1 un0) :
    (u * 4294967296 + un1) / Y * 4294967296 + ((u * 4294967296 + un1) % Y * 4294967296 + un0) / Y = (hi * 18446744073709551616 + lo) / y
    ∧ ((u * 4294967296 + un1) % Y * 4294967296 + un0) % Y / 2 ^ s = (hi * 18446744073709551616 + lo) % y := by
  have hY : 0 < Y := by have := D.uY; omega
  obtain ⟨a, b⟩ := Fx.kn_two' (n := u * 4294967296 + un1) (un0 := un0) hY
  have hp := Nat.two_pow_pos s
  rw [a, b, D.all, D.eY]
  refine ⟨Nat.mul_div_mul_right _ _ hp, ?_⟩
  rw [Nat.mul_mod_mul_right, Nat.mul_div_cancel _ hp]

theorem cast_end {s Y u un1 un0 a b : Nat} (h : (u * 4294967296 + un1) / Y * 4294967296 + ((u * 4294967296 + un1) % Y * 4294967296 + un0) / Y = a ∧ ((u * 4294967296 + un1) % Y * 4294967296 + un0) % Y / 2 ^ s = b) :
    ((u : Int) * 4294967296 + un1) / Y * 4294967296 + (((u : Int) * 4294967296 + un1) % Y * 4294967296 + un0) / Y = (a : Int)
    ∧ (((u : Int) * 4294967296 + un1) % Y * 4294967296 + un0) % Y / 2 ^ s = (b : Int) := by
  obtain ⟨h1, h2⟩ := h
  rw [← h1, ← h2]
  have K : ((4294967296 : Nat) : Int) = 4294967296 := rfl
  have T : ((2 ^ s : Nat) : Int) = 2 ^ s := by simp
  simp only [Int.natCast_add, Int.natCast_mul, Int.natCast_ediv, Int.natCast_emod, K, T, and_self]

set_option maxHeartbeats 8000000 in
set_option maxRecDepth 100000 in
theorem div64_c (hi lo y : Nat) (w : World) (h1 : hi < y) (h2 : y < 18446744073709551616) (l1 : lo < 18446744073709551616) :
    Calls Tryd.prog 34 #[.int .u64 hi, .int .u64 lo, .int .u64 y] w fun e w' => e = .returned (.tuple #[.int .u64 ((hi * 18446744073709551616 + lo) / y : Nat), .int .u64 ((hi * 18446744073709551616 + lo) % y : Nat)]) ∧ w.grownBy w' none := by
  by_cases hz : hi = 0
  · subst hz
    have HK : Keep (((0 * 18446744073709551616 + lo) / y : Nat) = (lo : Int) / (y : Int) ∧ ((0 * 18446744073709551616 + lo) % y : Nat) = (lo : Int) % (y : Int)) := ⟨by rw [Nat.zero_mul, Nat.zero_add]; exact ⟨Int.natCast_ediv lo y, Int.natCast_emod lo y⟩⟩
    rw [HK.out.1, HK.out.2]
    clear HK
    have y0 : ¬ (y : Int) = 0 := by omega
    have yle : ¬ (y : Int) ≤ 0 := by omega
    have yp : (0 : Int) < (y : Int) := by omega
    have EW : IntKind.u64.wrap ((lo : Int) / (y : Int)) = (lo : Int) / (y : Int) := by
      rw [← Int.natCast_ediv, wrap_nat _ (Nat.lt_of_le_of_lt (Nat.div_le_self _ _) l1)]
    go_enter Tryd.func34, Tryd.ntmps34
    go_wp2
    go_region
    go_wp2
    go_ret2
    refine ⟨?_, gr_drew _ _⟩
    rfl
  · obtain ⟨b1, b2, n1, n2⟩ := lead_spec y (by omega) h2
    have c := lead_c (y : Int) w (by omega) (by omega)
    rw [Int.toNat_natCast] at c
    obtain ⟨s, hs⟩ : ∃ s : Nat, 64 - Lib.bitLen y = s := ⟨_, rfl⟩
    have e : (64 - (Lib.bitLen y : Int)) = (s : Int) := by omega
    have hs63 : s < 64 := by omega
    rw [e] at c
    rw [hs] at n1 n2
    clear hs e b1 b2
    have D := dv_prep hi lo y s h1 l1 hs63 n1 n2
    clear n1 n2
    generalize y * 2 ^ s / 4294967296 = yn1 at D
    generalize y * 2 ^ s % 4294967296 = yn0 at D
    generalize y * 2 ^ s = Y at D
    generalize lo * 2 ^ s % 18446744073709551616 / 4294967296 = un1 at D
    generalize lo * 2 ^ s % 18446744073709551616 % 4294967296 = un0 at D
    generalize lo * 2 ^ s % 18446744073709551616 = L at D
    generalize hi * 2 ^ s + lo / 2 ^ (64 - s) = u at D
    have E1 : IntKind.u64.wrap ((y : Int) * 2 ^ s) = (Y : Int) := by
      have := D.eY; have := D.Yh
      rw [show (y : Int) * 2 ^ s = ((y * 2 ^ s : Nat) : Int) by simp, ← D.eY, wrap_nat _ D.Yh]
    have E2 : (Y : Int) / 4294967296 = (yn1 : Int) := by have := D.y1; omega
    have E3 : bits .and .u64 (Y : Int) 4294967295 = (yn0 : Int) := by
      rw [and_low32 _ (by omega) (by have := D.Yh; omega)]; have := D.y0; omega
    have E4 : bits .or .u64 (IntKind.u64.wrap ((hi : Int) * 2 ^ s)) ((lo : Int) / 2 ^ (64 - s)) = (u : Int) := by
      rw [show (hi : Int) * 2 ^ s = ((hi * 2 ^ s : Nat) : Int) by simp, wrap_nat _ D.hs, show (lo : Int) / 2 ^ (64 - s) = ((lo / 2 ^ (64 - s) : Nat) : Int) by simp]
      have hlw := D.lw
      have : (2 : Nat) ^ s ≤ 2 ^ 63 := Nat.pow_le_pow_right (by omega) (by omega)
      rw [u64_or_nat _ _ D.hs (by omega), nat_join s _ _ (Nat.mul_mod_left _ _) hlw, ← D.eu]
    have E5 : IntKind.u64.wrap ((lo : Int) * 2 ^ s) = (L : Int) := by
      rw [show (lo : Int) * 2 ^ s = ((lo * 2 ^ s : Nat) : Int) by simp, IntKind.wrap_u64]
      have := D.eL; omega
    have Lh : L < 18446744073709551616 := by have := D.eL; omega
    have E6 : (L : Int) / 4294967296 = (un1 : Int) := by have := D.e1; omega
    have E7 : bits .and .u64 (L : Int) 4294967295 = (un0 : Int) := by
      rw [and_low32 _ (by omega) (by omega)]; have := D.e0; omega
    have yn1p : 2147483648 ≤ yn1 := by have := D.y1; have := D.Yl; omega
    have yn1h : yn1 < 4294967296 := by have := D.y1; have := D.Yh; omega
    have yn0h : yn0 < 4294967296 := by have := D.y0; omega
    have un1h : un1 < 4294967296 := by have := D.e1; omega
    have un0h : un0 < 4294967296 := by have := D.e0; omega
    have hd : Dg (u : Int) un1 Y yn1 yn0 := ⟨by have := D.y1; have := D.y0; omega, by omega, by omega, by omega, by omega, by omega, by omega, by omega, by have := D.uY; omega⟩
    have W := div64_walk (hi : Int) lo y Y yn1 yn0 u L un1 un0 s w (by omega) (by omega) (by omega) (by omega) (by omega) hs63 c E1 E2 E3 E4 E5 E6 E7 (by omega) (by have := D.Yh; omega) (by omega) (by omega) ⟨hd⟩
    obtain ⟨R1, R2⟩ := cast_end (dv_end D)
    rw [R1, R2] at W
    exact W.mono fun e w' ⟨he, hw⟩ => ⟨he, by rw [hw]; exact World.grownBy.refl _ _⟩
#print axioms div64_c
end Go.Proofs.YtkfkhjafhlafhaaDoor
