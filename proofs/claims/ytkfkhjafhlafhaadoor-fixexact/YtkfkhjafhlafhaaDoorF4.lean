/- math/bits: Div64: what the walk leans on -/
import Derived.Test.YtkfkhjafhlafhaaDoorF3
import Derived.Test.YtkfkhjafhlafhaaDoorPa
namespace Go.Proofs.YtkfkhjafhlafhaaDoor
open Go Go.RowKit

/-- the numbers that the school division begins with -/
structure Dv (hi lo y s Y yn1 yn0 u L un1 un0 : Nat) : Prop where
  eY : Y = y * 2 ^ s
  y1 : yn1 = Y / 4294967296
  y0 : yn0 = Y % 4294967296
  eu : u = hi * 2 ^ s + lo / 2 ^ (64 - s)
  eL : L = lo * 2 ^ s % 18446744073709551616
  e1 : un1 = L / 4294967296
  e0 : un0 = L % 4294967296
  uY : u < Y
  Yl : 9223372036854775808 ≤ Y
  Yh : Y < 18446744073709551616
  hs : hi * 2 ^ s < 18446744073709551616
  lw : lo / 2 ^ (64 - s) < 2 ^ s
  all : (u * 4294967296 + un1) * 4294967296 + un0 = (hi * 18446744073709551616 + lo) * 2 ^ s

theorem dv_prep (hi lo y s : Nat) (h1 : hi < y) (hl : lo < 18446744073709551616) (hs : s < 64) (n1 : 9223372036854775808 ≤ y * 2 ^ s) (n2 : y * 2 ^ s < 18446744073709551616) :
    Dv hi lo y s (y * 2 ^ s) (y * 2 ^ s / 4294967296) (y * 2 ^ s % 4294967296) (hi * 2 ^ s + lo / 2 ^ (64 - s)) (lo * 2 ^ s % 18446744073709551616) (lo * 2 ^ s % 18446744073709551616 / 4294967296) (lo * 2 ^ s % 18446744073709551616 % 4294967296) := by
  have hp := Nat.two_pow_pos s
  have hq := Nat.two_pow_pos (64 - s)
  have hpq : 2 ^ (64 - s) * 2 ^ s = 18446744073709551616 := by
    rw [← Nat.pow_add, show 64 - s + s = 64 by omega]
  have hlw : lo / 2 ^ (64 - s) < 2 ^ s := by
    rw [Nat.div_lt_iff_lt_mul hq, Nat.mul_comm, hpq]; exact hl
  have hhs : (hi + 1) * 2 ^ s ≤ y * 2 ^ s := Nat.mul_le_mul_right _ h1
  rw [Nat.add_mul] at hhs
  have hld : lo * 2 ^ s / 18446744073709551616 = lo / 2 ^ (64 - s) := by
    rw [← hpq, Nat.mul_div_mul_right _ _ hp]
  have hdm := Nat.div_add_mod (lo * 2 ^ s) 18446744073709551616
  rw [hld] at hdm
  refine ⟨rfl, rfl, rfl, rfl, rfl, rfl, rfl, by omega, n1, n2, by omega, hlw, ?_⟩
  have e2 := Nat.add_mul (hi * 18446744073709551616) lo (2 ^ s)
  have e3 := Nat.mul_right_comm hi 18446744073709551616 (2 ^ s)
  rw [e2, e3]
  clear e2 e3 hpq hld hlw
  generalize lo / 2 ^ (64 - s) = A at *
  generalize lo * 2 ^ s = B at *
  generalize hi * 2 ^ s = C at *
  generalize 2 ^ s = D at *
  omega
end Go.Proofs.YtkfkhjafhlafhaaDoor
