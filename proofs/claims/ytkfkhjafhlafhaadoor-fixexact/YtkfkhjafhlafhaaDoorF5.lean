/- math/bits: Div64: one digit, over Int -/
import Derived.Test.YtkfkhjafhlafhaaDoorF4
namespace Go.Proofs.YtkfkhjafhlafhaaDoor
open Go Go.RowKit

theorem wrap_nat (n : Nat) (h : n < 18446744073709551616) : IntKind.u64.wrap (n : Int) = n := by rw [IntKind.wrap_u64]; omega

/-- what stays the same while a digit is looked for: u, u1 over Y = y1, y0 -/
structure Dg (u u1 Y y1 y0 : Int) : Prop where
  eY : Y = y1 * 4294967296 + y0
  y10 : 2147483648 ≤ y1
  y11 : y1 < 4294967296
  y00 : 0 ≤ y0
  y01 : y0 < 4294967296
  u10 : 0 ≤ u1
  u11 : u1 < 4294967296
  u0 : 0 ≤ u
  uY : u < Y
structure DgI (u u1 Y y1 q r : Int) : Prop where
  q0 : 0 ≤ q
  r0 : 0 ≤ r
  eq : u = q * y1 + r
  le : (u * 4294967296 + u1) / Y ≤ q

theorem Dg.pos {u u1 Y y1 y0 : Int} (d : Dg u u1 Y y1 y0) : 0 < Y := by
  have := d.u0; have := d.uY; omega
theorem Dg.mul {u u1 Y y1 y0 : Int} (d : Dg u u1 Y y1 y0) (q : Int) : q * Y = q * y1 * 4294967296 + q * y0 := by
  rw [d.eY, Int.mul_add, Int.mul_assoc]

theorem Dg.first {u u1 Y y1 y0 : Int} (d : Dg u u1 Y y1 y0) : DgI u u1 Y y1 (u / y1) (u % y1) := by
  have hp := d.y10
  have hq : 0 ≤ u / y1 := Int.ediv_nonneg d.u0 (by omega)
  have hr := Int.emod_nonneg u (show y1 ≠ 0 by omega)
  have hl := Int.emod_lt_of_pos u (show 0 < y1 by omega)
  have he := Int.mul_ediv_add_emod u y1
  rw [Int.mul_comm] at he
  refine ⟨hq, hr, he.symm, ?_⟩
  have hm := d.mul (u / y1 + 1)
  rw [Int.add_mul (u / y1) 1 y1, Int.add_mul (u / y1) 1 y0] at hm
  have hz : 0 ≤ u / y1 * y0 := Int.mul_nonneg hq d.y00
  have hz2 := d.y00
  have : (u * 4294967296 + u1) / Y < u / y1 + 1 := by
    refine Int.ediv_lt_of_lt_mul d.pos ?_
    rw [hm]
    have := d.u11
    generalize u / y1 * y1 = A at *
    generalize u / y1 * y0 = B at *
    omega
  omega

theorem Dg.lt {u u1 Y y1 y0 : Int} (d : Dg u u1 Y y1 y0) : (u * 4294967296 + u1) / Y < 4294967296 := by
  refine Int.ediv_lt_of_lt_mul d.pos ?_
  have := d.uY; have := d.u11
  omega

theorem DgI.step {u u1 Y y1 y0 q r : Int} (d : Dg u u1 Y y1 y0) (i : DgI u u1 Y y1 q r) (c : 4294967296 ≤ q ∨ 4294967296 * r + u1 < q * y0) :
    1 ≤ q ∧ DgI u u1 Y y1 (q - 1) (r + y1) := by
  have hlt : (u * 4294967296 + u1) / Y < q := by
    rcases c with c | c
    · have := d.lt; omega
    · refine Int.ediv_lt_of_lt_mul d.pos ?_
      rw [d.mul q]
      have := i.eq
      generalize q * y1 = A at *
      generalize q * y0 = B at *
      omega
  have h0 : 0 ≤ (u * 4294967296 + u1) / Y := Int.ediv_nonneg (by have := d.u0; have := d.u10; omega) (by have := d.pos; omega)
  refine ⟨by omega, by omega, by have := i.r0; have := d.y10; omega, ?_, by omega⟩
  have := i.eq
  rw [Int.sub_mul]
  omega

theorem DgI.exit {u u1 Y y1 y0 q r : Int} (d : Dg u u1 Y y1 y0) (i : DgI u u1 Y y1 q r) (c : q * y0 ≤ 4294967296 * r + u1) :
    q = (u * 4294967296 + u1) / Y := by
  have : q ≤ (u * 4294967296 + u1) / Y := by
    rw [Int.le_ediv_iff_mul_le d.pos, d.mul q]
    have := i.eq
    generalize q * y1 = A at *
    generalize q * y0 = B at *
    omega
  have := i.le
  omega

theorem DgI.exit2 {u u1 Y y1 y0 q r : Int} (d : Dg u u1 Y y1 y0) (i : DgI u u1 Y y1 q r) (c : 4294967296 ≤ r) :
    q = (u * 4294967296 + u1) / Y := by
  have hq : q < 4294967296 := by
    apply Classical.byContradiction
    intro hn
    have h1 := Int.mul_le_mul_of_nonneg_right (show 4294967296 ≤ q by omega) (show 0 ≤ y1 by have := d.y10; omega)
    have := i.eq; have := d.uY; have := d.eY; have := d.y01
    generalize q * y1 = A at *
    omega
  refine i.exit d ?_
  have h1 := Int.mul_le_mul_of_nonneg_right (show q ≤ 4294967295 by omega) d.y00
  have := d.y01; have := d.u10
  generalize q * y0 = B at *
  omega

/-- the digit and the rest behind it -/
theorem Dg.digit {u u1 Y y1 y0 : Int} (d : Dg u u1 Y y1 y0) :
    0 ≤ (u * 4294967296 + u1) / Y ∧ (u * 4294967296 + u1) / Y < 4294967296 ∧
    0 ≤ (u * 4294967296 + u1) % Y ∧ (u * 4294967296 + u1) % Y < Y ∧
    (u * 4294967296 + u1) - (u * 4294967296 + u1) / Y * Y = (u * 4294967296 + u1) % Y := by
  have h7 := d.u0; have h8 := d.u10; have hp := d.pos
  refine ⟨Int.ediv_nonneg (by omega) (by omega), d.lt, Int.emod_nonneg _ (by omega), Int.emod_lt_of_pos _ (by omega), ?_⟩
  have := Int.mul_ediv_add_emod (u * 4294967296 + u1) Y
  rw [Int.mul_comm] at this
  omega

theorem Dg.next {u u1 Y y1 y0 : Int} (d : Dg u u1 Y y1 y0) (u0' : Int) (h0 : 0 ≤ u0') (h1 : u0' < 4294967296) : Dg ((u * 4294967296 + u1) % Y) u0' Y y1 y0 := by
  obtain ⟨_, _, a, b, _⟩ := d.digit
  exact ⟨d.eY, d.y10, d.y11, d.y00, d.y01, h0, h1, a, b⟩
end Go.Proofs.YtkfkhjafhlafhaaDoor
