import Derived.Test.YtbmnlhmelbhjeaaDoorProg
import Derived.Test.YtbmnlhmelbhjeaaDoorMaPure
import Derived.WalkKit
import Derived.WalkSpells
import Derived.WalkLawsBesides
import Derived.BigQuiet
import Derived.Deep.QuietTactic
import Derived.Laws.BitsAllLaws
namespace Go.Proofs.YtbmnlhmelbhjeaaDoor
open Go Go.RowKit
theorem ret_int {k : IntKind} {a b : Int} (h : a = b) : Ending.returned (.int k a) = .returned (.int k b) := by rw [h]

theorem b_or (x y : UInt32) : bits .or .u32 (x.toNat : Int) (y.toNat : Int) = ((x ||| y).toNat : Int) := by
  rw [u32_or_nat _ _ (by exact x.toNat_lt) (by exact y.toNat_lt), UInt32.toNat_or]
theorem b_xor (x y : UInt32) : bits .xor .u32 (x.toNat : Int) (y.toNat : Int) = ((x ^^^ y).toNat : Int) := by
  rw [u32_xor_nat _ _ (by exact x.toNat_lt) (by exact y.toNat_lt), UInt32.toNat_xor]
theorem b_and (x y : UInt32) : bits .and .u32 (x.toNat : Int) (y.toNat : Int) = ((x &&& y).toNat : Int) := by
  rw [u32_and_nat _ _ (by exact x.toNat_lt) (by exact y.toNat_lt), UInt32.toNat_and]
theorem b_add (x y : UInt32) : ((x.toNat : Int) + (y.toNat : Int)) % 4294967296 = ((x + y).toNat : Int) := by
  rw [UInt32.toNat_add]; omega
theorem u_lt (x : UInt32) : 0 ≤ (x.toNat : Int) ∧ (x.toNat : Int) < 4294967296 := ⟨by omega, by have := x.toNat_lt; omega⟩
theorem shl_gen (x : UInt32) (m : Nat) (p : Int) (hp : ((2 ^ m : Nat) : Int) = p) (hm2 : m < 32) : (x.toNat : Int) * p % 4294967296 = ((x <<< UInt32.ofNat m).toNat : Int) := by
  subst hp
  have h : (UInt32.ofNat m).toNat % 32 = m := by simp; omega
  rw [UInt32.toNat_shiftLeft, h, Nat.shiftLeft_eq]
  simp
theorem shr_gen (x : UInt32) (m : Nat) (p : Int) (hp : ((2 ^ m : Nat) : Int) = p) (hm2 : m < 32) : (x.toNat : Int) / p = ((x >>> UInt32.ofNat m).toNat : Int) := by
  subst hp
  have h : (UInt32.ofNat m).toNat % 32 = m := by simp; omega
  rw [UInt32.toNat_shiftRight, Nat.shiftRight_eq_div_pow, h]
  simp
/-- the program's rot by its walk's words: shl first -/
theorem rot_gen (x : UInt32) (m n : Nat) (p q : Int) (hp : ((2 ^ n : Nat) : Int) = p) (hq : ((2 ^ m : Nat) : Int) = q) (hm : 0 < m) (hn : n = 32 - m) (hm2 : m < 32) :
    bits .or .u32 ((x.toNat : Int) * p % 4294967296) ((x.toNat : Int) / q) = ((Sha.rotr (UInt32.ofNat m) x).toNat : Int) := by
  rw [shl_gen x n p hp (by omega), shr_gen x m q hq hm2, b_or, UInt32.or_comm, Sha.rotr]
  congr 4
  apply UInt32.toNat_inj.1
  rw [UInt32.toNat_sub_of_le]
  · simp; omega
  · rw [UInt32.le_iff_toNat_le]; simp; omega
/-- the reference's turn: shr first -/
theorem turn_gen (x : UInt32) (m n : Nat) (p q : Int) (hp : ((2 ^ n : Nat) : Int) = p) (hq : ((2 ^ m : Nat) : Int) = q) (hm : 0 < m) (hn : n = 32 - m) (hm2 : m < 32) :
    bits .or .u32 ((x.toNat : Int) / q) ((x.toNat : Int) * p % 4294967296) = ((Sha.rotr (UInt32.ofNat m) x).toNat : Int) := by
  rw [← rot_gen x m n p q hp hq hm hn hm2, shl_gen x n p hp (by omega), shr_gen x m q hq hm2, b_or, b_or, UInt32.or_comm]
set_option maxRecDepth 100000 in
set_option maxHeartbeats 400000 in
theorem bs1_any (x : UInt32) (w : World) :
    Calls Tryd.prog 48 #[.int .u32 x.toNat] w fun e w' => e = .returned (.int .u32 (Sha.bs1 x).toNat) ∧ w' = w := by
  obtain ⟨h0, h1⟩ := u_lt x
  have f6 : bits .and .u64 (IntKind.u64.wrap (-6)) 31 = 26 := by decide +kernel
  have f11 : bits .and .u64 (IntKind.u64.wrap (-11)) 31 = 21 := by decide +kernel
  have f25 : bits .and .u64 (IntKind.u64.wrap (-25)) 31 = 7 := by decide +kernel
  go_enter Tryd.func48, Tryd.ntmps48
  go_wp2
  go_ret
  have g6 := rot_gen x 6 26 67108864 64 (by decide) (by decide) (by decide) (by decide) (by decide)
  have g11 := rot_gen x 11 21 2097152 2048 (by decide) (by decide) (by decide) (by decide) (by decide)
  have g25 := rot_gen x 25 7 128 33554432 (by decide) (by decide) (by decide) (by decide) (by decide)
  clear f6 f11 f25
  refine ⟨ret_int ?_, rfl⟩
  rw [g6, g11, g25, b_xor, b_xor]; rfl
set_option maxRecDepth 100000 in
set_option maxHeartbeats 400000 in
theorem bs0_any (x : UInt32) (w : World) :
    Calls Tryd.prog 49 #[.int .u32 x.toNat] w fun e w' => e = .returned (.int .u32 (Sha.bs0 x).toNat) ∧ w' = w := by
  obtain ⟨h0, h1⟩ := u_lt x
  have f2 : bits .and .u64 (IntKind.u64.wrap (-2)) 31 = 30 := by decide +kernel
  have f13 : bits .and .u64 (IntKind.u64.wrap (-13)) 31 = 19 := by decide +kernel
  have f22 : bits .and .u64 (IntKind.u64.wrap (-22)) 31 = 10 := by decide +kernel
  go_enter Tryd.func49, Tryd.ntmps49
  go_wp2
  go_ret
  have g2 := rot_gen x 2 30 1073741824 4 (by decide) (by decide) (by decide) (by decide) (by decide)
  have g13 := rot_gen x 13 19 524288 8192 (by decide) (by decide) (by decide) (by decide) (by decide)
  have g22 := rot_gen x 22 10 1024 4194304 (by decide) (by decide) (by decide) (by decide) (by decide)
  clear f2 f13 f22
  refine ⟨ret_int ?_, rfl⟩
  rw [g2, g13, g22, b_xor, b_xor]; rfl
set_option maxRecDepth 100000 in
set_option maxHeartbeats 400000 in
theorem ss1_any (x : UInt32) (w : World) :
    Calls Tryd.prog 53 #[.int .u32 x.toNat] w fun e w' => e = .returned (.int .u32 (Sha.ss1 x).toNat) ∧ w' = w := by
  obtain ⟨h0, h1⟩ := u_lt x
  have f17 : bits .and .u64 (IntKind.u64.wrap (-17)) 31 = 15 := by decide +kernel
  have f19 : bits .and .u64 (IntKind.u64.wrap (-19)) 31 = 13 := by decide +kernel
  go_enter Tryd.func53, Tryd.ntmps53
  go_wp2
  go_ret
  have g17 := rot_gen x 17 15 32768 131072 (by decide) (by decide) (by decide) (by decide) (by decide)
  have g19 := rot_gen x 19 13 8192 524288 (by decide) (by decide) (by decide) (by decide) (by decide)
  have g10 := shr_gen x 10 1024 (by decide) (by decide)
  clear f17 f19
  refine ⟨ret_int ?_, rfl⟩
  rw [g17, g19, g10, b_xor, b_xor]; rfl
set_option maxRecDepth 100000 in
set_option maxHeartbeats 400000 in
theorem ss0_any (x : UInt32) (w : World) :
    Calls Tryd.prog 54 #[.int .u32 x.toNat] w fun e w' => e = .returned (.int .u32 (Sha.ss0 x).toNat) ∧ w' = w := by
  obtain ⟨h0, h1⟩ := u_lt x
  have f7 : bits .and .u64 (IntKind.u64.wrap (-7)) 31 = 25 := by decide +kernel
  have f18 : bits .and .u64 (IntKind.u64.wrap (-18)) 31 = 14 := by decide +kernel
  go_enter Tryd.func54, Tryd.ntmps54
  go_wp2
  go_ret
  have g7 := rot_gen x 7 25 33554432 128 (by decide) (by decide) (by decide) (by decide) (by decide)
  have g18 := rot_gen x 18 14 16384 262144 (by decide) (by decide) (by decide) (by decide) (by decide)
  have g3 := shr_gen x 3 8 (by decide) (by decide)
  clear f7 f18
  refine ⟨ret_int ?_, rfl⟩
  rw [g7, g18, g3, b_xor, b_xor]; rfl
end Go.Proofs.YtbmnlhmelbhjeaaDoor
