import Derived.Test.YtbmnlhmelbhjeaaDoorMaBase
namespace Go.Proofs.YtbmnlhmelbhjeaaDoor
open Go Go.RowKit

theorem u8_shl (b : UInt8) (m : Nat) (p : Int) (hp : ((2 ^ m : Nat) : Int) = p) (hm : m ≤ 24) : (b.toNat : Int) * p = ((b.toUInt32 <<< UInt32.ofNat m).toNat : Int) := by
  have h := shl_gen b.toUInt32 m p hp (by omega)
  rw [← h, UInt8.toNat_toUInt32]
  subst hp
  have hb := b.toNat_lt
  have h2 : b.toNat * 2 ^ m < 4294967296 := by
    have : 2 ^ m ≤ 2 ^ 24 := Nat.pow_le_pow_right (by decide) hm
    calc b.toNat * 2 ^ m ≤ 255 * 2 ^ 24 := Nat.mul_le_mul (by omega) this
      _ < 4294967296 := by decide
  rw [← Int.natCast_mul]
  exact (Int.emod_eq_of_lt (by omega) (by omega)).symm
theorem word_eq (b0 b1 b2 b3 : UInt8) : bits .or .u32 (bits .or .u32 (bits .or .u32 ((b0.toNat : Int) * 16777216) ((b1.toNat : Int) * 65536)) ((b2.toNat : Int) * 256)) (b3.toNat : Int) = ((Sha.word4 b0 b1 b2 b3).toNat : Int) := by
  rw [u8_shl b0 24 _ (by decide) (by decide), u8_shl b1 16 _ (by decide) (by decide), u8_shl b2 8 _ (by decide) (by decide), b_or, b_or]
  have : (b3.toNat : Int) = (b3.toUInt32.toNat : Int) := by rw [UInt8.toNat_toUInt32]
  rw [this, b_or]; rfl

set_option maxRecDepth 100000 in
set_option maxHeartbeats 400000 in
theorem word_any (b0 b1 b2 b3 : UInt8) (B o n cap : Nat) (w : World) (hn : 4 ≤ n)
    (h0 : w.cell? ⟨B, o, none⟩ = some (.int .u8 b0.toNat)) (h1 : w.cell? ⟨B, o + 1, none⟩ = some (.int .u8 b1.toNat))
    (h2 : w.cell? ⟨B, o + 2, none⟩ = some (.int .u8 b2.toNat)) (h3 : w.cell? ⟨B, o + 3, none⟩ = some (.int .u8 b3.toNat)) :
    Calls Tryd.prog 52 #[.slice (some ⟨B, o, none⟩) n cap] w fun e w' => e = .returned (.int .u32 (Sha.word4 b0 b1 b2 b3).toNat) ∧ ∃ n, w' = w.drewN n := by
  have l0 := b0.toNat_lt
  have l1 := b1.toNat_lt
  have l2 := b2.toNat_lt
  have l3 := b3.toNat_lt
  go_enter Tryd.func52, Tryd.ntmps52
  go_wp2
  go_quiet (fail)
  go_wp2
  go_ret
  exact ⟨ret_int (word_eq _ _ _ _), _, rfl⟩

theorem byte0 (x : UInt32) : (x.toNat : Int) % (256 : Int) = (x.toUInt8.toNat : Int) := by
  rw [UInt32.toNat_toUInt8]; omega
theorem byte8 (x : UInt32) : (x.toNat : Int) / (256 : Int) % (256 : Int) = ((x >>> 8).toUInt8.toNat : Int) := by
  rw [← byte0, shr_gen x 8 256 (by decide) (by decide)]; rfl
theorem byte16 (x : UInt32) : (x.toNat : Int) / (65536 : Int) % (256 : Int) = ((x >>> 16).toUInt8.toNat : Int) := by
  rw [← byte0, shr_gen x 16 65536 (by decide) (by decide)]; rfl
theorem byte24 (x : UInt32) : (x.toNat : Int) / (16777216 : Int) = ((x >>> 24).toUInt8.toNat : Int) := by
  have := u_lt x
  have h := shr_gen x 24 16777216 (by decide) (by decide)
  rw [← byte0, show (x >>> 24) = x >>> UInt32.ofNat 24 from rfl, ← h]; omega

set_option maxRecDepth 100000 in
set_option maxHeartbeats 400000 in
theorem putWord_any (x : UInt32) (B o n cap : Nat) (cs : List Value) (t : TypeId) (w : World) (hn : 4 ≤ n) (ho : o + 4 ≤ cs.length) (hB : Has w B cs t) :
    Calls Tryd.prog 46 #[.slice (some ⟨B, o, none⟩) n cap, .int .u32 x.toNat] w fun e w' => e = .returned (.tuple #[]) ∧ w' = w.setCells B o ((Sha.w4 x).map bv) := by
  obtain ⟨x0, x1⟩ := u_lt x
  obtain ⟨v0, c0⟩ : ∃ v, w.cell? ⟨B, o, none⟩ = some v := ⟨_, by rw [hB.cell, List.getElem?_eq_getElem (by omega)]⟩
  obtain ⟨v1, c1⟩ : ∃ v, w.cell? ⟨B, o + 1, none⟩ = some v := ⟨_, by rw [hB.cell, List.getElem?_eq_getElem (by omega)]⟩
  obtain ⟨v2, c2⟩ : ∃ v, w.cell? ⟨B, o + 2, none⟩ = some v := ⟨_, by rw [hB.cell, List.getElem?_eq_getElem (by omega)]⟩
  obtain ⟨v3, c3⟩ : ∃ v, w.cell? ⟨B, o + 3, none⟩ = some v := ⟨_, by rw [hB.cell, List.getElem?_eq_getElem (by omega)]⟩
  have f0 := hB.frozen o
  have f1 := hB.frozen (o + 1)
  have f2 := hB.frozen (o + 2)
  have f3 := hB.frozen (o + 3)
  clear hB
  go_enter Tryd.func46, Tryd.ntmps46
  go_wp2
  go_end0
  refine ⟨rfl, ?_⟩
  rw [byte24 x, byte16 x, byte8 x, byte0 x]
  rfl

set_option maxRecDepth 100000 in
set_option maxHeartbeats 1000000 in
theorem turn_any (x : UInt32) (k : Nat) (w : World) (hk : k = 2 ∨ k = 6 ∨ k = 7 ∨ k = 11 ∨ k = 13 ∨ k = 17 ∨ k = 18 ∨ k = 19 ∨ k = 22 ∨ k = 25) :
    Calls Tryd.prog 61 #[.int .u32 x.toNat, .int .i64 k] w fun e w' => e = .returned (.int .u32 (Sha.rotr (UInt32.ofNat k) x).toNat) ∧ ∃ n, w' = w.drewN n := by
  obtain ⟨x0, x1⟩ := u_lt x
  rcases hk with rfl | rfl | rfl | rfl | rfl | rfl | rfl | rfl | rfl | rfl
  all_goals
    go_enter Tryd.func61, Tryd.ntmps61
    go_wp2
    go_quiet (fail)
    go_wp2
    go_ret
    exact ⟨ret_int (turn_gen x _ (32 - _) _ _ (by rfl) (by rfl) (by decide) rfl (by decide)), _, rfl⟩
end Go.Proofs.YtbmnlhmelbhjeaaDoor
