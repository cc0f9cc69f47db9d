import Derived.Test.YtldnpebnpbahjaaGreatDoorProg
import Derived.WalkKit
import Derived.WalkSpells
import Derived.WalkLawsBesides
import Derived.BigQuiet
import Derived.Deep.QuietTactic
import Derived.Laws.BitsAllLaws
import Derived.Deep.MidRow
import Derived.Deep.WholeRow
import Derived.Lib.SliceRun
import Derived.Deep.RegionHeld
namespace Go.Proofs.YtldnpebnpbahjaaGreatDoor
namespace Sha

def rotr (n : UInt32) (x : UInt32) : UInt32 := (x >>> n) ||| (x <<< (32 - n))
def ss0 (x : UInt32) : UInt32 := rotr 7 x ^^^ rotr 18 x ^^^ (x >>> 3)
def ss1 (x : UInt32) : UInt32 := rotr 17 x ^^^ rotr 19 x ^^^ (x >>> 10)
def bs0 (x : UInt32) : UInt32 := rotr 2 x ^^^ rotr 13 x ^^^ rotr 22 x
def bs1 (x : UInt32) : UInt32 := rotr 6 x ^^^ rotr 11 x ^^^ rotr 25 x

def word4 (a b c d : UInt8) : UInt32 := a.toUInt32 <<< 24 ||| b.toUInt32 <<< 16 ||| c.toUInt32 <<< 8 ||| d.toUInt32
def wordAt (blk : List UInt8) (t : Nat) : UInt32 := word4 (blk.getD (4 * t) 0) (blk.getD (4 * t + 1) 0) (blk.getD (4 * t + 2) 0) (blk.getD (4 * t + 3) 0)

/-- the value that the round t lays -/
def wval (blk : List UInt8) (l : List UInt32) (t : Nat) : UInt32 :=
  if t < 16 then wordAt blk t
  else ss1 (l.getD (t - 2) 0) + l.getD (t - 7) 0 + ss0 (l.getD (t - 15) 0) + l.getD (t - 16) 0
def schedTo (blk : List UInt8) : Nat → List UInt32
  | 0 => List.replicate 64 0
  | t + 1 => (schedTo blk t).set t (wval blk (schedTo blk t) t)
def sched (blk : List UInt8) : List UInt32 := schedTo blk 64

structure St where
  a : UInt32
  b : UInt32
  c : UInt32
  d : UInt32
  e : UInt32
  f : UInt32
  g : UInt32
  h : UInt32

def ks : List UInt32 := [1116352408, 1899447441, 3049323471, 3921009573, 961987163, 1508970993, 2453635748, 2870763221, 3624381080, 310598401, 607225278, 1426881987, 1925078388, 2162078206, 2614888103, 3248222580, 3835390401, 4022224774, 264347078, 604807628, 770255983, 1249150122, 1555081692, 1996064986, 2554220882, 2821834349, 2952996808, 3210313671, 3336571891, 3584528711, 113926993, 338241895, 666307205, 773529912, 1294757372, 1396182291, 1695183700, 1986661051, 2177026350, 2456956037, 2730485921, 2820302411, 3259730800, 3345764771, 3516065817, 3600352804, 4094571909, 275423344, 430227734, 506948616, 659060556, 883997877, 958139571, 1322822218, 1537002063, 1747873779, 1955562222, 2024104815, 2227730452, 2361852424, 2428436474, 2756734187, 3204031479, 3329325298]
def iv : List UInt32 := [1779033703, 3144134277, 1013904242, 2773480762, 1359893119, 2600822924, 528734635, 1541459225]

def xval (w : List UInt32) (s : St) (t : Nat) : UInt32 :=
  s.h + bs1 s.e + ((s.e &&& s.f) ^^^ (~~~ s.e &&& s.g)) + ks.getD t 0 + w.getD t 0
def yval (s : St) : UInt32 := bs0 s.a + ((s.a &&& s.b) ^^^ (s.a &&& s.c) ^^^ (s.b &&& s.c))
def rnd (w : List UInt32) (s : St) (t : Nat) : St :=
  ⟨xval w s t + yval s, s.a, s.b, s.c, s.d + xval w s t, s.e, s.f, s.g⟩
def rndTo (w : List UInt32) (s : St) : Nat → St
  | 0 => s
  | t + 1 => rnd w (rndTo w s t) t
def stOf (ws : List UInt32) : St := ⟨ws.getD 0 0, ws.getD 1 0, ws.getD 2 0, ws.getD 3 0, ws.getD 4 0, ws.getD 5 0, ws.getD 6 0, ws.getD 7 0⟩
def stList (s : St) : List UInt32 := [s.a, s.b, s.c, s.d, s.e, s.f, s.g, s.h]
def addTo (ws ls : List UInt32) : Nat → List UInt32
  | 0 => ws
  | i + 1 => (addTo ws ls i).set i ((addTo ws ls i).getD i 0 + ls.getD i 0)
def mixW (ws : List UInt32) (blk : List UInt8) : List UInt32 := addTo ws (stList (rndTo (sched blk) (stOf ws) 64)) 8

def w4 (x : UInt32) : List UInt8 := [(x >>> 24).toUInt8, (x >>> 16).toUInt8, (x >>> 8).toUInt8, x.toUInt8]
def out (ws : List UInt32) : List UInt8 := ws.flatMap w4

/-- all whole blocks of a text, one behind the other -/
def foldN : Nat → List UInt32 → List UInt8 → List UInt32
  | 0, ws, _ => ws
  | n + 1, ws, t => foldN n (mixW ws (t.take 64)) (t.drop 64)
def fold (ws : List UInt32) (t : List UInt8) : List UInt32 := foldN (t.length / 64) ws t

/-- the eight bytes of a length in bits -/
def len8 (n : Nat) : List UInt8 := w4 (UInt32.ofNat (n * 8 % 2 ^ 64 / 2 ^ 32)) ++ w4 (UInt32.ofNat (n * 8))
/-- what is laid behind a text of n bytes -/
def padOf (n : Nat) : List UInt8 :=
  128 :: List.replicate (if n % 64 < 56 then 55 - n % 64 else 119 - n % 64) 0 ++ len8 n
def sha (t : List UInt8) : List UInt8 := out (fold iv (t ++ padOf t.length))

/-! Lengths. -/
set_option maxRecDepth 100000 in
theorem schedTo_len (blk : List UInt8) : ∀ t, (schedTo blk t).length = 64
  | 0 => by simp [schedTo]
  | t + 1 => by simp [schedTo, schedTo_len blk t]
set_option maxRecDepth 100000 in
theorem addTo_len (ws ls : List UInt32) : ∀ t, (addTo ws ls t).length = ws.length
  | 0 => rfl
  | t + 1 => by simp [addTo, addTo_len ws ls t]
set_option maxRecDepth 100000 in
theorem mixW_len (ws : List UInt32) (blk : List UInt8) : (mixW ws blk).length = ws.length := addTo_len _ _ _
set_option maxRecDepth 100000 in
theorem foldN_len : ∀ (n : Nat) (ws : List UInt32) (t : List UInt8), (foldN n ws t).length = ws.length
  | 0, _, _ => rfl
  | n + 1, ws, t => by rw [foldN, foldN_len n, mixW_len]
set_option maxRecDepth 100000 in
theorem fold_len (ws : List UInt32) (t : List UInt8) : (fold ws t).length = ws.length := foldN_len _ _ _

set_option maxRecDepth 100000 in
theorem fold_short (ws : List UInt32) (t : List UInt8) (h : t.length < 64) : fold ws t = ws := by
  rw [fold, Nat.div_eq_of_lt h]; rfl
set_option maxRecDepth 100000 in
theorem fold_block (ws : List UInt32) (b t : List UInt8) (h : b.length = 64) : fold ws (b ++ t) = fold (mixW ws b) t := by
  have e : (b ++ t).length / 64 = t.length / 64 + 1 := by rw [List.length_append, h]; omega
  rw [fold, e, foldN, List.take_append_of_le_length (by omega), List.drop_append_of_le_length (by omega), List.take_of_length_le (by omega), List.drop_of_length_le (by omega)]
  rfl

/-- whole blocks first, then the rest -/
theorem foldN_append : ∀ (n : Nat) (ws : List UInt32) (s t : List UInt8), s.length = 64 * n → fold ws (s ++ t) = fold (foldN n ws s) t
  | 0, ws, s, t, h => by
    have : s = [] := List.length_eq_zero_iff.1 (by omega)
    subst this; rfl
  | n + 1, ws, s, t, h => by
    have e : s = s.take 64 ++ s.drop 64 := (List.take_append_drop 64 s).symm
    have h1 : (s.take 64).length = 64 := by rw [List.length_take]; omega
    have h2 : (s.drop 64).length = 64 * n := by rw [List.length_drop]; omega
    rw [foldN, ← foldN_append n _ (s.drop 64) t h2, ← fold_block _ _ _ h1, ← List.append_assoc, ← e]
set_option maxRecDepth 100000 in
theorem fold_append (ws : List UInt32) (s t : List UInt8) (h : s.length % 64 = 0) : fold ws (s ++ t) = fold (fold ws s) t := by
  have e : s.length = 64 * (s.length / 64) := by omega
  exact foldN_append _ _ _ _ e

end Sha
end Go.Proofs.YtldnpebnpbahjaaGreatDoor

namespace Go.Proofs.YtldnpebnpbahjaaGreatDoor
open Go Go.RowKit
set_option maxRecDepth 100000 in
theorem ret_int {k : IntKind} {a b : Int} (h : a = b) : Ending.returned (.int k a) = .returned (.int k b) := by rw [h]

set_option maxRecDepth 100000 in
theorem b_or (x y : UInt32) : bits .or .u32 (x.toNat : Int) (y.toNat : Int) = ((x ||| y).toNat : Int) := by
  rw [u32_or_nat _ _ (by exact x.toNat_lt) (by exact y.toNat_lt), UInt32.toNat_or]
set_option maxRecDepth 100000 in
theorem b_xor (x y : UInt32) : bits .xor .u32 (x.toNat : Int) (y.toNat : Int) = ((x ^^^ y).toNat : Int) := by
  rw [u32_xor_nat _ _ (by exact x.toNat_lt) (by exact y.toNat_lt), UInt32.toNat_xor]
set_option maxRecDepth 100000 in
theorem b_and (x y : UInt32) : bits .and .u32 (x.toNat : Int) (y.toNat : Int) = ((x &&& y).toNat : Int) := by
  rw [u32_and_nat _ _ (by exact x.toNat_lt) (by exact y.toNat_lt), UInt32.toNat_and]
set_option maxRecDepth 100000 in
theorem b_add (x y : UInt32) : ((x.toNat : Int) + (y.toNat : Int)) % 4294967296 = ((x + y).toNat : Int) := by
  rw [UInt32.toNat_add]; omega
set_option maxRecDepth 100000 in
theorem u_lt (x : UInt32) : 0 ≤ (x.toNat : Int) ∧ (x.toNat : Int) < 4294967296 := ⟨by omega, by have := x.toNat_lt; omega⟩
set_option maxRecDepth 100000 in
theorem shl_gen (x : UInt32) (m : Nat) (p : Int) (hp : ((2 ^ m : Nat) : Int) = p) (hm2 : m < 32) : (x.toNat : Int) * p % 4294967296 = ((x <<< UInt32.ofNat m).toNat : Int) := by
  subst hp
  have h : (UInt32.ofNat m).toNat % 32 = m := by simp; omega
  rw [UInt32.toNat_shiftLeft, h, Nat.shiftLeft_eq]
  simp
set_option maxRecDepth 100000 in
theorem shr_gen (x : UInt32) (m : Nat) (p : Int) (hp : ((2 ^ m : Nat) : Int) = p) (hm2 : m < 32) : (x.toNat : Int) / p = ((x >>> UInt32.ofNat m).toNat : Int) := by
  subst hp
  have h : (UInt32.ofNat m).toNat % 32 = m := by simp; omega
  rw [UInt32.toNat_shiftRight, Nat.shiftRight_eq_div_pow, h]
  simp
/-- the program's rot by its walk's words: shl first -/
theorem rot_gen (x : UInt32) (m n : Nat) (p q : Int) (hp : ((2 ^ n : Nat) : Int) = p) (hq : ((2 ^ m : Nat) : Int) = q) (hm : 0 < m) (hn : n = 32 - m) (hm2 : m < 32) :
    bits .or .u32 ((x.toNat : Int) * p % 4294967296) ((x.toNat : Int) / q) = ((Sha.rotr (UInt32.ofNat m) x).toNat : Int) := by
  rw [shl_gen x n p hp (by omega), shr_gen x m q hq hm2, b_or, UInt32.or_comm, Sha.rotr]
  congr 4
  apply UInt32.toNat_inj.1
  rw [UInt32.toNat_sub_of_le]
  · simp; omega
  · rw [UInt32.le_iff_toNat_le]; simp; omega
/-- the reference's turn: shr first -/
theorem turn_gen (x : UInt32) (m n : Nat) (p q : Int) (hp : ((2 ^ n : Nat) : Int) = p) (hq : ((2 ^ m : Nat) : Int) = q) (hm : 0 < m) (hn : n = 32 - m) (hm2 : m < 32) :
    bits .or .u32 ((x.toNat : Int) / q) ((x.toNat : Int) * p % 4294967296) = ((Sha.rotr (UInt32.ofNat m) x).toNat : Int) := by
  rw [← rot_gen x m n p q hp hq hm hn hm2, shl_gen x n p hp (by omega), shr_gen x m q hq hm2, b_or, b_or, UInt32.or_comm]
set_option maxRecDepth 100000 in
set_option maxHeartbeats 400000 in
theorem bs1_any (x : UInt32) (w : World) :
    Calls Tryz.prog 178 #[.int .u32 x.toNat] w fun e w' => e = .returned (.int .u32 (Sha.bs1 x).toNat) ∧ w' = w := by
  obtain ⟨h0, h1⟩ := u_lt x
  have f6 : bits .and .u64 (IntKind.u64.wrap (-6)) 31 = 26 := by decide +kernel
  have f11 : bits .and .u64 (IntKind.u64.wrap (-11)) 31 = 21 := by decide +kernel
  have f25 : bits .and .u64 (IntKind.u64.wrap (-25)) 31 = 7 := by decide +kernel
  go_enter Tryz.func178, Tryz.ntmps178
  go_wp2
  go_ret
  have g6 := rot_gen x 6 26 67108864 64 (by decide) (by decide) (by decide) (by decide) (by decide)
  have g11 := rot_gen x 11 21 2097152 2048 (by decide) (by decide) (by decide) (by decide) (by decide)
  have g25 := rot_gen x 25 7 128 33554432 (by decide) (by decide) (by decide) (by decide) (by decide)
  clear f6 f11 f25
  refine ⟨ret_int ?_, rfl⟩
  rw [g6, g11, g25, b_xor, b_xor]; rfl
set_option maxRecDepth 100000 in
set_option maxHeartbeats 400000 in
theorem bs0_any (x : UInt32) (w : World) :
    Calls Tryz.prog 179 #[.int .u32 x.toNat] w fun e w' => e = .returned (.int .u32 (Sha.bs0 x).toNat) ∧ w' = w := by
  obtain ⟨h0, h1⟩ := u_lt x
  have f2 : bits .and .u64 (IntKind.u64.wrap (-2)) 31 = 30 := by decide +kernel
  have f13 : bits .and .u64 (IntKind.u64.wrap (-13)) 31 = 19 := by decide +kernel
  have f22 : bits .and .u64 (IntKind.u64.wrap (-22)) 31 = 10 := by decide +kernel
  go_enter Tryz.func179, Tryz.ntmps179
  go_wp2
  go_ret
  have g2 := rot_gen x 2 30 1073741824 4 (by decide) (by decide) (by decide) (by decide) (by decide)
  have g13 := rot_gen x 13 19 524288 8192 (by decide) (by decide) (by decide) (by decide) (by decide)
  have g22 := rot_gen x 22 10 1024 4194304 (by decide) (by decide) (by decide) (by decide) (by decide)
  clear f2 f13 f22
  refine ⟨ret_int ?_, rfl⟩
  rw [g2, g13, g22, b_xor, b_xor]; rfl
set_option maxRecDepth 100000 in
set_option maxHeartbeats 400000 in
theorem ss1_any (x : UInt32) (w : World) :
    Calls Tryz.prog 208 #[.int .u32 x.toNat] w fun e w' => e = .returned (.int .u32 (Sha.ss1 x).toNat) ∧ w' = w := by
  obtain ⟨h0, h1⟩ := u_lt x
  have f17 : bits .and .u64 (IntKind.u64.wrap (-17)) 31 = 15 := by decide +kernel
  have f19 : bits .and .u64 (IntKind.u64.wrap (-19)) 31 = 13 := by decide +kernel
  go_enter Tryz.func208, Tryz.ntmps208
  go_wp2
  go_ret
  have g17 := rot_gen x 17 15 32768 131072 (by decide) (by decide) (by decide) (by decide) (by decide)
  have g19 := rot_gen x 19 13 8192 524288 (by decide) (by decide) (by decide) (by decide) (by decide)
  have g10 := shr_gen x 10 1024 (by decide) (by decide)
  clear f17 f19
  refine ⟨ret_int ?_, rfl⟩
  rw [g17, g19, g10, b_xor, b_xor]; rfl
set_option maxRecDepth 100000 in
set_option maxHeartbeats 400000 in
theorem ss0_any (x : UInt32) (w : World) :
    Calls Tryz.prog 209 #[.int .u32 x.toNat] w fun e w' => e = .returned (.int .u32 (Sha.ss0 x).toNat) ∧ w' = w := by
  obtain ⟨h0, h1⟩ := u_lt x
  have f7 : bits .and .u64 (IntKind.u64.wrap (-7)) 31 = 25 := by decide +kernel
  have f18 : bits .and .u64 (IntKind.u64.wrap (-18)) 31 = 14 := by decide +kernel
  go_enter Tryz.func209, Tryz.ntmps209
  go_wp2
  go_ret
  have g7 := rot_gen x 7 25 33554432 128 (by decide) (by decide) (by decide) (by decide) (by decide)
  have g18 := rot_gen x 18 14 16384 262144 (by decide) (by decide) (by decide) (by decide) (by decide)
  have g3 := shr_gen x 3 8 (by decide) (by decide)
  clear f7 f18
  refine ⟨ret_int ?_, rfl⟩
  rw [g7, g18, g3, b_xor, b_xor]; rfl
end Go.Proofs.YtldnpebnpbahjaaGreatDoor

namespace Go.Proofs.YtldnpebnpbahjaaGreatDoor
open Go Go.RowKit

/-- A fact that no tactic looks into. -/
structure Keep (p : Prop) : Prop where
  out : p

abbrev wv (x : UInt32) : Value := .int .u32 x.toNat
abbrev bv (x : UInt8) : Value := .int .u8 x.toNat

def Has (w : World) (b : Nat) (cs : List Value) (t : TypeId) : Prop := w.heap[b]? = some (.cells cs.toArray t (0, 0))

set_option maxRecDepth 100000 in
theorem Has.lt {w : World} {b : Nat} {cs : List Value} {t : TypeId} (h : Has w b cs t) : b < w.heap.size := by
  unfold Has at h
  exact (Array.getElem?_eq_some_iff.1 h).1
set_option maxRecDepth 100000 in
theorem Has.cell {w : World} {b : Nat} {cs : List Value} {t : TypeId} (h : Has w b cs t) (j : Nat) : w.cell? ⟨b, j, none⟩ = cs[j]? := by
  unfold Has at h
  simp [World.cell?, h]
set_option maxRecDepth 100000 in
theorem Has.cellv {w : World} {b : Nat} {cs : List Value} {t : TypeId} (h : Has w b cs t) (j : Nat) (v : Value) (hv : cs[j]? = some v) : w.cell? ⟨b, j, none⟩ = some v := by
  rw [h.cell, hv]
set_option maxRecDepth 100000 in
theorem Has.frozen {w : World} {b : Nat} {cs : List Value} {t : TypeId} (h : Has w b cs t) (j : Nat) : w.frozen? ⟨b, j, none⟩ = false := by
  unfold Has at h
  simp [World.frozen?, h]
set_option maxRecDepth 100000 in
theorem Has.setCell {w : World} {b : Nat} {cs : List Value} {t : TypeId} (h : Has w b cs t) (j : Nat) (v : Value) : Has (w.setCell ⟨b, j, none⟩ v) b (cs.set j v) t := by
  unfold Has at h ⊢
  simp [World.setCell, Array.getElem?_modify, h]
set_option maxRecDepth 100000 in
theorem Has.other {w : World} {b : Nat} {cs : List Value} {t : TypeId} (h : Has w b cs t) (a : Addr) (v : Value) (hne : a.block ≠ b) : Has (w.setCell a v) b cs t := by
  unfold Has at h ⊢
  simp [World.setCell, Array.getElem?_modify, h, hne]
set_option maxRecDepth 100000 in
theorem Has.alloc {w : World} {b : Nat} {cs : List Value} {t : TypeId} (h : Has w b cs t) (o : Obj) : Has (w.alloc o) b cs t := by
  have := h.lt
  unfold Has at h ⊢
  show (w.heap.push o)[b]? = _
  rw [Array.getElem?_push, if_neg (by omega), h]
set_option maxRecDepth 100000 in
theorem Has.drewN {w : World} {b : Nat} {cs : List Value} {t : TypeId} (h : Has w b cs t) (n : Nat) : Has (w.drewN n) b cs t := h
set_option maxRecDepth 100000 in
theorem Has.kept {w w' : World} {b : Nat} {cs : List Value} {t : TypeId} {row : Option Nat} (h : Has w b cs t) (hg : w.grownBy w' row) (hne : some b ≠ row) : Has w' b cs t := by
  unfold Has at h ⊢
  rw [hg.block b (show b < w.heap.size from Has.lt (t := t) (cs := cs) h) hne, h]
set_option maxRecDepth 100000 in
theorem Has.new (w : World) (cs : List Value) (t : TypeId) : Has (w.alloc (.cells cs.toArray t)) w.heap.size cs t := by
  unfold Has
  exact heap_alloc_last w _
set_option maxRecDepth 100000 in
theorem Has.newA (w : World) (cs : Array Value) (t : TypeId) : Has (w.alloc (.cells cs t)) w.heap.size cs.toList t := by
  unfold Has
  exact heap_alloc_last w _

/-- vs laid over cs from o on -/
def over (cs : List Value) : Nat → List Value → List Value
  | _, [] => cs
  | o, v :: r => over (cs.set o v) (o + 1) r
set_option maxRecDepth 100000 in
theorem over_eq : ∀ (vs : List Value) (cs : List Value) (o : Nat), o + vs.length ≤ cs.length → over cs o vs = cs.take o ++ vs ++ cs.drop (o + vs.length)
  | [], cs, o, _ => by simp [over]
  | v :: r, cs, o, h => by
    simp at h
    rw [over, over_eq r _ _ (by simp <;> omega)]
    apply List.ext_getElem?
    intro i
    simp only [List.getElem?_append, List.getElem?_take, List.getElem?_drop, List.length_take, List.length_set, List.length_append, List.length_cons, List.getElem?_set, List.getElem?_cons]
    by_cases h1 : i < o
    · simp [show i < o + 1 by omega, h1, show ¬ o = i by omega, show i < min (o + 1) cs.length by omega, show i < min o cs.length by omega, show i < min (o + 1) cs.length + r.length by omega, show i < min o cs.length + (r.length + 1) by omega]
    · by_cases h2 : i = o
      · subst h2
        simp [show i < min (i + 1) cs.length by omega, show i < min (i + 1) cs.length + r.length by omega, show ¬ i < min i cs.length by omega, show i < min i cs.length + (r.length + 1) by omega, show i - min i cs.length = 0 by omega, show i < cs.length by omega]
      · by_cases h3 : i < o + 1 + r.length
        · simp [show ¬ i < min (o + 1) cs.length by omega, show i < min (o + 1) cs.length + r.length by omega, show ¬ i < min o cs.length by omega, show i < min o cs.length + (r.length + 1) by omega, show ¬ i - min o cs.length = 0 by omega]
          congr 1
          omega
        · simp [show ¬ i < min (o + 1) cs.length + r.length by omega, show ¬ i < min o cs.length + (r.length + 1) by omega, show ¬ o = o + 1 + r.length + (i - (min (o + 1) cs.length + r.length)) by omega]
          congr 1
          omega
set_option maxRecDepth 100000 in
theorem Has.setCells {t : TypeId} {b : Nat} : ∀ (vs : List Value) {w : World} {cs : List Value} (o : Nat), Has w b cs t → Has (w.setCells b o vs) b (over cs o vs) t
  | [], _, _, _, h => h
  | v :: r, _, _, o, h => Has.setCells r (o + 1) (h.setCell o v)
set_option maxRecDepth 100000 in
theorem Has.there {w : World} {b : Nat} {cs : List Value} {t : TypeId} (h : Has w b cs t) (o n : Nat) (hn : o + n ≤ cs.length) : w.there b o n := fun j hj => by
  refine ⟨?_, h.frozen _⟩
  rw [h.cell, List.getElem?_eq_getElem (by omega)]; rfl
set_option maxRecDepth 100000 in
theorem Has.rangeAt {w : World} {b : Nat} {cs : List Value} {t : TypeId} (h : Has w b cs t) (o n : Nat) : w.rangeAt b o ((cs.drop o).take n) := fun j v hv => by
  rw [h.cell]
  rw [List.getElem?_take] at hv
  split at hv
  · rw [List.getElem?_drop] at hv; exact hv
  · cases hv

set_option maxRecDepth 100000 in
theorem Has.range {w : World} {b : Nat} {cs : List Value} {t : TypeId} (h : Has w b cs t) : w.rangeAt b 0 cs := fun j v hv => by
  rw [h.cell, Nat.zero_add]; exact hv
set_option maxRecDepth 100000 in
theorem Has.rangeMid {w : World} {b : Nat} {cs : List Value} {t : TypeId} (h : Has w b cs t) (o : Nat) (a m c : List Value) (hc : cs = a ++ m ++ c) (ha : a.length = o) : w.rangeAt b o m := fun j v hv => by
  subst hc
  have hj : j < m.length := (List.getElem?_eq_some_iff.1 hv).1
  rw [h.cell, List.getElem?_append_left (by simp <;> omega), List.getElem?_append_right (by omega)]
  rw [← hv]; congr 1; omega
/-- all cells of a block stored at once -/
theorem Has.setAll {w : World} {b : Nat} {cs : List Value} {t : TypeId} (h : Has w b cs t) (vs : List Value) (hl : vs.length = cs.length) : Has (w.setCells b 0 vs) b vs t := by
  have := h.setCells vs 0
  rw [over_eq _ _ _ (by omega)] at this
  simpa [hl] using this

set_option maxRecDepth 100000 in
theorem results_cell {fn : Func} {p : Tmp} {ty : TypeId} (h : fn.results = #[.cell p ty]) (tmps : Array Value) (P : Program) (w : World) :
    (results fn tmps).run P w = ((asAddr (tmps.getD p undef)).run P w).andThen fun a w₁ => (loadVar ty a).run P w₁ := by
  simp only [results, h]
  simp [Sem.run_bind, Result.andThen]
set_option maxRecDepth 100000 in
theorem ret_cell {P : Program} {fn : Func} {R : Ending → World → Prop} {a : Act} {w : World} {p : Tmp} {ty t : TypeId} {b : Nat} {cs : List Value} {d : TypeDesc}
    (hr : fn.results = #[.cell p ty]) (hp : a.tmps.getD p undef = .pointer (some ⟨b, 0, none⟩)) (hh : Has w b cs t) (hu : P.underlying ty = some d) (hd : d.isRow = true)
    (hi : (P.info? ty).map (·.size) = some cs.length) (hdf : a.defers = []) (h : R (.returned (.agg cs.toArray)) w) : bodyPost P fn R .ret a w := by
  refine bodyPost_ret (v := .agg cs.toArray) ?_ hdf h
  rw [results_cell hr, hp]
  simp [asAddr, Result.andThen, run_loadVar_mid w b 0 ty cs d hh.range hu hd hi]

set_option maxRecDepth 100000 in
theorem gr_set (w : World) (b j : Nat) (v : Value) : w.grownBy (w.setCell ⟨b, j, none⟩ v) (some b) :=
  ⟨rfl, rfl, rfl, by simp [World.setCell], fun k _ hne => by
    simp only [World.setCell, Array.getElem?_modify]
    rw [if_neg (fun e => hne (by rw [e]))]⟩
set_option maxRecDepth 100000 in
theorem gr_sets (b : Nat) : ∀ (vs : List Value) (w : World) (o : Nat), w.grownBy (w.setCells b o vs) (some b)
  | [], w, _ => World.grownBy.refl w _
  | v :: r, w, o => (gr_set w b o v).trans (gr_sets b r _ (o + 1))
set_option maxRecDepth 100000 in
theorem gr_drewN (w : World) (n : Nat) (row : Option Nat) : w.grownBy (w.drewN n) row := ⟨rfl, rfl, rfl, Nat.le_refl _, fun _ _ _ => rfl⟩
/-- writing into what is new is writing into nothing old -/
theorem gr_new {w w1 w2 : World} {row : Option Nat} {b : Nat} (h : w.grownBy w1 row) (k : w1.grownBy w2 (some b)) (hb : w.heap.size ≤ b) : w.grownBy w2 row :=
  ⟨k.os.trans h.os, k.tape.trans h.tape, k.output.trans h.output, Nat.le_trans h.size k.size, fun i hi hne => by
    rw [k.block i (by have := h.size; omega) (by intro e; cases e; omega), h.block i hi hne]⟩

end Go.Proofs.YtldnpebnpbahjaaGreatDoor

namespace Go.Proofs.YtldnpebnpbahjaaGreatDoor
open Go Go.RowKit

set_option maxRecDepth 100000 in
theorem u8_shl (b : UInt8) (m : Nat) (p : Int) (hp : ((2 ^ m : Nat) : Int) = p) (hm : m ≤ 24) : (b.toNat : Int) * p = ((b.toUInt32 <<< UInt32.ofNat m).toNat : Int) := by
  have h := shl_gen b.toUInt32 m p hp (by omega)
  rw [← h, UInt8.toNat_toUInt32]
  subst hp
  have hb := b.toNat_lt
  have h2 : b.toNat * 2 ^ m < 4294967296 := by
    have : 2 ^ m ≤ 2 ^ 24 := Nat.pow_le_pow_right (by decide) hm
    calc b.toNat * 2 ^ m ≤ 255 * 2 ^ 24 := Nat.mul_le_mul (by omega) this
      _ < 4294967296 := by decide
  rw [← Int.natCast_mul]
  exact (Int.emod_eq_of_lt (by omega) (by omega)).symm
set_option maxRecDepth 100000 in
theorem word_eq (b0 b1 b2 b3 : UInt8) : bits .or .u32 (bits .or .u32 (bits .or .u32 ((b0.toNat : Int) * 16777216) ((b1.toNat : Int) * 65536)) ((b2.toNat : Int) * 256)) (b3.toNat : Int) = ((Sha.word4 b0 b1 b2 b3).toNat : Int) := by
  rw [u8_shl b0 24 _ (by decide) (by decide), u8_shl b1 16 _ (by decide) (by decide), u8_shl b2 8 _ (by decide) (by decide), b_or, b_or]
  have : (b3.toNat : Int) = (b3.toUInt32.toNat : Int) := by rw [UInt8.toNat_toUInt32]
  rw [this, b_or]; rfl

set_option maxRecDepth 100000 in
set_option maxHeartbeats 400000 in
theorem word_any (b0 b1 b2 b3 : UInt8) (B o n cap : Nat) (w : World) (hn : 4 ≤ n)
    (h0 : w.cell? ⟨B, o, none⟩ = some (.int .u8 b0.toNat)) (h1 : w.cell? ⟨B, o + 1, none⟩ = some (.int .u8 b1.toNat))
    (h2 : w.cell? ⟨B, o + 2, none⟩ = some (.int .u8 b2.toNat)) (h3 : w.cell? ⟨B, o + 3, none⟩ = some (.int .u8 b3.toNat)) :
    Calls Tryz.prog 207 #[.slice (some ⟨B, o, none⟩) n cap] w fun e w' => e = .returned (.int .u32 (Sha.word4 b0 b1 b2 b3).toNat) ∧ ∃ n, w' = w.drewN n := by
  have l0 := b0.toNat_lt
  have l1 := b1.toNat_lt
  have l2 := b2.toNat_lt
  have l3 := b3.toNat_lt
  go_enter Tryz.func207, Tryz.ntmps207
  go_wp2
  go_quiet (fail)
  go_wp2
  go_ret
  exact ⟨ret_int (word_eq _ _ _ _), _, rfl⟩

set_option maxRecDepth 100000 in
theorem byte0 (x : UInt32) : (x.toNat : Int) % (256 : Int) = (x.toUInt8.toNat : Int) := by
  rw [UInt32.toNat_toUInt8]; omega
set_option maxRecDepth 100000 in
theorem byte8 (x : UInt32) : (x.toNat : Int) / (256 : Int) % (256 : Int) = ((x >>> 8).toUInt8.toNat : Int) := by
  rw [← byte0, shr_gen x 8 256 (by decide) (by decide)]; rfl
set_option maxRecDepth 100000 in
theorem byte16 (x : UInt32) : (x.toNat : Int) / (65536 : Int) % (256 : Int) = ((x >>> 16).toUInt8.toNat : Int) := by
  rw [← byte0, shr_gen x 16 65536 (by decide) (by decide)]; rfl
set_option maxRecDepth 100000 in
theorem byte24 (x : UInt32) : (x.toNat : Int) / (16777216 : Int) = ((x >>> 24).toUInt8.toNat : Int) := by
  have := u_lt x
  have h := shr_gen x 24 16777216 (by decide) (by decide)
  rw [← byte0, show (x >>> 24) = x >>> UInt32.ofNat 24 from rfl, ← h]; omega

set_option maxRecDepth 100000 in
set_option maxHeartbeats 400000 in
theorem putWord_any (x : UInt32) (B o n cap : Nat) (cs : List Value) (t : TypeId) (w : World) (hn : 4 ≤ n) (ho : o + 4 ≤ cs.length) (hB : Has w B cs t) :
    Calls Tryz.prog 176 #[.slice (some ⟨B, o, none⟩) n cap, .int .u32 x.toNat] w fun e w' => e = .returned (.tuple #[]) ∧ w' = w.setCells B o ((Sha.w4 x).map bv) := by
  obtain ⟨x0, x1⟩ := u_lt x
  obtain ⟨v0, c0⟩ : ∃ v, w.cell? ⟨B, o, none⟩ = some v := ⟨_, by rw [hB.cell, List.getElem?_eq_getElem (by omega)]⟩
  obtain ⟨v1, c1⟩ : ∃ v, w.cell? ⟨B, o + 1, none⟩ = some v := ⟨_, by rw [hB.cell, List.getElem?_eq_getElem (by omega)]⟩
  obtain ⟨v2, c2⟩ : ∃ v, w.cell? ⟨B, o + 2, none⟩ = some v := ⟨_, by rw [hB.cell, List.getElem?_eq_getElem (by omega)]⟩
  obtain ⟨v3, c3⟩ : ∃ v, w.cell? ⟨B, o + 3, none⟩ = some v := ⟨_, by rw [hB.cell, List.getElem?_eq_getElem (by omega)]⟩
  have f0 := hB.frozen o
  have f1 := hB.frozen (o + 1)
  have f2 := hB.frozen (o + 2)
  have f3 := hB.frozen (o + 3)
  clear hB
  go_enter Tryz.func176, Tryz.ntmps176
  go_wp2
  go_end0
  refine ⟨rfl, ?_⟩
  rw [byte24 x, byte16 x, byte8 x, byte0 x]
  rfl

set_option maxRecDepth 100000 in
set_option maxHeartbeats 1000000 in
theorem turn_any (x : UInt32) (k : Nat) (w : World) (hk : k = 2 ∨ k = 6 ∨ k = 7 ∨ k = 11 ∨ k = 13 ∨ k = 17 ∨ k = 18 ∨ k = 19 ∨ k = 22 ∨ k = 25) :
    Calls Tryz.prog 244 #[.int .u32 x.toNat, .int .i64 k] w fun e w' => e = .returned (.int .u32 (Sha.rotr (UInt32.ofNat k) x).toNat) ∧ ∃ n, w' = w.drewN n := by
  obtain ⟨x0, x1⟩ := u_lt x
  rcases hk with rfl | rfl | rfl | rfl | rfl | rfl | rfl | rfl | rfl | rfl
  all_goals
    go_enter Tryz.func244, Tryz.ntmps244
    go_wp2
    go_quiet (fail)
    go_wp2
    go_ret
    exact ⟨ret_int (turn_gen x _ (32 - _) _ _ (by rfl) (by rfl) (by decide) rfl (by decide)), _, rfl⟩
end Go.Proofs.YtldnpebnpbahjaaGreatDoor

namespace Go.Proofs.YtldnpebnpbahjaaGreatDoor
open Go Go.RowKit

structure SRel (blk : List UInt8) (w w' : World) (k : Nat) : Prop where
  b : Has w' w.heap.size (blk.map bv) 111
  z : Has w' (w.heap.size + 1) ((List.replicate 64 (0 : UInt32)).map wv) 220
  l : Has w' (w.heap.size + 1 + 1) ((Sha.schedTo blk k).map wv) 220
  g : w.grownBy w' none

set_option maxRecDepth 100000 in
theorem heap1 (w : World) (o : Obj) : (w.alloc o).heap.size = w.heap.size + 1 := by simp
set_option maxRecDepth 100000 in
theorem heap2 (w : World) (o o' : Obj) : ((w.alloc o).alloc o').heap.size = w.heap.size + 1 + 1 := by simp
set_option maxRecDepth 100000 in
theorem heap3 (w : World) (o o' o'' : Obj) : (((w.alloc o).alloc o').alloc o'').heap.size = w.heap.size + 1 + 1 + 1 := by simp
set_option maxRecDepth 100000 in
theorem Has.new1 (w : World) (cs : List Value) (t : TypeId) (n : Nat) (h : w.heap.size = n) : Has (w.alloc (.cells cs.toArray t)) n cs t := h ▸ Has.new w cs t

set_option maxRecDepth 100000 in
theorem SRel.start (blk : List UInt8) (w : World) (A B C : Array Value) (hA : A = (blk.map bv).toArray) (hB : B = ((List.replicate 64 (0 : UInt32)).map wv).toArray) (hC : C = ((List.replicate 64 (0 : UInt32)).map wv).toArray) :
    SRel blk w (((w.alloc (.cells A 111)).alloc (.cells B 220)).alloc (.cells C 220)) 0 := by
  subst hA hB hC
  refine ⟨(((Has.new w _ 111).alloc _).alloc _), ?_, ?_, ?_⟩
  · exact (Has.new1 _ _ _ _ (heap1 _ _)).alloc _
  · exact (Has.new1 _ _ _ _ (heap2 _ _ _))
  · exact (World.grownBy_alloc _ _ _).trans ((World.grownBy_alloc _ _ _).trans (World.grownBy_alloc _ _ _))

set_option maxRecDepth 100000 in
theorem get_map {α : Type} (f : α → Value) (l : List α) (d : α) (j : Nat) (h : j < l.length) : (l.map f)[j]? = some (f (l.getD j d)) := by
  simp [List.getD, h]

set_option maxRecDepth 100000 in
theorem SRel.bcell {blk : List UInt8} {w w' : World} {k : Nat} (h : SRel blk w w' k) (hl : blk.length = 64) (j : Nat) (hj : j < 64) : w'.cell? ⟨w.heap.size, j, none⟩ = some (.int .u8 (blk.getD j 0).toNat) :=
  h.b.cellv _ _ (get_map bv blk 0 j (by omega))
set_option maxRecDepth 100000 in
theorem SRel.lcell {blk : List UInt8} {w w' : World} {k : Nat} (h : SRel blk w w' k) (j : Nat) (hj : j < 64) : w'.cell? ⟨w.heap.size + 1 + 1, j, none⟩ = some (.int .u32 ((Sha.schedTo blk k).getD j 0).toNat) :=
  h.l.cellv _ _ (get_map wv _ 0 j (by rw [Sha.schedTo_len]; omega))
set_option maxRecDepth 100000 in
theorem SRel.drewN {blk : List UInt8} {w w' : World} {k : Nat} (h : SRel blk w w' k) (n : Nat) : SRel blk w (w'.drewN n) k :=
  ⟨h.b, h.z, h.l, h.g.trans (gr_drewN _ _ _)⟩
set_option maxRecDepth 100000 in
theorem SRel.step {blk : List UInt8} {w w' : World} {k : Nat} (h : SRel blk w w' k) (v : Value) (hv : v = wv (Sha.wval blk (Sha.schedTo blk k) k)) : SRel blk w (w'.setCell ⟨w.heap.size + 1 + 1, k, none⟩ v) (k + 1) := by
  subst hv
  refine ⟨h.b.other _ _ (by simp <;> omega), h.z.other _ _ (by simp), ?_, gr_new h.g (gr_set _ _ _ _) (by omega)⟩
  have := h.l.setCell k (wv (Sha.wval blk (Sha.schedTo blk k) k))
  rw [Sha.schedTo, List.map_set]
  exact this

set_option maxRecDepth 100000 in
theorem add_eq (x y : UInt32) : IntKind.u32.wrap ((x.toNat : Int) + (y.toNat : Int)) = ((x + y).toNat : Int) := by
  rw [← b_add]; rfl
set_option maxRecDepth 100000 in
theorem under41 : Tryz.prog.underlying 111 = some (.array 64 5) := by kernel_rfl
set_option maxRecDepth 100000 in
theorem under50 : Tryz.prog.underlying 220 = some (.array 64 179) := by kernel_rfl
set_option maxRecDepth 100000 in
theorem size50 : (Tryz.prog.info? 220).map (·.size) = some 64 := by kernel_rfl
set_option maxRecDepth 100000 in
theorem slice41 (k : IntKind) (b o : Nat) (l : Int) (n : Nat) (hl : l = n) (hn : n < 64) (W : World) :
    (Instr.sliceAt 111 (.pointer (some ⟨b, o, none⟩)) (some (.int k l)) none none).run Tryz.prog W = .ok (.slice (some ⟨b, o + n, none⟩) (64 - n) (64 - n)) W := by
  subst hl
  have e : (⟨b, o, none⟩ : Addr).add n = ⟨b, o + n, none⟩ := Addr.add_mid b o n
  have z : (sizeOf (Tryz.prog.elem 111)).run Tryz.prog W = .ok 1 W := by kernel_rfl
  have l : Tryz.prog.arrayLen 111 = 64 := by kernel_rfl
  rw [run_sliceAt_array_l W 111 _ (by kernel_rfl) k n (by omega) (by rw [l]; omega), z, l]
  simp only [Result.andThen, slicedAt, Int.toNat_natCast, Nat.mul_one, e]
  rw [if_neg (by omega)]

set_option maxRecDepth 100000 in
set_option maxHeartbeats 8000000 in
theorem schedule_any (blk : List UInt8) (A : Array Value) (w : World) (hA : Hid (A = (blk.map bv).toArray)) (hl : blk.length = 64) :
    Calls Tryz.prog 177 #[.agg A] w fun e w' => e = .returned (.agg ((Sha.sched blk).map wv).toArray) ∧ w.grownBy w' none := by
  go_enter Tryz.func177, Tryz.ntmps177
  go_wp2
  go_loopw [6] (fun i w' => ∃ k : Nat, k ≤ 16 ∧ i = .int .i64 k ∧ Hid (SRel blk w w' k)) (fun i _ => 16 - (intOf i).toNat)
  case atStart => exact ⟨0, by omega, rfl, SRel.start blk w _ _ _ hA.out rfl rfl⟩
  case round =>
    obtain ⟨k, hk, rfl, hrel⟩ := hrel
    by_cases hlt : k < 16
    · have hs := slice41 .i64 w.heap.size 0 (4 * (k : Int)) (4 * k) (by omega) (by omega)
      have hc := hrel.out.lcell k (by omega)
      have hf := hrel.out.l.frozen k
      go_wp2_with (go_at_call 207; refine (word_any _ _ _ _ _ _ _ _ _ (by omega) (hrel.out.bcell hl _ (by omega)) (hrel.out.bcell hl _ (by omega)) (hrel.out.bcell hl _ (by omega)) (hrel.out.bcell hl _ (by omega))).mono ?_; rintro e w1 ⟨rfl, n1, rfl⟩)
      go_roundw
      case rel => exact ⟨k + 1, by omega, by go_num, (hrel.out.drewN _).step _ (by rw [Sha.wval, if_pos hlt]; rfl)⟩
      case measure => simp [intOf]; omega
    · have hrel0 : Hid (SRel blk w wr 16) := by
        have hk16 : k = 16 := by omega
        rw [← hk16]; exact hrel
      go_wp2_with fail
      clear hrel
      generalize (Value.int .i64 (k : Int)) = K6
      clear hk hlt
      go_loopw [5] (fun i w' => ∃ k : Nat, k ≤ 48 ∧ i = .int .i64 (k + 16) ∧ Hid (SRel blk w w' (k + 16))) (fun i _ => 64 - (intOf i).toNat)
      case atStart => exact ⟨0, by omega, rfl, hrel0⟩
      case round =>
        obtain ⟨k, hk, rfl, hrel2⟩ := hrel
        clear hrel0
        by_cases hlt : k < 48
        · have hc := hrel2.out.lcell (k + 16) (by omega)
          have hf := hrel2.out.l.frozen (k + 16)
          obtain ⟨y2, hy2⟩ : ∃ y, (Sha.schedTo blk (k + 16)).getD (k + 14) 0 = y := ⟨_, rfl⟩
          obtain ⟨y7, hy7⟩ : ∃ y, (Sha.schedTo blk (k + 16)).getD (k + 9) 0 = y := ⟨_, rfl⟩
          obtain ⟨y15, hy15⟩ : ∃ y, (Sha.schedTo blk (k + 16)).getD (k + 1) 0 = y := ⟨_, rfl⟩
          obtain ⟨y16, hy16⟩ : ∃ y, (Sha.schedTo blk (k + 16)).getD k 0 = y := ⟨_, rfl⟩
          have c2 := hrel2.out.lcell (k + 14) (by omega)
          have c7 := hrel2.out.lcell (k + 9) (by omega)
          have c15 := hrel2.out.lcell (k + 1) (by omega)
          have c16 := hrel2.out.lcell k (by omega)
          rw [hy2] at c2
          rw [hy7] at c7
          rw [hy15] at c15
          rw [hy16] at c16
          have HV : Hid (Sha.wval blk (Sha.schedTo blk (k + 16)) (k + 16) = Sha.ss1 y2 + y7 + Sha.ss0 y15 + y16) := by
            show Sha.wval _ _ _ = _
            rw [Sha.wval, if_neg (by omega), show k + 16 - 2 = k + 14 by omega, show k + 16 - 7 = k + 9 by omega, show k + 16 - 15 = k + 1 by omega, show k + 16 - 16 = k by omega, hy2, hy7, hy15, hy16]
          clear hy2 hy7 hy15 hy16
          have i0 : (0 : Int) ≤ (k : Int) := by omega
          have i1 : (k : Int) < 48 := by omega
          have x2 : IntKind.i64.wrap ((k : Int) + 16 - 2) = (k : Int) + 14 := by rw [IntWalk.i64_in _ (by omega)]; omega
          have p2 : (0 : Int) ≤ (k : Int) + 14 := by omega
          have q2 : (k : Int) + 14 < 64 := by omega
          have r2 : ((k : Int) + 14).toNat = k + 14 := by omega
          have x7 : IntKind.i64.wrap ((k : Int) + 16 - 7) = (k : Int) + 9 := by rw [IntWalk.i64_in _ (by omega)]; omega
          have p7 : (0 : Int) ≤ (k : Int) + 9 := by omega
          have q7 : (k : Int) + 9 < 64 := by omega
          have r7 : ((k : Int) + 9).toNat = k + 9 := by omega
          have x15 : IntKind.i64.wrap ((k : Int) + 16 - 15) = (k : Int) + 1 := by rw [IntWalk.i64_in _ (by omega)]; omega
          have p15 : (0 : Int) ≤ (k : Int) + 1 := by omega
          have q15 : (k : Int) + 1 < 64 := by omega
          have r15 : ((k : Int) + 1).toNat = k + 1 := by omega
          have x16 : IntKind.i64.wrap (k : Int) = (k : Int) := IntWalk.i64_in _ (by omega)
          have p16 : (0 : Int) ≤ (k : Int) := by omega
          have q16 : (k : Int) < 64 := by omega
          have p0 : (0 : Int) ≤ (k : Int) + 16 := by omega
          have q0 : (k : Int) + 16 < 64 := by omega
          have r0 : ((k : Int) + 16).toNat = k + 16 := by omega
          go_wp2_with fail
          go_region_held (fun w' => w'.cell? ⟨w.heap.size + 1 + 1, k + 14, none⟩ = some (.int .u32 y2.toNat) ∧ w'.cell? ⟨w.heap.size + 1 + 1, k + 9, none⟩ = some (.int .u32 y7.toNat) ∧ w'.cell? ⟨w.heap.size + 1 + 1, k + 1, none⟩ = some (.int .u32 y15.toNat) ∧ w'.cell? ⟨w.heap.size + 1 + 1, k, none⟩ = some (.int .u32 y16.toNat)) (simp [*, World.cell?_setCell_other])
            (first | (go_at_call 208; refine (ss1_any _ _).mono ?_; rintro e w' ⟨rfl, rfl⟩) | (go_at_call 209; refine (ss0_any _ _).mono ?_; rintro e w' ⟨rfl, rfl⟩))
          go_wp2
          go_roundw
          case rel => exact ⟨k + 1, by omega, by go_num, by rw [show k + 1 + 16 = k + 16 + 1 by omega]; exact (hrel2.out.step _ (by rw [HV.out, b_add, b_add, b_add])).drewN 1⟩
          case measure => simp [intOf]; omega
        · have hrel3 : Hid (SRel blk w wr 64) := by
            have hk48 : k + 16 = 64 := by omega
            rw [← hk48]; exact hrel2
          clear hrel2
          have hlen := Sha.schedTo_len blk 64
          have hb : Has wr (w.heap.size + 1 + 1) ((Sha.sched blk).map wv) 220 := hrel3.out.l
          have hz := hrel3.out.z
          have hg := hrel3.out.g
          clear hrel3
          rw [← Sha.sched] at hlen
          obtain ⟨L, hLq⟩ : ∃ L, Sha.sched blk = L := ⟨_, rfl⟩
          rw [hLq] at hlen hb
          have HQ : Keep (Sha.sched blk = L) := ⟨hLq⟩
          clear hLq
          have HB : Hid (Has wr (w.heap.size + 1 + 1) (L.map wv) 220) := hb
          have HZ : Hid (Has wr (w.heap.size + 1) ((List.replicate 64 (0 : UInt32)).map wv) 220) := hz
          have HG : Hid (w.grownBy wr none) := hg
          have HL : Hid (L.length = 64) := hlen
          clear hb hz hg hlen
          have HI : Hid ((Tryz.prog.info? 220).map (·.size) = some (L.map wv).length) := by
            show (Tryz.prog.info? 220).map (·.size) = some (L.map wv).length
            rw [List.length_map, HL.out]; exact size50
          have HE : Hid (Has (wr.setCells (w.heap.size + 1) 0 (L.map wv)) (w.heap.size + 1) (L.map wv) 220 ∧ w.grownBy (wr.setCells (w.heap.size + 1) 0 (L.map wv)) none) :=
            ⟨HZ.out.setAll _ (by simp [HL.out]), gr_new HG.out (gr_sets _ _ _ _) (by omega)⟩
          go_wp2_with (first
            | (refine wpList_load_mid rfl 220 _ rfl _ _ rfl _ _ HB.out.range under50 rfl HI.out ?_)
            | (refine wpList_store_mid rfl 220 _ _ rfl _ _ _ rfl rfl (HZ.out.there _ _ (by simp [HL.out])) HI.out (all_oneCell_toArray (by simp [Value.oneCell'])) ?_))
          refine ret_cell (b := w.heap.size + 1) (cs := L.map wv) (t := 220) rfl rfl ?_ under50 rfl HI.out rfl ⟨by rw [HQ.out], ?_⟩
          · exact HE.out.1
          · exact HE.out.2
end Go.Proofs.YtldnpebnpbahjaaGreatDoor

namespace Go.Proofs.YtldnpebnpbahjaaGreatDoor
open Go Go.RowKit

def hcs (ws : List UInt32) (blk : List UInt8) (len : Nat) : List Value := ws.map wv ++ blk.map bv ++ [.int .u64 len]
/-- the round constants lie where they lie -/
def Kc (w : World) : Prop := ∀ j, j < 64 → w.cell? ⟨1, j, none⟩ = some (.int .u32 (Sha.ks.getD j 0).toNat)
set_option maxRecDepth 100000 in
theorem Kc.lt {w : World} (h : Kc w) : 1 < w.heap.size := World.block_lt_of_cell? w _ (h 0 (by decide))
set_option maxRecDepth 100000 in
theorem Kc.kept {w w' : World} {row : Option Nat} (h : Kc w) (hg : w.grownBy w' row) (hne : some 1 ≠ row) : Kc w' := fun j hj => by
  exact hg.cell (h j hj) hne

set_option maxRecDepth 100000 in
theorem hcs_word (ws : List UInt32) (blk : List UInt8) (len : Nat) (h8 : ws.length = 8) (j : Nat) (hj : j < 8) : (hcs ws blk len)[j]? = some (wv (ws.getD j 0)) := by
  unfold hcs
  rw [List.append_assoc, List.getElem?_append_left (by simp <;> omega)]
  exact get_map wv ws 0 j (by omega)
set_option maxRecDepth 100000 in
theorem hcs_len (ws : List UInt32) (blk : List UInt8) (len : Nat) (h8 : ws.length = 8) (h64 : blk.length = 64) : (hcs ws blk len)[72]? = some (.int .u64 len) := by
  unfold hcs
  rw [List.getElem?_append_right (by simp <;> omega)]
  simp [h8, h64]
set_option maxRecDepth 100000 in
theorem hcs_length (ws : List UInt32) (blk : List UInt8) (len : Nat) (h8 : ws.length = 8) (h64 : blk.length = 64) : (hcs ws blk len).length = 73 := by
  simp [hcs, h8, h64]
set_option maxRecDepth 100000 in
theorem hcs_setw (ws : List UInt32) (blk : List UInt8) (len : Nat) (h8 : ws.length = 8) (j : Nat) (hj : j < 8) (x : UInt32) : (hcs ws blk len).set j (wv x) = hcs (ws.set j x) blk len := by
  unfold hcs
  rw [List.append_assoc, List.set_append_left _ _ (by simp <;> omega), List.map_set, List.append_assoc]
set_option maxRecDepth 100000 in
theorem hcs_setl (ws : List UInt32) (blk : List UInt8) (len n : Nat) (h8 : ws.length = 8) (h64 : blk.length = 64) : (hcs ws blk len).set 72 (.int .u64 n) = hcs ws blk n := by
  unfold hcs
  rw [List.set_append_right _ _ (by simp <;> omega)]
  simp [h8, h64]

set_option maxRecDepth 100000 in
theorem size41 : (Tryz.prog.info? 111).map (·.size) = some 64 := by kernel_rfl

set_option maxRecDepth 100000 in
theorem not_eq (e : UInt32) : bits .xor .u32 (if IntKind.u32.signed = true then -1 else IntKind.u32.max) (e.toNat : Int) = ((~~~ e).toNat : Int) := by
  have h : (if IntKind.u32.signed = true then -1 else IntKind.u32.max) = (((4294967295 : UInt32).toNat : Nat) : Int) := by decide
  rw [h, b_xor]
  congr 2
set_option maxRecDepth 100000 in
theorem add5 (a b c d e : UInt32) : ((a.toNat : Int) + b.toNat + c.toNat + d.toNat + e.toNat) % (4294967296 : Int) = ((a + b + c + d + e).toNat : Int) := by
  simp only [UInt32.toNat_add]; omega
set_option maxRecDepth 100000 in
theorem add2 (a b : UInt32) : ((a.toNat : Int) + b.toNat) % (4294967296 : Int) = ((a + b).toNat : Int) := by
  simp only [UInt32.toNat_add]; omega
set_option maxRecDepth 100000 in
theorem x_eq (L : List UInt32) (st : Sha.St) (k : Nat) (kk ll : UInt32) (h1 : Sha.ks.getD k 0 = kk) (h2 : L.getD k 0 = ll) :
    ((st.h.toNat : Int) + (Sha.bs1 st.e).toNat + bits .xor .u32 (bits .and .u32 (st.e.toNat : Int) (st.f.toNat : Int)) (bits .and .u32 (bits .xor .u32 (if IntKind.u32.signed = true then -1 else IntKind.u32.max) (st.e.toNat : Int)) (st.g.toNat : Int)) + kk.toNat + ll.toNat) % (4294967296 : Int) = ((Sha.xval L st k).toNat : Int) := by
  rw [not_eq, b_and, b_and, b_xor, add5, Sha.xval, h1, h2]
set_option maxRecDepth 100000 in
theorem y_eq (st : Sha.St) : (((Sha.bs0 st.a).toNat : Int) + bits .xor .u32 (bits .xor .u32 (bits .and .u32 (st.a.toNat : Int) (st.b.toNat : Int)) (bits .and .u32 (st.a.toNat : Int) (st.c.toNat : Int))) (bits .and .u32 (st.b.toNat : Int) (st.c.toNat : Int))) % (4294967296 : Int) = ((Sha.yval st).toNat : Int) := by
  rw [b_and, b_and, b_and, b_xor, b_xor, add2, Sha.yval]
set_option maxRecDepth 100000 in
theorem int_eq {k : IntKind} {a b : Int} (h : a = b) : Value.int k a = Value.int k b := by rw [h]

set_option maxRecDepth 100000 in
theorem index40 (st : Sha.St) (W : World) : ∀ i : Nat, i < 8 →
    (Instr.index 180 (.agg #[.int .u32 st.a.toNat, .int .u32 st.b.toNat, .int .u32 st.c.toNat, .int .u32 st.d.toNat, .int .u32 st.e.toNat, .int .u32 st.f.toNat, .int .u32 st.g.toNat, .int .u32 st.h.toNat]) (.int .i64 (i : Int))).run Tryz.prog W = .ok (.int .u32 ((Sha.stList st).getD i 0).toNat) W
  | 0, _ => by kernel_rfl
  | 1, _ => by kernel_rfl
  | 2, _ => by kernel_rfl
  | 3, _ => by kernel_rfl
  | 4, _ => by kernel_rfl
  | 5, _ => by kernel_rfl
  | 6, _ => by kernel_rfl
  | 7, _ => by kernel_rfl
  | n + 8, h => by omega

set_option maxRecDepth 100000 in
theorem new_row (w w1 : World) (L : List UInt32) (C : Array Value) (hC : C.size = 64) (hL : L.length = 64) (hg : w.grownBy w1 none) (w2 : World) (h2 : (w1.alloc (.cells C 220)).setCells w1.heap.size 0 (L.map wv) = w2) :
    Has w2 w1.heap.size (L.map wv) 220 ∧ w.grownBy w2 none := by
  subst h2
  refine ⟨(Has.newA w1 C 220).setAll _ (by simp [hC, hL]), ?_⟩
  exact gr_new (hg.trans (World.grownBy_alloc _ _ _)) (gr_sets _ _ _ _) hg.size
set_option maxRecDepth 100000 in
set_option maxHeartbeats 8000000 in
theorem mix_any (ws : List UInt32) (blk : List UInt8) (len b : Nat) (w : World) (h8 : ws.length = 8) (h64 : blk.length = 64) (hb : Has w b (hcs ws blk len) 182) (hk : Kc w) :
    Calls Tryz.prog 129 #[.pointer (some ⟨b, 0, none⟩)] w fun e w' => e = .returned (.tuple #[]) ∧ Has w' b (hcs (Sha.mixW ws blk) blk len) 182 ∧ w.grownBy w' (some b) := by
  have HB : Keep (Has w b (hcs ws blk len) 182) := ⟨hb⟩
  have HK : Keep (Kc w) := ⟨hk⟩
  have HL : Keep (blk.length = 64) := ⟨h64⟩
  have HW : Keep (ws.length = 8) := ⟨h8⟩
  clear hb hk h64 h8
  go_enter Tryz.func129, Tryz.ntmps129
  go_wp2_with (first
    | (refine wpList_load_mid rfl 111 _ rfl _ _ rfl _ _ (HB.out.rangeMid 8 (ws.map wv) (blk.map bv) [.int .u64 len] rfl (by simp [HW.out])) under41 rfl (by rw [List.length_map, HL.out]; exact size41) ?_)
    | (go_at_call 177; refine (schedule_any blk _ _ rfl HL.out).mono ?_; rintro e w1 ⟨rfl, hg1⟩; generalize hLq : Sha.sched blk = L; have HQ : Keep (Sha.sched blk = L) := ⟨hLq⟩; clear hLq; have HG1 : Keep (w.grownBy w1 none) := ⟨hg1⟩; clear hg1; have HLL : Keep (L.length = 64) := ⟨by rw [← HQ.out]; exact Sha.schedTo_len blk 64⟩)
    | (refine wpList_store_mid rfl 220 _ _ rfl _ _ _ rfl rfl ((Has.newA w1 _ 220).there 0 _ (by rw [List.size_toArray, List.length_map, HLL.out]; decide)) (by rw [List.size_toArray, List.length_map, HLL.out]; exact size50) (all_oneCell_toArray (by simp [Value.oneCell'])) ?_
       generalize hw2 : World.setCells _ _ _ _ = w2
       have H2 : Keep (Has w2 w1.heap.size (L.map wv) 220 ∧ w.grownBy w2 none) := ⟨new_row w w1 L _ rfl HLL.out HG1.out w2 hw2⟩
       clear hw2))
  have HB2 : Keep (Has w2 b (hcs ws blk len) 182) := ⟨HB.out.kept H2.out.2 (by simp)⟩
  have HK2 : Keep (Kc w2) := ⟨HK.out.kept H2.out.2 (by simp)⟩
  obtain ⟨s, hs⟩ : ∃ s, Sha.stOf ws = s := ⟨_, rfl⟩
  have HS : Keep (Sha.stOf ws = s) := ⟨hs⟩
  have c0 : w2.cell? ⟨b, 0, none⟩ = some (.int .u32 s.a.toNat) := by rw [← hs]; exact HB2.out.cellv _ _ (hcs_word ws blk len HW.out 0 (by decide))
  have c1 : w2.cell? ⟨b, 1, none⟩ = some (.int .u32 s.b.toNat) := by rw [← hs]; exact HB2.out.cellv _ _ (hcs_word ws blk len HW.out 1 (by decide))
  have c2 : w2.cell? ⟨b, 2, none⟩ = some (.int .u32 s.c.toNat) := by rw [← hs]; exact HB2.out.cellv _ _ (hcs_word ws blk len HW.out 2 (by decide))
  have c3 : w2.cell? ⟨b, 3, none⟩ = some (.int .u32 s.d.toNat) := by rw [← hs]; exact HB2.out.cellv _ _ (hcs_word ws blk len HW.out 3 (by decide))
  have c4 : w2.cell? ⟨b, 4, none⟩ = some (.int .u32 s.e.toNat) := by rw [← hs]; exact HB2.out.cellv _ _ (hcs_word ws blk len HW.out 4 (by decide))
  have c5 : w2.cell? ⟨b, 5, none⟩ = some (.int .u32 s.f.toNat) := by rw [← hs]; exact HB2.out.cellv _ _ (hcs_word ws blk len HW.out 5 (by decide))
  have c6 : w2.cell? ⟨b, 6, none⟩ = some (.int .u32 s.g.toNat) := by rw [← hs]; exact HB2.out.cellv _ _ (hcs_word ws blk len HW.out 6 (by decide))
  have c7 : w2.cell? ⟨b, 7, none⟩ = some (.int .u32 s.h.toNat) := by rw [← hs]; exact HB2.out.cellv _ _ (hcs_word ws blk len HW.out 7 (by decide))
  clear hs
  simp only [Act.put]
  go_quiet (fail)
  go_wp2
  go_quiet (fail)
  go_wp2
  go_loopw [3, 4, 5, 6, 7, 8, 9, 10, 61] (fun v3 v4 v5 v6 v7 v8 v9 v10 t w' => ∃ (k : Nat) (st : Sha.St), k ≤ 64 ∧ t = .int .i64 k ∧ Keep (∃ n, w' = w2.drewN n) ∧ Keep (Sha.rndTo L s k = st) ∧ v3 = .int .u32 st.a.toNat ∧ v4 = .int .u32 st.b.toNat ∧ v5 = .int .u32 st.c.toNat ∧ v6 = .int .u32 st.d.toNat ∧ v7 = .int .u32 st.e.toNat ∧ v8 = .int .u32 st.f.toNat ∧ v9 = .int .u32 st.g.toNat ∧ v10 = .int .u32 st.h.toNat) (fun _ _ _ _ _ _ _ _ t _ => 64 - (intOf t).toNat)
  case atStart => exact ⟨0, s, by omega, rfl, ⟨_, World.drewN_drewN _ _ _⟩, ⟨rfl⟩, rfl, rfl, rfl, rfl, rfl, rfl, rfl, rfl⟩
  case round =>
    obtain ⟨k, st, hk, rfl, hwr, hst, rfl, rfl, rfl, rfl, rfl, rfl, rfl, rfl⟩ := hrel
    by_cases hlt : k < 64
    · obtain ⟨kk, hkk⟩ : ∃ x, Sha.ks.getD k 0 = x := ⟨_, rfl⟩
      obtain ⟨ll, hll⟩ : ∃ x, L.getD k 0 = x := ⟨_, rfl⟩
      have d0 : wr.cell? ⟨1, k, none⟩ = some (.int .u32 kk.toNat) := by obtain ⟨n, e⟩ := hwr.out; rw [← hkk, e]; exact HK2.out k hlt
      have d1 : wr.cell? ⟨w1.heap.size, k, none⟩ = some (.int .u32 ll.toNat) := by obtain ⟨n, e⟩ := hwr.out; rw [← hll, e]; exact H2.out.1.cellv _ _ (get_map wv L 0 k (by rw [HLL.out]; omega))
      have HKK : Keep (Sha.ks.getD k 0 = kk) := ⟨hkk⟩
      have HL2 : Keep (L.getD k 0 = ll) := ⟨hll⟩
      clear hkk hll
      go_wp2
      go_quiet ((go_at_call 178; exact Calls.quiet_of_same (bs1_any _ _)))
      go_wp2_with (go_at_call 179; refine (bs0_any _ _).mono ?_; rintro e w' ⟨rfl, rfl⟩)
      have hx := x_eq L st k kk ll HKK.out HL2.out
      have hy := y_eq st
      refine ⟨⟨k + 1, Sha.rnd L st k, by omega, by go_num, ⟨by obtain ⟨n, e⟩ := hwr.out; exact ⟨_, by rw [e, World.drewN_drewN]⟩⟩, ⟨by rw [Sha.rndTo, hst.out]⟩, int_eq ?_, rfl, rfl, rfl, int_eq ?_, rfl, rfl, rfl⟩, ?_⟩
      · rw [hx, hy, add2]; rfl
      · rw [hx, add2]; rfl
      · simp [intOf]; omega
    · have hk64 : k = 64 := by omega
      have HST : Keep (Sha.rndTo L s 64 = st) := ⟨by rw [← hk64]; exact hst.out⟩
      have HR : Keep (Has wr b (hcs ws blk len) 182 ∧ w.grownBy wr (some b)) := ⟨by
        obtain ⟨n, e⟩ := hwr.out
        rw [e]
        exact ⟨HB2.out, (H2.out.2.trans (gr_drewN _ _ _)).but _⟩⟩
      clear hst
      go_wp2
      go_loopw [121] (fun t w' => ∃ i : Nat, i ≤ 8 ∧ t = .int .i64 i ∧ Keep (Has w' b (hcs (Sha.addTo ws (Sha.stList st) i) blk len) 182 ∧ w.grownBy w' (some b))) (fun t _ => 8 - (intOf t).toNat)
      case atStart => exact ⟨0, by omega, rfl, HR⟩
      case round =>
        obtain ⟨i, hi, rfl, hrel2⟩ := hrel
        by_cases hli : i < 8
        · have hx := fun W => index40 st W i hli
          obtain ⟨y, hy⟩ : ∃ y, (Sha.stList st).getD i 0 = y := ⟨_, rfl⟩
          obtain ⟨z, hz⟩ : ∃ z, (Sha.addTo ws (Sha.stList st) i).getD i 0 = z := ⟨_, rfl⟩
          rw [hy] at hx
          have hc : wr.cell? ⟨b, i, none⟩ = some (.int .u32 z.toNat) := by rw [← hz]; exact hrel2.out.1.cellv _ _ (hcs_word _ blk len (by rw [Sha.addTo_len, HW.out]) i hli)
          have hf := hrel2.out.1.frozen i
          have HY : Keep ((Sha.stList st).getD i 0 = y) := ⟨hy⟩
          have HZ : Keep ((Sha.addTo ws (Sha.stList st) i).getD i 0 = z) := ⟨hz⟩
          have hli' : (i : Int) < 8 := by omega
          clear hy hz
          go_wp2
          go_region
          all_goals go_wp2
          refine ⟨⟨i + 1, by omega, by go_num, ⟨?_, ?_⟩⟩, ?_⟩
          · have := hrel2.out.1.setCell i (wv (z + y))
            rw [hcs_setw _ blk len (by rw [Sha.addTo_len, HW.out]) i hli] at this
            rw [add2, Sha.addTo, HZ.out, HY.out]
            exact this
          · exact (hrel2.out.2.trans (gr_set _ _ _ _)).trans (gr_drewN _ 1 _)
          · simp [intOf]; omega
        · have hi8 : i = 8 := by omega
          have HF : Keep (Has wr b (hcs (Sha.mixW ws blk) blk len) 182 ∧ w.grownBy wr (some b)) := ⟨by
            have h := hrel2.out
            rw [hi8] at h
            rw [Sha.mixW, HQ.out, HS.out, HST.out]
            exact h⟩
          go_wp2
          go_end0
          exact ⟨rfl, HF.out⟩
end Go.Proofs.YtldnpebnpbahjaaGreatDoor

namespace Go.Proofs.YtldnpebnpbahjaaGreatDoor
namespace Sha

/-- what the words and the block say of the text T that was written -/
def HP (T : List UInt8) (ws : List UInt32) (blk : List UInt8) : Prop :=
  ws = fold iv T ∧ blk.length = 64 ∧ blk.take (T.length % 64) = T.drop (64 * (T.length / 64))

def padW (ws : List UInt32) (tail : List UInt8) (len : Nat) : List UInt32 :=
  if tail.length < 56 then mixW ws (tail ++ 128 :: List.replicate (55 - tail.length) 0 ++ len8 len)
  else mixW (mixW ws (tail ++ 128 :: List.replicate (63 - tail.length) 0)) (List.replicate 56 0 ++ len8 len)

set_option maxRecDepth 100000 in
theorem fold_split (ws : List UInt32) (T U : List UInt8) : fold ws (T ++ U) = fold (fold ws T) (T.drop (64 * (T.length / 64)) ++ U) := by
  have e : T = T.take (64 * (T.length / 64)) ++ T.drop (64 * (T.length / 64)) := (List.take_append_drop _ _).symm
  have l : (T.take (64 * (T.length / 64))).length = 64 * (T.length / 64) := by rw [List.length_take]; omega
  have d : (T.drop (64 * (T.length / 64))).length < 64 := by rw [List.length_drop]; omega
  have f1 : fold ws T = foldN (T.length / 64) ws (T.take (64 * (T.length / 64))) := by
    have := foldN_append _ ws _ (T.drop (64 * (T.length / 64))) l
    rw [← e, fold_short _ _ d] at this
    exact this
  rw [f1, ← foldN_append _ ws _ _ l, ← List.append_assoc, ← e]

set_option maxRecDepth 100000 in
theorem fold_one (ws : List UInt32) (b : List UInt8) (h : b.length = 64) : fold ws b = mixW ws b := by
  have := fold_block ws b [] h
  rwa [List.append_nil, fold_short _ [] (by simp)] at this

set_option maxRecDepth 100000 in
theorem w4_len (x : UInt32) : (w4 x).length = 4 := rfl
set_option maxRecDepth 100000 in
theorem len8_len (n : Nat) : (len8 n).length = 8 := rfl

set_option maxRecDepth 100000 in
theorem HP.start : HP [] iv (List.replicate 64 0) := ⟨(fold_short _ _ (by simp)).symm, by simp, by simp⟩

set_option maxRecDepth 100000 in
theorem drop_len (T : List UInt8) : (T.drop (64 * (T.length / 64))).length = T.length % 64 := by rw [List.length_drop]; omega

set_option maxRecDepth 100000 in
theorem HP.part {T : List UInt8} {ws : List UInt32} {blk : List UInt8} (h : HP T ws blk) (q : List UInt8) (hq : T.length % 64 + q.length < 64) :
    HP (T ++ q) ws (blk.take (T.length % 64) ++ q ++ blk.drop (T.length % 64 + q.length)) := by
  obtain ⟨h1, h2, h3⟩ := h
  have e1 : (T ++ q).length % 64 = T.length % 64 + q.length := by rw [List.length_append]; omega
  have e2 : (T ++ q).length / 64 = T.length / 64 := by rw [List.length_append]; omega
  refine ⟨?_, ?_, ?_⟩
  · rw [fold_split, ← h1, fold_short]
    rw [List.length_append, drop_len]; omega
  · simp only [List.length_append, List.length_take, List.length_drop, h2]; omega
  · rw [e1, e2, h3, List.take_append_of_le_length (by simp only [List.length_append, drop_len]; omega), List.take_of_length_le (by simp only [List.length_append, drop_len]; omega),
      List.drop_append_of_le_length (by omega)]

set_option maxRecDepth 100000 in
theorem HP.full {T : List UInt8} {ws : List UInt32} {blk : List UInt8} (h : HP T ws blk) (q : List UInt8) (hq : T.length % 64 + q.length = 64) :
    HP (T ++ q) (mixW ws (blk.take (T.length % 64) ++ q ++ blk.drop (T.length % 64 + q.length))) (blk.take (T.length % 64) ++ q ++ blk.drop (T.length % 64 + q.length)) := by
  obtain ⟨h1, h2, h3⟩ := h
  have e1 : (T ++ q).length % 64 = 0 := by rw [List.length_append]; omega
  have e2 : 64 * ((T ++ q).length / 64) = (T ++ q).length := by omega
  refine ⟨?_, ?_, ?_⟩
  · rw [fold_split, ← h1, fold_one _ _ (by rw [List.length_append, drop_len]; exact hq), h3, show blk.drop (T.length % 64 + q.length) = [] from List.drop_of_length_le (by omega), List.append_nil]
  · simp only [List.length_append, List.length_take, List.length_drop, h2]; omega
  · rw [e1, e2, List.drop_length, List.take_zero]

set_option maxRecDepth 100000 in
theorem HP.pad {T : List UInt8} {ws : List UInt32} {blk : List UInt8} (h : HP T ws blk) : padW ws (blk.take (T.length % 64)) T.length = fold iv (T ++ padOf T.length) := by
  obtain ⟨h1, h2, h3⟩ := h
  have hl := drop_len T
  rw [fold_split, ← h1, padW, h3, padOf]
  generalize hd : T.drop (64 * (T.length / 64)) = tail at *
  rw [hl]
  by_cases hc : T.length % 64 < 56
  · rw [if_pos hc, if_pos hc]
    have e : (tail ++ 128 :: List.replicate (55 - T.length % 64) 0 ++ len8 T.length).length = 64 := by
      simp only [List.length_append, List.length_cons, List.length_replicate, len8_len]; omega
    rw [← fold_one _ _ e]
    simp
  · rw [if_neg hc, if_neg hc]
    have e1 : (tail ++ 128 :: List.replicate (63 - T.length % 64) 0).length = 64 := by
      simp only [List.length_append, List.length_cons, List.length_replicate]; omega
    have e2 : (List.replicate 56 (0 : UInt8) ++ len8 T.length).length = 64 := by
      simp only [List.length_append, List.length_replicate, len8_len]
    rw [← fold_one _ _ e2, ← fold_block _ _ _ e1]
    have e3 : List.replicate (119 - T.length % 64) (0 : UInt8) = List.replicate (63 - T.length % 64) 0 ++ List.replicate 56 0 := by
      rw [List.replicate_append_replicate]; congr 1; omega
    rw [e3]
    simp
end Sha
end Go.Proofs.YtldnpebnpbahjaaGreatDoor

