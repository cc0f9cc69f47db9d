import Derived.Test.YtldnpebnpbahjaaGreatDoorProg
import Derived.WalkKit
import Derived.WalkSpells
import Derived.WalkLawsBesides
import Derived.BigQuiet
import Derived.Deep.QuietTactic
import Derived.Laws.BitsAllLaws
import Derived.Deep.MidRow
import Derived.Deep.WholeRow
import Derived.Lib.SliceRun
import Derived.Deep.RegionHeld
set_option maxRecDepth 100000
set_option maxHeartbeats 8000000
namespace Go.Proofs.YtldnpebnpbahjaaGreatDoor
namespace Sha
def rotr (n : UInt32) (x : UInt32) : UInt32 := (x >>> n) ||| (x <<< (32 - n))
def ss0 (x : UInt32) : UInt32 := rotr 7 x ^^^ rotr 18 x ^^^ (x >>> 3)
def ss1 (x : UInt32) : UInt32 := rotr 17 x ^^^ rotr 19 x ^^^ (x >>> 10)
def bs0 (x : UInt32) : UInt32 := rotr 2 x ^^^ rotr 13 x ^^^ rotr 22 x
def bs1 (x : UInt32) : UInt32 := rotr 6 x ^^^ rotr 11 x ^^^ rotr 25 x
def word4 (a b c d : UInt8) : UInt32 := a.toUInt32 <<< 24 ||| b.toUInt32 <<< 16 ||| c.toUInt32 <<< 8 ||| d.toUInt32
def wordAt (blk : List UInt8) (t : Nat) : UInt32 := word4 (blk.getD (4 * t) 0) (blk.getD (4 * t + 1) 0) (blk.getD (4 * t + 2) 0) (blk.getD (4 * t + 3) 0)
def wval (blk : List UInt8) (l : List UInt32) (t : Nat) : UInt32 :=
  if t < 16 then wordAt blk t
  else ss1 (l.getD (t - 2) 0) + l.getD (t - 7) 0 + ss0 (l.getD (t - 15) 0) + l.getD (t - 16) 0
def schedTo (blk : List UInt8) : Nat → List UInt32
  | 0 => List.replicate 64 0
  | t + 1 => (schedTo blk t).set t (wval blk (schedTo blk t) t)
def sched (blk : List UInt8) : List UInt32 := schedTo blk 64
structure St where
  a : UInt32
  b : UInt32
  c : UInt32
  d : UInt32
  e : UInt32
  f : UInt32
  g : UInt32
  h : UInt32
def ks : List UInt32 := [1116352408, 1899447441, 3049323471, 3921009573, 961987163, 1508970993, 2453635748, 2870763221, 3624381080, 310598401, 607225278, 1426881987, 1925078388, 2162078206, 2614888103, 3248222580, 3835390401, 4022224774, 264347078, 604807628, 770255983, 1249150122, 1555081692, 1996064986, 2554220882, 2821834349, 2952996808, 3210313671, 3336571891, 3584528711, 113926993, 338241895, 666307205, 773529912, 1294757372, 1396182291, 1695183700, 1986661051, 2177026350, 2456956037, 2730485921, 2820302411, 3259730800, 3345764771, 3516065817, 3600352804, 4094571909, 275423344, 430227734, 506948616, 659060556, 883997877, 958139571, 1322822218, 1537002063, 1747873779, 1955562222, 2024104815, 2227730452, 2361852424, 2428436474, 2756734187, 3204031479, 3329325298]
def iv : List UInt32 := [1779033703, 3144134277, 1013904242, 2773480762, 1359893119, 2600822924, 528734635, 1541459225]
def xval (w : List UInt32) (s : St) (t : Nat) : UInt32 :=
  s.h + bs1 s.e + ((s.e &&& s.f) ^^^ (~~~ s.e &&& s.g)) + ks.getD t 0 + w.getD t 0
def yval (s : St) : UInt32 := bs0 s.a + ((s.a &&& s.b) ^^^ (s.a &&& s.c) ^^^ (s.b &&& s.c))
def rnd (w : List UInt32) (s : St) (t : Nat) : St :=
  ⟨xval w s t + yval s, s.a, s.b, s.c, s.d + xval w s t, s.e, s.f, s.g⟩
def rndTo (w : List UInt32) (s : St) : Nat → St
  | 0 => s
  | t + 1 => rnd w (rndTo w s t) t
def stOf (ws : List UInt32) : St := ⟨ws.getD 0 0, ws.getD 1 0, ws.getD 2 0, ws.getD 3 0, ws.getD 4 0, ws.getD 5 0, ws.getD 6 0, ws.getD 7 0⟩
def stList (s : St) : List UInt32 := [s.a, s.b, s.c, s.d, s.e, s.f, s.g, s.h]
def addTo (ws ls : List UInt32) : Nat → List UInt32
  | 0 => ws
  | i + 1 => (addTo ws ls i).set i ((addTo ws ls i).getD i 0 + ls.getD i 0)
def mixW (ws : List UInt32) (blk : List UInt8) : List UInt32 := addTo ws (stList (rndTo (sched blk) (stOf ws) 64)) 8
def w4 (x : UInt32) : List UInt8 := [(x >>> 24).toUInt8, (x >>> 16).toUInt8, (x >>> 8).toUInt8, x.toUInt8]
def out (ws : List UInt32) : List UInt8 := ws.flatMap w4
def foldN : Nat → List UInt32 → List UInt8 → List UInt32
  | 0, ws, _ => ws
  | n + 1, ws, t => foldN n (mixW ws (t.take 64)) (t.drop 64)
def fold (ws : List UInt32) (t : List UInt8) : List UInt32 := foldN (t.length / 64) ws t
def len8 (n : Nat) : List UInt8 := w4 (UInt32.ofNat (n * 8 % 2 ^ 64 / 2 ^ 32)) ++ w4 (UInt32.ofNat (n * 8))
def padOf (n : Nat) : List UInt8 :=
  128 :: List.replicate (if n % 64 < 56 then 55 - n % 64 else 119 - n % 64) 0 ++ len8 n
def sha (t : List UInt8) : List UInt8 := out (fold iv (t ++ padOf t.length))
/-! Lengths. -/
theorem schedTo_len (blk : List UInt8) : ∀ t, (schedTo blk t).length = 64
  | 0 => by simp [schedTo]
  | t + 1 => by simp [schedTo, schedTo_len blk t]
theorem addTo_len (ws ls : List UInt32) : ∀ t, (addTo ws ls t).length = ws.length
  | 0 => rfl
  | t + 1 => by simp [addTo, addTo_len ws ls t]
theorem mixW_len (ws : List UInt32) (blk : List UInt8) : (mixW ws blk).length = ws.length := addTo_len _ _ _
theorem foldN_len : ∀ (n : Nat) (ws : List UInt32) (t : List UInt8), (foldN n ws t).length = ws.length
  | 0, _, _ => rfl
  | n + 1, ws, t => by rw [foldN, foldN_len n, mixW_len]
theorem fold_len (ws : List UInt32) (t : List UInt8) : (fold ws t).length = ws.length := foldN_len _ _ _
theorem fold_short (ws : List UInt32) (t : List UInt8) (h : t.length < 64) : fold ws t = ws := by
  rw [fold, Nat.div_eq_of_lt h]; rfl
theorem fold_block (ws : List UInt32) (b t : List UInt8) (h : b.length = 64) : fold ws (b ++ t) = fold (mixW ws b) t := by
  have e : (b ++ t).length / 64 = t.length / 64 + 1 := by rw [List.length_append, h]; omega
  rw [fold, e, foldN, List.take_append_of_le_length (by omega), List.drop_append_of_le_length (by omega), List.take_of_length_le (by omega), List.drop_of_length_le (by omega)]; rfl
theorem foldN_append : ∀ (n : Nat) (ws : List UInt32) (s t : List UInt8), s.length = 64 * n → fold ws (s ++ t) = fold (foldN n ws s) t
  | 0, ws, s, t, h => by
    have : s = [] := List.length_eq_zero_iff.1 (by omega); subst this; rfl
  | n + 1, ws, s, t, h => by
    have e : s = s.take 64 ++ s.drop 64 := (List.take_append_drop 64 s).symm; (have h1 : (s.take 64).length = 64 := by rw [List.length_take]; omega); (have h2 : (s.drop 64).length = 64 * n := by rw [List.length_drop]; omega); rw [foldN, ← foldN_append n _ (s.drop 64) t h2, ← fold_block _ _ _ h1, ← List.append_assoc, ← e]
end Sha
open Go Go.RowKit Go.Proofs.Tryz
theorem ret_int {k : IntKind} {a b : Int} (h : a = b) : Ending.returned (.int k a) = .returned (.int k b) := by rw [h]
theorem b_or (x y : UInt32) : bits .or .u32 (x.toNat : Int) (y.toNat : Int) = ((x ||| y).toNat : Int) := by
  rw [u32_or_nat _ _ (by exact x.toNat_lt) (by exact y.toNat_lt), UInt32.toNat_or]
theorem b_xor (x y : UInt32) : bits .xor .u32 (x.toNat : Int) (y.toNat : Int) = ((x ^^^ y).toNat : Int) := by
  rw [u32_xor_nat _ _ (by exact x.toNat_lt) (by exact y.toNat_lt), UInt32.toNat_xor]
theorem b_and (x y : UInt32) : bits .and .u32 (x.toNat : Int) (y.toNat : Int) = ((x &&& y).toNat : Int) := by
  rw [u32_and_nat _ _ (by exact x.toNat_lt) (by exact y.toNat_lt), UInt32.toNat_and]
theorem b_add (x y : UInt32) : ((x.toNat : Int) + (y.toNat : Int)) % 4294967296 = ((x + y).toNat : Int) := by
  rw [UInt32.toNat_add]; omega
theorem u_lt (x : UInt32) : 0 ≤ (x.toNat : Int) ∧ (x.toNat : Int) < 4294967296 := ⟨by omega, by have := x.toNat_lt; omega⟩
theorem shl_gen (x : UInt32) (m : Nat) (p : Int) (hp : ((2 ^ m : Nat) : Int) = p) (hm2 : m < 32) : (x.toNat : Int) * p % 4294967296 = ((x <<< UInt32.ofNat m).toNat : Int) := by
  subst hp; have h : (UInt32.ofNat m).toNat % 32 = m := by simp; omega
  rw [UInt32.toNat_shiftLeft, h, Nat.shiftLeft_eq]; simp
theorem shr_gen (x : UInt32) (m : Nat) (p : Int) (hp : ((2 ^ m : Nat) : Int) = p) (hm2 : m < 32) : (x.toNat : Int) / p = ((x >>> UInt32.ofNat m).toNat : Int) := by
  subst hp; have h : (UInt32.ofNat m).toNat % 32 = m := by simp; omega
  rw [UInt32.toNat_shiftRight, Nat.shiftRight_eq_div_pow, h]; simp
theorem rot_gen (x : UInt32) (m n : Nat) (p q : Int) (hp : ((2 ^ n : Nat) : Int) = p) (hq : ((2 ^ m : Nat) : Int) = q) (hm : 0 < m) (hn : n = 32 - m) (hm2 : m < 32) :
    bits .or .u32 ((x.toNat : Int) * p % 4294967296) ((x.toNat : Int) / q) = ((Sha.rotr (UInt32.ofNat m) x).toNat : Int) := by
  rw [shl_gen x n p hp (by omega), shr_gen x m q hq hm2, b_or, UInt32.or_comm, Sha.rotr]
  congr 4
  apply UInt32.toNat_inj.1; rw [UInt32.toNat_sub_of_le]
  · simp; omega
  · rw [UInt32.le_iff_toNat_le]; simp; omega
theorem turn_gen (x : UInt32) (m n : Nat) (p q : Int) (hp : ((2 ^ n : Nat) : Int) = p) (hq : ((2 ^ m : Nat) : Int) = q) (hm : 0 < m) (hn : n = 32 - m) (hm2 : m < 32) :
    bits .or .u32 ((x.toNat : Int) / q) ((x.toNat : Int) * p % 4294967296) = ((Sha.rotr (UInt32.ofNat m) x).toNat : Int) := by
  rw [← rot_gen x m n p q hp hq hm hn hm2, shl_gen x n p hp (by omega), shr_gen x m q hq hm2, b_or, b_or, UInt32.or_comm]
theorem bs1_any (x : UInt32) (w : World) :
    Calls prog 178 #[.int .u32 x.toNat] w fun e w' => e = .returned (.int .u32 (Sha.bs1 x).toNat) ∧ w' = w := by
  obtain ⟨h0, h1⟩ := u_lt x; have f6 : bits .and .u64 (IntKind.u64.wrap (-6)) 31 = 26 := by decide +kernel
  have f11 : bits .and .u64 (IntKind.u64.wrap (-11)) 31 = 21 := by decide +kernel
  have f25 : bits .and .u64 (IntKind.u64.wrap (-25)) 31 = 7 := by decide +kernel
  go_enter func178, ntmps178
  go_wp2
  go_ret; have g6 := rot_gen x 6 26 67108864 64 (by decide) (by decide) (by decide) (by decide) (by decide); have g11 := rot_gen x 11 21 2097152 2048 (by decide) (by decide) (by decide) (by decide) (by decide); have g25 := rot_gen x 25 7 128 33554432 (by decide) (by decide) (by decide) (by decide) (by decide); clear f6 f11 f25; refine ⟨ret_int ?_, rfl⟩; rw [g6, g11, g25, b_xor, b_xor]; rfl
theorem bs0_any (x : UInt32) (w : World) :
    Calls prog 179 #[.int .u32 x.toNat] w fun e w' => e = .returned (.int .u32 (Sha.bs0 x).toNat) ∧ w' = w := by
  obtain ⟨h0, h1⟩ := u_lt x; have f2 : bits .and .u64 (IntKind.u64.wrap (-2)) 31 = 30 := by decide +kernel
  have f13 : bits .and .u64 (IntKind.u64.wrap (-13)) 31 = 19 := by decide +kernel
  have f22 : bits .and .u64 (IntKind.u64.wrap (-22)) 31 = 10 := by decide +kernel
  go_enter func179, ntmps179
  go_wp2
  go_ret; have g2 := rot_gen x 2 30 1073741824 4 (by decide) (by decide) (by decide) (by decide) (by decide); have g13 := rot_gen x 13 19 524288 8192 (by decide) (by decide) (by decide) (by decide) (by decide); have g22 := rot_gen x 22 10 1024 4194304 (by decide) (by decide) (by decide) (by decide) (by decide); clear f2 f13 f22; refine ⟨ret_int ?_, rfl⟩; rw [g2, g13, g22, b_xor, b_xor]; rfl
theorem ss1_any (x : UInt32) (w : World) :
    Calls prog 208 #[.int .u32 x.toNat] w fun e w' => e = .returned (.int .u32 (Sha.ss1 x).toNat) ∧ w' = w := by
  obtain ⟨h0, h1⟩ := u_lt x; have f17 : bits .and .u64 (IntKind.u64.wrap (-17)) 31 = 15 := by decide +kernel
  have f19 : bits .and .u64 (IntKind.u64.wrap (-19)) 31 = 13 := by decide +kernel
  go_enter func208, ntmps208
  go_wp2
  go_ret; have g17 := rot_gen x 17 15 32768 131072 (by decide) (by decide) (by decide) (by decide) (by decide); have g19 := rot_gen x 19 13 8192 524288 (by decide) (by decide) (by decide) (by decide) (by decide); have g10 := shr_gen x 10 1024 (by decide) (by decide); clear f17 f19; refine ⟨ret_int ?_, rfl⟩; rw [g17, g19, g10, b_xor, b_xor]; rfl
theorem ss0_any (x : UInt32) (w : World) :
    Calls prog 209 #[.int .u32 x.toNat] w fun e w' => e = .returned (.int .u32 (Sha.ss0 x).toNat) ∧ w' = w := by
  obtain ⟨h0, h1⟩ := u_lt x; have f7 : bits .and .u64 (IntKind.u64.wrap (-7)) 31 = 25 := by decide +kernel
  have f18 : bits .and .u64 (IntKind.u64.wrap (-18)) 31 = 14 := by decide +kernel
  go_enter func209, ntmps209
  go_wp2
  go_ret; have g7 := rot_gen x 7 25 33554432 128 (by decide) (by decide) (by decide) (by decide) (by decide); have g18 := rot_gen x 18 14 16384 262144 (by decide) (by decide) (by decide) (by decide) (by decide); have g3 := shr_gen x 3 8 (by decide) (by decide); clear f7 f18; refine ⟨ret_int ?_, rfl⟩; rw [g7, g18, g3, b_xor, b_xor]; rfl
structure Kp (p : Prop) : Prop where
  out : p
abbrev wv (x : UInt32) : Value := .int .u32 x.toNat
abbrev bv (x : UInt8) : Value := .int .u8 x.toNat
def Has (w : World) (b : Nat) (cs : List Value) (t : TypeId) : Prop := w.heap[b]? = some (.cells cs.toArray t (0, 0))
theorem Has.lt {w : World} {b : Nat} {cs : List Value} {t : TypeId} (h : Has w b cs t) : b < w.heap.size := by
  unfold Has at h; exact (Array.getElem?_eq_some_iff.1 h).1
theorem Has.cell {w : World} {b : Nat} {cs : List Value} {t : TypeId} (h : Has w b cs t) (j : Nat) : w.cell? ⟨b, j, none⟩ = cs[j]? := by
  unfold Has at h; simp [World.cell?, h]
theorem Has.cellv {w : World} {b : Nat} {cs : List Value} {t : TypeId} (h : Has w b cs t) (j : Nat) (v : Value) (hv : cs[j]? = some v) : w.cell? ⟨b, j, none⟩ = some v := by
  rw [h.cell, hv]
theorem Has.frozen {w : World} {b : Nat} {cs : List Value} {t : TypeId} (h : Has w b cs t) (j : Nat) : w.frozen? ⟨b, j, none⟩ = false := by
  unfold Has at h; simp [World.frozen?, h]
theorem Has.setCell {w : World} {b : Nat} {cs : List Value} {t : TypeId} (h : Has w b cs t) (j : Nat) (v : Value) : Has (w.setCell ⟨b, j, none⟩ v) b (cs.set j v) t := by
  unfold Has at h ⊢; simp [World.setCell, Array.getElem?_modify, h]
theorem Has.other {w : World} {b : Nat} {cs : List Value} {t : TypeId} (h : Has w b cs t) (a : Addr) (v : Value) (hne : a.block ≠ b) : Has (w.setCell a v) b cs t := by
  unfold Has at h ⊢; simp [World.setCell, Array.getElem?_modify, h, hne]
theorem Has.alloc {w : World} {b : Nat} {cs : List Value} {t : TypeId} (h : Has w b cs t) (o : Obj) : Has (w.alloc o) b cs t := by
  have := h.lt; unfold Has at h ⊢; show (w.heap.push o)[b]? = _; rw [Array.getElem?_push, if_neg (by omega), h]
theorem Has.drewN {w : World} {b : Nat} {cs : List Value} {t : TypeId} (h : Has w b cs t) (n : Nat) : Has (w.drewN n) b cs t := h
theorem Has.kept {w w' : World} {b : Nat} {cs : List Value} {t : TypeId} {row : Option Nat} (h : Has w b cs t) (hg : w.grownBy w' row) (hne : some b ≠ row) : Has w' b cs t := by
  unfold Has at h ⊢; rw [hg.block b (show b < w.heap.size from Has.lt (t := t) (cs := cs) h) hne, h]
theorem Has.new (w : World) (cs : List Value) (t : TypeId) : Has (w.alloc (.cells cs.toArray t)) w.heap.size cs t := by
  unfold Has; exact heap_alloc_last w _
theorem Has.newA (w : World) (cs : Array Value) (t : TypeId) : Has (w.alloc (.cells cs t)) w.heap.size cs.toList t := by
  unfold Has; exact heap_alloc_last w _
def over (cs : List Value) : Nat → List Value → List Value
  | _, [] => cs
  | o, v :: r => over (cs.set o v) (o + 1) r
theorem over_eq : ∀ (vs : List Value) (cs : List Value) (o : Nat), o + vs.length ≤ cs.length → over cs o vs = cs.take o ++ vs ++ cs.drop (o + vs.length)
  | [], cs, o, _ => by simp [over]
  | v :: r, cs, o, h => by
    simp at h; rw [over, over_eq r _ _ (by simp <;> omega)]; apply List.ext_getElem?; intro i; simp only [List.getElem?_append, List.getElem?_take, List.getElem?_drop, List.length_take, List.length_set, List.length_append, List.length_cons, List.getElem?_set, List.getElem?_cons]; by_cases h1 : i < o
    · simp [show i < o + 1 by omega, h1, show ¬ o = i by omega, show i < min (o + 1) cs.length by omega, show i < min o cs.length by omega, show i < min (o + 1) cs.length + r.length by omega, show i < min o cs.length + (r.length + 1) by omega]
    · by_cases h2 : i = o
      · subst h2; simp [show i < min (i + 1) cs.length by omega, show i < min (i + 1) cs.length + r.length by omega, show ¬ i < min i cs.length by omega, show i < min i cs.length + (r.length + 1) by omega, show i - min i cs.length = 0 by omega, show i < cs.length by omega]
      · by_cases h3 : i < o + 1 + r.length
        · simp [show ¬ i < min (o + 1) cs.length by omega, show i < min (o + 1) cs.length + r.length by omega, show ¬ i < min o cs.length by omega, show i < min o cs.length + (r.length + 1) by omega, show ¬ i - min o cs.length = 0 by omega]
          congr 1
          omega
        · simp [show ¬ i < min (o + 1) cs.length + r.length by omega, show ¬ i < min o cs.length + (r.length + 1) by omega, show ¬ o = o + 1 + r.length + (i - (min (o + 1) cs.length + r.length)) by omega]
          congr 1
          omega
theorem Has.setCells {t : TypeId} {b : Nat} : ∀ (vs : List Value) {w : World} {cs : List Value} (o : Nat), Has w b cs t → Has (w.setCells b o vs) b (over cs o vs) t
  | [], _, _, _, h => h
  | v :: r, _, _, o, h => Has.setCells r (o + 1) (h.setCell o v)
theorem Has.there {w : World} {b : Nat} {cs : List Value} {t : TypeId} (h : Has w b cs t) (o n : Nat) (hn : o + n ≤ cs.length) : w.there b o n := fun j hj => by
  refine ⟨?_, h.frozen _⟩; rw [h.cell, List.getElem?_eq_getElem (by omega)]; rfl
theorem Has.rangeAt {w : World} {b : Nat} {cs : List Value} {t : TypeId} (h : Has w b cs t) (o n : Nat) : w.rangeAt b o ((cs.drop o).take n) := fun j v hv => by
  rw [h.cell]; rw [List.getElem?_take] at hv; split at hv
  · rw [List.getElem?_drop] at hv; exact hv
  · cases hv
theorem Has.range {w : World} {b : Nat} {cs : List Value} {t : TypeId} (h : Has w b cs t) : w.rangeAt b 0 cs := fun j v hv => by
  rw [h.cell, Nat.zero_add]; exact hv
theorem Has.rangeMid {w : World} {b : Nat} {cs : List Value} {t : TypeId} (h : Has w b cs t) (o : Nat) (a m c : List Value) (hc : cs = a ++ m ++ c) (ha : a.length = o) : w.rangeAt b o m := fun j v hv => by
  subst hc; have hj : j < m.length := (List.getElem?_eq_some_iff.1 hv).1; rw [h.cell, List.getElem?_append_left (by simp <;> omega), List.getElem?_append_right (by omega)]; rw [← hv]; congr 1; omega
theorem Has.setAll {w : World} {b : Nat} {cs : List Value} {t : TypeId} (h : Has w b cs t) (vs : List Value) (hl : vs.length = cs.length) : Has (w.setCells b 0 vs) b vs t := by
  have := h.setCells vs 0; rw [over_eq _ _ _ (by omega)] at this
  simpa [hl] using this
theorem results_cell {fn : Func} {p : Tmp} {ty : TypeId} (h : fn.results = #[.cell p ty]) (tmps : Array Value) (P : Program) (w : World) :
    (results fn tmps).run P w = ((asAddr (tmps.getD p undef)).run P w).andThen fun a w₁ => (loadVar ty a).run P w₁ := by
  simp only [results, h]; simp [Sem.run_bind, Result.andThen]
theorem ret_cell {P : Program} {fn : Func} {R : Ending → World → Prop} {a : Act} {w : World} {p : Tmp} {ty t : TypeId} {b : Nat} {cs : List Value} {d : TypeDesc}
    (hr : fn.results = #[.cell p ty]) (hp : a.tmps.getD p undef = .pointer (some ⟨b, 0, none⟩)) (hh : Has w b cs t) (hu : P.underlying ty = some d) (hd : d.isRow = true)
    (hi : (P.info? ty).map (·.size) = some cs.length) (hdf : a.defers = []) (h : R (.returned (.agg cs.toArray)) w) : bodyPost P fn R .ret a w := by
  refine bodyPost_ret (v := .agg cs.toArray) ?_ hdf h; rw [results_cell hr, hp]; simp [asAddr, Result.andThen, run_loadVar_mid w b 0 ty cs d hh.range hu hd hi]
theorem gr_set (w : World) (b j : Nat) (v : Value) : w.grownBy (w.setCell ⟨b, j, none⟩ v) (some b) :=
  ⟨rfl, rfl, rfl, by simp [World.setCell], fun k _ hne => by
    simp only [World.setCell, Array.getElem?_modify]
    rw [if_neg (fun e => hne (by rw [e]))]⟩
theorem gr_sets (b : Nat) : ∀ (vs : List Value) (w : World) (o : Nat), w.grownBy (w.setCells b o vs) (some b)
  | [], w, _ => World.grownBy.refl w _
  | v :: r, w, o => (gr_set w b o v).trans (gr_sets b r _ (o + 1))
theorem gr_drewN (w : World) (n : Nat) (row : Option Nat) : w.grownBy (w.drewN n) row := ⟨rfl, rfl, rfl, Nat.le_refl _, fun _ _ _ => rfl⟩
theorem gr_new {w w1 w2 : World} {row : Option Nat} {b : Nat} (h : w.grownBy w1 row) (k : w1.grownBy w2 (some b)) (hb : w.heap.size ≤ b) : w.grownBy w2 row :=
  ⟨k.os.trans h.os, k.tape.trans h.tape, k.output.trans h.output, Nat.le_trans h.size k.size, fun i hi hne => by
    rw [k.block i (by have := h.size; omega) (by intro e; cases e; omega), h.block i hi hne]⟩
theorem uz {α : Type _} : (∀ (l : List α) (i : Nat) (h : i < l.toArray.size), l.toArray[i] = l[i]'(by simpa using h)) ∧ (∀ (a : α) (l : List α) (i : Nat) (h : i + 1 < (a :: l).length), (a :: l)[i + 1] = l[i]'(Nat.lt_of_succ_lt_succ h)) ∧ (∀ (a : α) (l : List α) (h : 0 < (a :: l).length), (a :: l)[0] = a) ∧ (∀ (l : List α) (i : Nat) (a : α), l.toArray.setIfInBounds i a = (l.set i a).toArray) ∧ (∀ (x a : α) (l : List α), (x :: l).set 0 a = a :: l) ∧ ∀ (x a : α) (l : List α) (n : Nat), (x :: l).set (n + 1) a = x :: l.set n a :=
  ⟨fun _ _ h => List.getElem_toArray h, fun _ _ _ _ => rfl, fun _ _ _ => rfl, fun _ _ _ => List.setIfInBounds_toArray .., fun _ _ _ => rfl, fun _ _ _ _ => rfl⟩
theorem hq {P : Program} {ops : Array Oper} {Q : Exit → Act → World → Prop} {md : Region.Mode} {S : World → Prop} (i : Nat) {oi : Oper} {v : Value} {n : Nat} {L : Array Bool} {a : Act} {w : World} (hi : ops[i]? = some oi) (h : wpAnyH P md ops Q S n (L.setIfInBounds i true) (a.put oi.dst v) w)
    (hy : YieldsIf P ops S oi v a := by exact Or.inl ⟨by rfl, by intro w hSw; go_simp; first | done | (with_reducible rfl)⟩) (hS : S w := by assumption) (hs : Region.noSelect ops = true := by kernel_rfl) (hf : Region.free md ops L i = true := by kernel_rfl) (hr : (Region.ready md ops L).contains i = true := by kernel_rfl)
    (hQ : ∀ c a w, Q (.panic c) (a.put oi.dst v) w → Q (.panic c) a w := by exact fun _ _ _ h => h) : wpAnyH P md ops Q S (n + 1) L a w := wpAnyH_take hi hs hf hr hQ hy hS h
theorem ha {P : Program} {ops : Array Oper} {Q : Exit → Act → World → Prop} {md : Region.Mode} {S : World → Prop} (i : Nat) {o : Oper} {n : Nat} {L : Array Bool} {a : Act} {w : World} (h : ∀ K : Act → World → Prop, Shut (∀ a' w', S w' → (S w' → wpAnyH P md ops Q S n (L.setIfInBounds i true) a' w') → K a' w') → if Region.wanted o (yielded ops a.tmps) = true then Oper.wp P o a w K Q else K (a.put o.dst undef) w) (hr : Region.ready md ops L = [i] := by kernel_rfl) (ho : ops[i]? = some o := by rfl) : wpAnyH P md ops Q S (n + 1) L a w := wpAnyH_ready hr (by simp) (AllReadyH.cons ho h AllReadyH.nil)
theorem gAl (w : World) (o : Obj) (r : Option Nat) : w.grownBy (w.alloc o) r := World.grownBy_alloc w o r
theorem hk_ {P : Program} {ops : Array Oper} {Q : Exit → Act → World → Prop} {md : Region.Mode} {S : World → Prop} (i : Nat) {oi : Oper} {v : Value} {n : Nat} {L : Array Bool} {a : Act} {w : World} (hi : ops[i]? = some oi) (h : wpAnyH P md ops Q S n (L.setIfInBounds i true) (a.put oi.dst v) w) (hy : ∀ w, S w → (execOp a.eval oi).run P w = .ok (.value v) w) (hw : Region.wanted oi (yielded ops a.tmps) = true := by rfl) (hS : S w := by assumption) (hs : Region.noSelect ops = true := by kernel_rfl) (hf : Region.free md ops L i = true := by kernel_rfl) (hr : (Region.ready md ops L).contains i = true := by kernel_rfl)
    (hQ : ∀ c a w, Q (.panic c) (a.put oi.dst v) w → Q (.panic c) a w := by exact fun _ _ _ h => h) : wpAnyH P md ops Q S (n + 1) L a w := wpAnyH_take hi hs hf hr hQ (Or.inl ⟨hw, hy⟩) hS h
theorem hd_ {P : Program} {ops : Array Oper} {Q : Exit → Act → World → Prop} {md : Region.Mode} {S : World → Prop} {n : Nat} {L : Array Bool} {a : Act} {w : World} (h : Q .normal a w) (hr : Region.ready md ops L = [] := by kernel_rfl) : wpAnyH P md ops Q S n L a w := wpAnyH_done hr h n
abbrev CRt (f : Nat) (A : Array Value) (W : World) (v : Value) : Prop := Calls prog f A W fun e w' => e = .returned v ∧ W.grownBy w' none
abbrev CRs (f : Nat) (A : Array Value) (W : World) (v : Value) : Prop := Calls prog f A W fun e w' => e = .returned v ∧ w' = W
theorem u8_shl (b : UInt8) (m : Nat) (p : Int) (hp : ((2 ^ m : Nat) : Int) = p) (hm : m ≤ 24) : (b.toNat : Int) * p = ((b.toUInt32 <<< UInt32.ofNat m).toNat : Int) := by
  have h := shl_gen b.toUInt32 m p hp (by omega); rw [← h, UInt8.toNat_toUInt32]; subst hp; have hb := b.toNat_lt
  have h2 : b.toNat * 2 ^ m < 4294967296 := by
    have : 2 ^ m ≤ 2 ^ 24 := Nat.pow_le_pow_right (by decide) hm
    calc b.toNat * 2 ^ m ≤ 255 * 2 ^ 24 := Nat.mul_le_mul (by omega) this
      _ < 4294967296 := by decide
  rw [← Int.natCast_mul]; exact (Int.emod_eq_of_lt (by omega) (by omega)).symm
theorem word_eq (b0 b1 b2 b3 : UInt8) : bits .or .u32 (bits .or .u32 (bits .or .u32 ((b0.toNat : Int) * 16777216) ((b1.toNat : Int) * 65536)) ((b2.toNat : Int) * 256)) (b3.toNat : Int) = ((Sha.word4 b0 b1 b2 b3).toNat : Int) := by
  rw [u8_shl b0 24 _ (by decide) (by decide), u8_shl b1 16 _ (by decide) (by decide), u8_shl b2 8 _ (by decide) (by decide), b_or, b_or]; have : (b3.toNat : Int) = (b3.toUInt32.toNat : Int) := by rw [UInt8.toNat_toUInt32]
  rw [this, b_or]; rfl
theorem word_any (b0 b1 b2 b3 : UInt8) (B o n cap : Nat) (w : World) (hn : 4 ≤ n)
    (h0 : w.cell? ⟨B, o, none⟩ = some (.int .u8 b0.toNat)) (h1 : w.cell? ⟨B, o + 1, none⟩ = some (.int .u8 b1.toNat))
    (h2 : w.cell? ⟨B, o + 2, none⟩ = some (.int .u8 b2.toNat)) (h3 : w.cell? ⟨B, o + 3, none⟩ = some (.int .u8 b3.toNat)) :
    Calls prog 207 #[.slice (some ⟨B, o, none⟩) n cap] w fun e w' => e = .returned (.int .u32 (Sha.word4 b0 b1 b2 b3).toNat) ∧ ∃ n, w' = w.drewN n := by
  have l0 := b0.toNat_lt; have l1 := b1.toNat_lt; have l2 := b2.toNat_lt; have l3 := b3.toNat_lt; go_enter func207, ntmps207
  go_wp2
  go_quiet (fail)
  go_wp2
  go_ret; exact ⟨ret_int (word_eq _ _ _ _), _, rfl⟩
theorem byte0 (x : UInt32) : (x.toNat : Int) % (256 : Int) = (x.toUInt8.toNat : Int) := by
  rw [UInt32.toNat_toUInt8]; omega
theorem byte8 (x : UInt32) : (x.toNat : Int) / (256 : Int) % (256 : Int) = ((x >>> 8).toUInt8.toNat : Int) := by
  rw [← byte0, shr_gen x 8 256 (by decide) (by decide)]; rfl
theorem byte16 (x : UInt32) : (x.toNat : Int) / (65536 : Int) % (256 : Int) = ((x >>> 16).toUInt8.toNat : Int) := by
  rw [← byte0, shr_gen x 16 65536 (by decide) (by decide)]; rfl
theorem byte24 (x : UInt32) : (x.toNat : Int) / (16777216 : Int) = ((x >>> 24).toUInt8.toNat : Int) := by
  have := u_lt x; have h := shr_gen x 24 16777216 (by decide) (by decide); rw [← byte0, show (x >>> 24) = x >>> UInt32.ofNat 24 from rfl, ← h]; omega
theorem putWord_any (x : UInt32) (B o n cap : Nat) (cs : List Value) (t : TypeId) (w : World) (hn : 4 ≤ n) (ho : o + 4 ≤ cs.length) (hB : Has w B cs t) :
    Calls prog 176 #[.slice (some ⟨B, o, none⟩) n cap, .int .u32 x.toNat] w fun e w' => e = .returned (.tuple #[]) ∧ w' = w.setCells B o ((Sha.w4 x).map bv) := by
  obtain ⟨x0, x1⟩ := u_lt x; obtain ⟨v0, c0⟩ : ∃ v, w.cell? ⟨B, o, none⟩ = some v := ⟨_, by rw [hB.cell, List.getElem?_eq_getElem (by omega)]⟩; obtain ⟨v1, c1⟩ : ∃ v, w.cell? ⟨B, o + 1, none⟩ = some v := ⟨_, by rw [hB.cell, List.getElem?_eq_getElem (by omega)]⟩; obtain ⟨v2, c2⟩ : ∃ v, w.cell? ⟨B, o + 2, none⟩ = some v := ⟨_, by rw [hB.cell, List.getElem?_eq_getElem (by omega)]⟩; obtain ⟨v3, c3⟩ : ∃ v, w.cell? ⟨B, o + 3, none⟩ = some v := ⟨_, by rw [hB.cell, List.getElem?_eq_getElem (by omega)]⟩; have f0 := hB.frozen o; have f1 := hB.frozen (o + 1); have f2 := hB.frozen (o + 2); have f3 := hB.frozen (o + 3); clear hB; go_enter func176, ntmps176
  go_wp2
  go_end0
  refine ⟨rfl, ?_⟩; rw [byte24 x, byte16 x, byte8 x, byte0 x]; rfl
theorem turn_any (x : UInt32) (k : Nat) (w : World) (hk : k = 2 ∨ k = 6 ∨ k = 7 ∨ k = 11 ∨ k = 13 ∨ k = 17 ∨ k = 18 ∨ k = 19 ∨ k = 22 ∨ k = 25) :
    Calls prog 244 #[.int .u32 x.toNat, .int .i64 k] w fun e w' => e = .returned (.int .u32 (Sha.rotr (UInt32.ofNat k) x).toNat) ∧ ∃ n, w' = w.drewN n := by
  obtain ⟨x0, x1⟩ := u_lt x; rcases hk with rfl | rfl | rfl | rfl | rfl | rfl | rfl | rfl | rfl | rfl
  all_goals
    go_enter func244, ntmps244
    go_wp2
    go_quiet (fail)
    go_wp2
    go_ret; exact ⟨ret_int (turn_gen x _ (32 - _) _ _ (by rfl) (by rfl) (by decide) rfl (by decide)), _, rfl⟩
structure SRel (blk : List UInt8) (w w' : World) (k : Nat) : Prop where
  b : Has w' w.heap.size (blk.map bv) 111
  z : Has w' (w.heap.size + 1) ((List.replicate 64 (0 : UInt32)).map wv) 220
  l : Has w' (w.heap.size + 1 + 1) ((Sha.schedTo blk k).map wv) 220
  g : w.grownBy w' none
theorem heap1 (w : World) (o : Obj) : (w.alloc o).heap.size = w.heap.size + 1 := by simp
theorem heap2 (w : World) (o o' : Obj) : ((w.alloc o).alloc o').heap.size = w.heap.size + 1 + 1 := by simp
theorem Has.new1 (w : World) (cs : List Value) (t : TypeId) (n : Nat) (h : w.heap.size = n) : Has (w.alloc (.cells cs.toArray t)) n cs t := h ▸ Has.new w cs t
theorem SRel.start (blk : List UInt8) (w : World) (A B C : Array Value) (hA : A = (blk.map bv).toArray) (hB : B = ((List.replicate 64 (0 : UInt32)).map wv).toArray) (hC : C = ((List.replicate 64 (0 : UInt32)).map wv).toArray) :
    SRel blk w (((w.alloc (.cells A 111)).alloc (.cells B 220)).alloc (.cells C 220)) 0 := by
  subst hA hB hC; refine ⟨(((Has.new w _ 111).alloc _).alloc _), ?_, ?_, ?_⟩
  · exact (Has.new1 _ _ _ _ (heap1 _ _)).alloc _
  · exact (Has.new1 _ _ _ _ (heap2 _ _ _))
  · exact (gAl _ _ _).trans ((gAl _ _ _).trans (gAl _ _ _))
theorem get_map {α : Type} (f : α → Value) (l : List α) (d : α) (j : Nat) (h : j < l.length) : (l.map f)[j]? = some (f (l.getD j d)) := by
  simp [List.getD, h]
theorem SRel.bcell {blk : List UInt8} {w w' : World} {k : Nat} (h : SRel blk w w' k) (hl : blk.length = 64) (j : Nat) (hj : j < 64) : w'.cell? ⟨w.heap.size, j, none⟩ = some (.int .u8 (blk.getD j 0).toNat) :=
  h.b.cellv _ _ (get_map bv blk 0 j (by omega))
theorem SRel.lcell {blk : List UInt8} {w w' : World} {k : Nat} (h : SRel blk w w' k) (j : Nat) (hj : j < 64) : w'.cell? ⟨w.heap.size + 1 + 1, j, none⟩ = some (.int .u32 ((Sha.schedTo blk k).getD j 0).toNat) :=
  h.l.cellv _ _ (get_map wv _ 0 j (by rw [Sha.schedTo_len]; omega))
theorem SRel.drewN {blk : List UInt8} {w w' : World} {k : Nat} (h : SRel blk w w' k) (n : Nat) : SRel blk w (w'.drewN n) k :=
  ⟨h.b, h.z, h.l, h.g.trans (gr_drewN _ _ _)⟩
theorem SRel.step {blk : List UInt8} {w w' : World} {k : Nat} (h : SRel blk w w' k) (v : Value) (hv : v = wv (Sha.wval blk (Sha.schedTo blk k) k)) : SRel blk w (w'.setCell ⟨w.heap.size + 1 + 1, k, none⟩ v) (k + 1) := by
  subst hv; refine ⟨h.b.other _ _ (by simp <;> omega), h.z.other _ _ (by simp), ?_, gr_new h.g (gr_set _ _ _ _) (by omega)⟩; have := h.l.setCell k (wv (Sha.wval blk (Sha.schedTo blk k) k)); rw [Sha.schedTo, List.map_set]; exact this
theorem under41 : prog.underlying 111 = some (.array 64 5) := by kernel_rfl
theorem under50 : prog.underlying 220 = some (.array 64 179) := by kernel_rfl
theorem size50 : (prog.info? 220).map (·.size) = some 64 := by kernel_rfl
theorem slice41 (k : IntKind) (b o : Nat) (l : Int) (n : Nat) (hl : l = n) (hn : n < 64) (W : World) :
    (Instr.sliceAt 111 (.pointer (some ⟨b, o, none⟩)) (some (.int k l)) none none).run prog W = .ok (.slice (some ⟨b, o + n, none⟩) (64 - n) (64 - n)) W := by
  subst hl; have e : (⟨b, o, none⟩ : Addr).add n = ⟨b, o + n, none⟩ := Addr.add_mid b o n; have z : (sizeOf (prog.elem 111)).run prog W = .ok 1 W := by kernel_rfl
  have l : prog.arrayLen 111 = 64 := by kernel_rfl
  rw [run_sliceAt_array_l W 111 _ (by kernel_rfl) k n (by omega) (by rw [l]; omega), z, l]; simp only [Result.andThen, slicedAt, Int.toNat_natCast, Nat.mul_one, e]; rw [if_neg (by omega)]
theorem schedule_any (blk : List UInt8) (A : Array Value) (w : World) (hA : Hid (A = (blk.map bv).toArray)) (hl : blk.length = 64) :
    CRt 177 #[.agg A] w (.agg ((Sha.sched blk).map wv).toArray) := by
  go_enter func177, ntmps177
  go_wp2
  go_loopw [6] (fun i w' => ∃ k : Nat, k ≤ 16 ∧ i = .int .i64 k ∧ Hid (SRel blk w w' k)) (fun i _ => 16 - (intOf i).toNat)
  case atStart => exact ⟨0, by omega, rfl, SRel.start blk w _ _ _ hA.out rfl rfl⟩
  case round =>
    obtain ⟨k, hk, rfl, hrel⟩ := hrel; by_cases hlt : k < 16
    · have hs := slice41 .i64 w.heap.size 0 (4 * (k : Int)) (4 * k) (by omega) (by omega); have hc := hrel.out.lcell k (by omega); have hf := hrel.out.l.frozen k
      go_wp2_with (go_at_call 207; refine (word_any _ _ _ _ _ _ _ _ _ (by omega) (hrel.out.bcell hl _ (by omega)) (hrel.out.bcell hl _ (by omega)) (hrel.out.bcell hl _ (by omega)) (hrel.out.bcell hl _ (by omega))).mono ?_; rintro e w1 ⟨rfl, n1, rfl⟩)
      go_roundw
      case rel => exact ⟨k + 1, by omega, by go_num, (hrel.out.drewN _).step _ (by rw [Sha.wval, if_pos hlt]; rfl)⟩
      case measure => simp [intOf]; omega
    · have hrel0 : Hid (SRel blk w wr 16) := by
        (have hk16 : k = 16 := by omega); rw [← hk16]; exact hrel
      go_wp2_with fail; clear hrel; generalize (Value.int .i64 (k : Int)) = K6; clear hk hlt
      go_loopw [5] (fun i w' => ∃ k : Nat, k ≤ 48 ∧ i = .int .i64 (k + 16) ∧ Hid (SRel blk w w' (k + 16))) (fun i _ => 64 - (intOf i).toNat)
      case atStart => exact ⟨0, by omega, rfl, hrel0⟩
      case round =>
        obtain ⟨k, hk, rfl, hrel2⟩ := hrel; clear hrel0; by_cases hlt : k < 48
        · have hc := hrel2.out.lcell (k + 16) (by omega); have hf := hrel2.out.l.frozen (k + 16); obtain ⟨y2, hy2⟩ : ∃ y, (Sha.schedTo blk (k + 16)).getD (k + 14) 0 = y := ⟨_, rfl⟩; obtain ⟨y7, hy7⟩ : ∃ y, (Sha.schedTo blk (k + 16)).getD (k + 9) 0 = y := ⟨_, rfl⟩; obtain ⟨y15, hy15⟩ : ∃ y, (Sha.schedTo blk (k + 16)).getD (k + 1) 0 = y := ⟨_, rfl⟩; obtain ⟨y16, hy16⟩ : ∃ y, (Sha.schedTo blk (k + 16)).getD k 0 = y := ⟨_, rfl⟩; have c2 := hrel2.out.lcell (k + 14) (by omega); have c7 := hrel2.out.lcell (k + 9) (by omega); have c15 := hrel2.out.lcell (k + 1) (by omega); have c16 := hrel2.out.lcell k (by omega); rw [hy2] at c2; rw [hy7] at c7; rw [hy15] at c15; rw [hy16] at c16
          have HV : Hid (Sha.wval blk (Sha.schedTo blk (k + 16)) (k + 16) = Sha.ss1 y2 + y7 + Sha.ss0 y15 + y16) := by
            show Sha.wval _ _ _ = _; rw [Sha.wval, if_neg (by omega), show k + 16 - 2 = k + 14 by omega, show k + 16 - 7 = k + 9 by omega, show k + 16 - 15 = k + 1 by omega, show k + 16 - 16 = k by omega, hy2, hy7, hy15, hy16]
          clear hy2 hy7 hy15 hy16; (have i0 : (0 : Int) ≤ (k : Int) := by omega); (have i1 : (k : Int) < 48 := by omega); (have x2 : IntKind.i64.wrap ((k : Int) + 16 - 2) = (k : Int) + 14 := by rw [IntWalk.i64_in _ (by omega)]; omega); (have p2 : (0 : Int) ≤ (k : Int) + 14 := by omega); (have q2 : (k : Int) + 14 < 64 := by omega); (have r2 : ((k : Int) + 14).toNat = k + 14 := by omega); (have x7 : IntKind.i64.wrap ((k : Int) + 16 - 7) = (k : Int) + 9 := by rw [IntWalk.i64_in _ (by omega)]; omega); (have p7 : (0 : Int) ≤ (k : Int) + 9 := by omega); (have q7 : (k : Int) + 9 < 64 := by omega); (have r7 : ((k : Int) + 9).toNat = k + 9 := by omega); (have x15 : IntKind.i64.wrap ((k : Int) + 16 - 15) = (k : Int) + 1 := by rw [IntWalk.i64_in _ (by omega)]; omega); (have p15 : (0 : Int) ≤ (k : Int) + 1 := by omega); (have q15 : (k : Int) + 1 < 64 := by omega); (have r15 : ((k : Int) + 1).toNat = k + 1 := by omega); have x16 : IntKind.i64.wrap (k : Int) = (k : Int) := IntWalk.i64_in _ (by omega); (have p16 : (0 : Int) ≤ (k : Int) := by omega); (have q16 : (k : Int) < 64 := by omega); (have p0 : (0 : Int) ≤ (k : Int) + 16 := by omega); (have q0 : (k : Int) + 16 < 64 := by omega); (have r0 : ((k : Int) + 16).toNat = k + 16 := by omega); go_wp2_with fail
          go_region_held (fun w' => w'.cell? ⟨w.heap.size + 1 + 1, k + 14, none⟩ = some (.int .u32 y2.toNat) ∧ w'.cell? ⟨w.heap.size + 1 + 1, k + 9, none⟩ = some (.int .u32 y7.toNat) ∧ w'.cell? ⟨w.heap.size + 1 + 1, k + 1, none⟩ = some (.int .u32 y15.toNat) ∧ w'.cell? ⟨w.heap.size + 1 + 1, k, none⟩ = some (.int .u32 y16.toNat)) (simp [*, World.cell?_setCell_other])
            (first | (go_at_call 208; refine (ss1_any _ _).mono ?_; rintro e w' ⟨rfl, rfl⟩) | (go_at_call 209; refine (ss0_any _ _).mono ?_; rintro e w' ⟨rfl, rfl⟩))
          go_wp2
          go_roundw
          case rel => exact ⟨k + 1, by omega, by go_num, by rw [show k + 1 + 16 = k + 16 + 1 by omega]; exact (hrel2.out.step _ (by rw [HV.out, b_add, b_add, b_add])).drewN 1⟩
          case measure => simp [intOf]; omega
        · have hrel3 : Hid (SRel blk w wr 64) := by
            (have hk48 : k + 16 = 64 := by omega); rw [← hk48]; exact hrel2
          clear hrel2; have hlen := Sha.schedTo_len blk 64; have hb : Has wr (w.heap.size + 1 + 1) ((Sha.sched blk).map wv) 220 := hrel3.out.l; have hz := hrel3.out.z; have hg := hrel3.out.g; clear hrel3; rw [← Sha.sched] at hlen; obtain ⟨L, hLq⟩ : ∃ L, Sha.sched blk = L := ⟨_, rfl⟩; rw [hLq] at hlen hb; have HQ : Kp (Sha.sched blk = L) := ⟨hLq⟩; clear hLq; have HB : Hid (Has wr (w.heap.size + 1 + 1) (L.map wv) 220) := hb; have HZ : Hid (Has wr (w.heap.size + 1) ((List.replicate 64 (0 : UInt32)).map wv) 220) := hz; have HG : Hid (w.grownBy wr none) := hg; have HL : Hid (L.length = 64) := hlen; clear hb hz hg hlen
          have HI : Hid ((prog.info? 220).map (·.size) = some (L.map wv).length) := by
            show (prog.info? 220).map (·.size) = some (L.map wv).length; rw [List.length_map, HL.out]; exact size50
          have HE : Hid (Has (wr.setCells (w.heap.size + 1) 0 (L.map wv)) (w.heap.size + 1) (L.map wv) 220 ∧ w.grownBy (wr.setCells (w.heap.size + 1) 0 (L.map wv)) none) :=
            ⟨HZ.out.setAll _ (by simp [HL.out]), gr_new HG.out (gr_sets _ _ _ _) (by omega)⟩
          go_wp2_with (first
            | (refine wpList_load_mid rfl 220 _ rfl _ _ rfl _ _ HB.out.range under50 rfl HI.out ?_)
            | (refine wpList_store_mid rfl 220 _ _ rfl _ _ _ rfl rfl (HZ.out.there _ _ (by simp [HL.out])) HI.out (all_oneCell_toArray (by simp [Value.oneCell'])) ?_))
          refine ret_cell (b := w.heap.size + 1) (cs := L.map wv) (t := 220) rfl rfl ?_ under50 rfl HI.out rfl ⟨by rw [HQ.out], ?_⟩
          · exact HE.out.1
          · exact HE.out.2
def hcs (ws : List UInt32) (blk : List UInt8) (len : Nat) : List Value := ws.map wv ++ blk.map bv ++ [.int .u64 len]
def Kc (w : World) : Prop := ∀ j, j < 64 → w.cell? ⟨1, j, none⟩ = some (.int .u32 (Sha.ks.getD j 0).toNat)
theorem Kc.lt {w : World} (h : Kc w) : 1 < w.heap.size := World.block_lt_of_cell? w _ (h 0 (by decide))
theorem Kc.kept {w w' : World} {row : Option Nat} (h : Kc w) (hg : w.grownBy w' row) (hne : some 1 ≠ row) : Kc w' := fun j hj => by
  exact hg.cell (h j hj) hne
theorem hcs_word (ws : List UInt32) (blk : List UInt8) (len : Nat) (h8 : ws.length = 8) (j : Nat) (hj : j < 8) : (hcs ws blk len)[j]? = some (wv (ws.getD j 0)) := by
  unfold hcs; rw [List.append_assoc, List.getElem?_append_left (by simp <;> omega)]; exact get_map wv ws 0 j (by omega)
theorem hcs_len (ws : List UInt32) (blk : List UInt8) (len : Nat) (h8 : ws.length = 8) (h64 : blk.length = 64) : (hcs ws blk len)[72]? = some (.int .u64 len) := by
  unfold hcs; rw [List.getElem?_append_right (by simp <;> omega)]; simp [h8, h64]
theorem hcs_length (ws : List UInt32) (blk : List UInt8) (len : Nat) (h8 : ws.length = 8) (h64 : blk.length = 64) : (hcs ws blk len).length = 73 := by
  simp [hcs, h8, h64]
theorem hcs_setw (ws : List UInt32) (blk : List UInt8) (len : Nat) (h8 : ws.length = 8) (j : Nat) (hj : j < 8) (x : UInt32) : (hcs ws blk len).set j (wv x) = hcs (ws.set j x) blk len := by
  unfold hcs; rw [List.append_assoc, List.set_append_left _ _ (by simp <;> omega), List.map_set, List.append_assoc]
theorem hcs_setl (ws : List UInt32) (blk : List UInt8) (len n : Nat) (h8 : ws.length = 8) (h64 : blk.length = 64) : (hcs ws blk len).set 72 (.int .u64 n) = hcs ws blk n := by
  unfold hcs; rw [List.set_append_right _ _ (by simp <;> omega)]; simp [h8, h64]
theorem size41 : (prog.info? 111).map (·.size) = some 64 := by kernel_rfl
theorem not_eq (e : UInt32) : bits .xor .u32 (if IntKind.u32.signed = true then -1 else IntKind.u32.max) (e.toNat : Int) = ((~~~ e).toNat : Int) := by
  have h : (if IntKind.u32.signed = true then -1 else IntKind.u32.max) = (((4294967295 : UInt32).toNat : Nat) : Int) := by decide
  rw [h, b_xor]
  congr 2
theorem add5 (a b c d e : UInt32) : ((a.toNat : Int) + b.toNat + c.toNat + d.toNat + e.toNat) % (4294967296 : Int) = ((a + b + c + d + e).toNat : Int) := by
  simp only [UInt32.toNat_add]; omega
theorem add2 (a b : UInt32) : ((a.toNat : Int) + b.toNat) % (4294967296 : Int) = ((a + b).toNat : Int) := by
  simp only [UInt32.toNat_add]; omega
theorem x_eq (L : List UInt32) (st : Sha.St) (k : Nat) (kk ll : UInt32) (h1 : Sha.ks.getD k 0 = kk) (h2 : L.getD k 0 = ll) :
    ((st.h.toNat : Int) + (Sha.bs1 st.e).toNat + bits .xor .u32 (bits .and .u32 (st.e.toNat : Int) (st.f.toNat : Int)) (bits .and .u32 (bits .xor .u32 (if IntKind.u32.signed = true then -1 else IntKind.u32.max) (st.e.toNat : Int)) (st.g.toNat : Int)) + kk.toNat + ll.toNat) % (4294967296 : Int) = ((Sha.xval L st k).toNat : Int) := by
  rw [not_eq, b_and, b_and, b_xor, add5, Sha.xval, h1, h2]
theorem y_eq (st : Sha.St) : (((Sha.bs0 st.a).toNat : Int) + bits .xor .u32 (bits .xor .u32 (bits .and .u32 (st.a.toNat : Int) (st.b.toNat : Int)) (bits .and .u32 (st.a.toNat : Int) (st.c.toNat : Int))) (bits .and .u32 (st.b.toNat : Int) (st.c.toNat : Int))) % (4294967296 : Int) = ((Sha.yval st).toNat : Int) := by
  rw [b_and, b_and, b_and, b_xor, b_xor, add2, Sha.yval]
theorem int_eq {k : IntKind} {a b : Int} (h : a = b) : Value.int k a = Value.int k b := by rw [h]
theorem index40 (st : Sha.St) (W : World) : ∀ i : Nat, i < 8 →
    (Instr.index 180 (.agg #[.int .u32 st.a.toNat, .int .u32 st.b.toNat, .int .u32 st.c.toNat, .int .u32 st.d.toNat, .int .u32 st.e.toNat, .int .u32 st.f.toNat, .int .u32 st.g.toNat, .int .u32 st.h.toNat]) (.int .i64 (i : Int))).run prog W = .ok (.int .u32 ((Sha.stList st).getD i 0).toNat) W
  | 0, _ => by kernel_rfl
  | 1, _ => by kernel_rfl
  | 2, _ => by kernel_rfl
  | 3, _ => by kernel_rfl
  | 4, _ => by kernel_rfl
  | 5, _ => by kernel_rfl
  | 6, _ => by kernel_rfl
  | 7, _ => by kernel_rfl
  | n + 8, h => by omega
theorem new_row (w w1 : World) (L : List UInt32) (C : Array Value) (hC : C.size = 64) (hL : L.length = 64) (hg : w.grownBy w1 none) (w2 : World) (h2 : (w1.alloc (.cells C 220)).setCells w1.heap.size 0 (L.map wv) = w2) :
    Has w2 w1.heap.size (L.map wv) 220 ∧ w.grownBy w2 none := by
  subst h2; refine ⟨(Has.newA w1 C 220).setAll _ (by simp [hC, hL]), ?_⟩; exact gr_new (hg.trans (gAl _ _ _)) (gr_sets _ _ _ _) hg.size
theorem mix_any (ws : List UInt32) (blk : List UInt8) (len b : Nat) (w : World) (h8 : ws.length = 8) (h64 : blk.length = 64) (hb : Has w b (hcs ws blk len) 182) (hk : Kc w) :
    Calls prog 129 #[.pointer (some ⟨b, 0, none⟩)] w fun e w' => e = .returned (.tuple #[]) ∧ Has w' b (hcs (Sha.mixW ws blk) blk len) 182 ∧ w.grownBy w' (some b) := by
  have HB : Kp (Has w b (hcs ws blk len) 182) := ⟨hb⟩; have HK : Kp (Kc w) := ⟨hk⟩; have HL : Kp (blk.length = 64) := ⟨h64⟩; have HW : Kp (ws.length = 8) := ⟨h8⟩; clear hb hk h64 h8; go_enter func129, ntmps129
  go_wp2_with (first
    | (refine wpList_load_mid rfl 111 _ rfl _ _ rfl _ _ (HB.out.rangeMid 8 (ws.map wv) (blk.map bv) [.int .u64 len] rfl (by simp [HW.out])) under41 rfl (by rw [List.length_map, HL.out]; exact size41) ?_)
    | (go_at_call 177; refine (schedule_any blk _ _ rfl HL.out).mono ?_; rintro e w1 ⟨rfl, hg1⟩; generalize hLq : Sha.sched blk = L; have HQ : Kp (Sha.sched blk = L) := ⟨hLq⟩; clear hLq; have HG1 : Kp (w.grownBy w1 none) := ⟨hg1⟩; clear hg1; have HLL : Kp (L.length = 64) := ⟨by rw [← HQ.out]; exact Sha.schedTo_len blk 64⟩)
    | (refine wpList_store_mid rfl 220 _ _ rfl _ _ _ rfl rfl ((Has.newA w1 _ 220).there 0 _ (by rw [List.size_toArray, List.length_map, HLL.out]; decide)) (by rw [List.size_toArray, List.length_map, HLL.out]; exact size50) (all_oneCell_toArray (by simp [Value.oneCell'])) ?_
       generalize hw2 : World.setCells _ _ _ _ = w2; have H2 : Kp (Has w2 w1.heap.size (L.map wv) 220 ∧ w.grownBy w2 none) := ⟨new_row w w1 L _ rfl HLL.out HG1.out w2 hw2⟩
       clear hw2))
  have HB2 : Kp (Has w2 b (hcs ws blk len) 182) := ⟨HB.out.kept H2.out.2 (by simp)⟩; have HK2 : Kp (Kc w2) := ⟨HK.out.kept H2.out.2 (by simp)⟩; obtain ⟨s, hs⟩ : ∃ s, Sha.stOf ws = s := ⟨_, rfl⟩; have HS : Kp (Sha.stOf ws = s) := ⟨hs⟩; have c0 : w2.cell? ⟨b, 0, none⟩ = some (.int .u32 s.a.toNat) := by rw [← hs]; exact HB2.out.cellv _ _ (hcs_word ws blk len HW.out 0 (by decide))
  have c1 : w2.cell? ⟨b, 1, none⟩ = some (.int .u32 s.b.toNat) := by rw [← hs]; exact HB2.out.cellv _ _ (hcs_word ws blk len HW.out 1 (by decide))
  have c2 : w2.cell? ⟨b, 2, none⟩ = some (.int .u32 s.c.toNat) := by rw [← hs]; exact HB2.out.cellv _ _ (hcs_word ws blk len HW.out 2 (by decide))
  have c3 : w2.cell? ⟨b, 3, none⟩ = some (.int .u32 s.d.toNat) := by rw [← hs]; exact HB2.out.cellv _ _ (hcs_word ws blk len HW.out 3 (by decide))
  have c4 : w2.cell? ⟨b, 4, none⟩ = some (.int .u32 s.e.toNat) := by rw [← hs]; exact HB2.out.cellv _ _ (hcs_word ws blk len HW.out 4 (by decide))
  have c5 : w2.cell? ⟨b, 5, none⟩ = some (.int .u32 s.f.toNat) := by rw [← hs]; exact HB2.out.cellv _ _ (hcs_word ws blk len HW.out 5 (by decide))
  have c6 : w2.cell? ⟨b, 6, none⟩ = some (.int .u32 s.g.toNat) := by rw [← hs]; exact HB2.out.cellv _ _ (hcs_word ws blk len HW.out 6 (by decide))
  have c7 : w2.cell? ⟨b, 7, none⟩ = some (.int .u32 s.h.toNat) := by rw [← hs]; exact HB2.out.cellv _ _ (hcs_word ws blk len HW.out 7 (by decide))
  clear hs; simp only [Act.put]; go_quiet (fail)
  go_wp2
  go_quiet (fail)
  go_wp2
  go_loopw [3, 4, 5, 6, 7, 8, 9, 10, 61] (fun v3 v4 v5 v6 v7 v8 v9 v10 t w' => ∃ (k : Nat) (st : Sha.St), k ≤ 64 ∧ t = .int .i64 k ∧ Kp (∃ n, w' = w2.drewN n) ∧ Kp (Sha.rndTo L s k = st) ∧ v3 = .int .u32 st.a.toNat ∧ v4 = .int .u32 st.b.toNat ∧ v5 = .int .u32 st.c.toNat ∧ v6 = .int .u32 st.d.toNat ∧ v7 = .int .u32 st.e.toNat ∧ v8 = .int .u32 st.f.toNat ∧ v9 = .int .u32 st.g.toNat ∧ v10 = .int .u32 st.h.toNat) (fun _ _ _ _ _ _ _ _ t _ => 64 - (intOf t).toNat)
  case atStart => exact ⟨0, s, by omega, rfl, ⟨_, World.drewN_drewN _ _ _⟩, ⟨rfl⟩, rfl, rfl, rfl, rfl, rfl, rfl, rfl, rfl⟩
  case round =>
    obtain ⟨k, st, hk, rfl, hwr, hst, rfl, rfl, rfl, rfl, rfl, rfl, rfl, rfl⟩ := hrel; by_cases hlt : k < 64
    · obtain ⟨kk, hkk⟩ : ∃ x, Sha.ks.getD k 0 = x := ⟨_, rfl⟩; obtain ⟨ll, hll⟩ : ∃ x, L.getD k 0 = x := ⟨_, rfl⟩; (have d0 : wr.cell? ⟨1, k, none⟩ = some (.int .u32 kk.toNat) := by obtain ⟨n, e⟩ := hwr.out; rw [← hkk, e]; exact HK2.out k hlt); (have d1 : wr.cell? ⟨w1.heap.size, k, none⟩ = some (.int .u32 ll.toNat) := by obtain ⟨n, e⟩ := hwr.out; rw [← hll, e]; exact H2.out.1.cellv _ _ (get_map wv L 0 k (by rw [HLL.out]; omega))); have HKK : Kp (Sha.ks.getD k 0 = kk) := ⟨hkk⟩; have HL2 : Kp (L.getD k 0 = ll) := ⟨hll⟩; clear hkk hll
      go_wp2
      go_quiet ((go_at_call 178; exact Calls.quiet_of_same (bs1_any _ _)))
      go_wp2_with (go_at_call 179; refine (bs0_any _ _).mono ?_; rintro e w' ⟨rfl, rfl⟩)
      have hx := x_eq L st k kk ll HKK.out HL2.out; have hy := y_eq st; refine ⟨⟨k + 1, Sha.rnd L st k, by omega, by go_num, ⟨by obtain ⟨n, e⟩ := hwr.out; exact ⟨_, by rw [e, World.drewN_drewN]⟩⟩, ⟨by rw [Sha.rndTo, hst.out]⟩, int_eq ?_, rfl, rfl, rfl, int_eq ?_, rfl, rfl, rfl⟩, ?_⟩
      · rw [hx, hy, add2]; rfl
      · rw [hx, add2]; rfl
      · simp [intOf]; omega
    · (have hk64 : k = 64 := by omega); have HST : Kp (Sha.rndTo L s 64 = st) := ⟨by rw [← hk64]; exact hst.out⟩
      have HR : Kp (Has wr b (hcs ws blk len) 182 ∧ w.grownBy wr (some b)) := ⟨by
        obtain ⟨n, e⟩ := hwr.out; rw [e]
        exact ⟨HB2.out, (H2.out.2.trans (gr_drewN _ _ _)).but _⟩⟩
      clear hst
      go_wp2
      go_loopw [121] (fun t w' => ∃ i : Nat, i ≤ 8 ∧ t = .int .i64 i ∧ Kp (Has w' b (hcs (Sha.addTo ws (Sha.stList st) i) blk len) 182 ∧ w.grownBy w' (some b))) (fun t _ => 8 - (intOf t).toNat)
      case atStart => exact ⟨0, by omega, rfl, HR⟩
      case round =>
        obtain ⟨i, hi, rfl, hrel2⟩ := hrel; by_cases hli : i < 8
        · (have hx := fun W => index40 st W i hli); obtain ⟨y, hy⟩ : ∃ y, (Sha.stList st).getD i 0 = y := ⟨_, rfl⟩; obtain ⟨z, hz⟩ : ∃ z, (Sha.addTo ws (Sha.stList st) i).getD i 0 = z := ⟨_, rfl⟩; rw [hy] at hx; (have hc : wr.cell? ⟨b, i, none⟩ = some (.int .u32 z.toNat) := by rw [← hz]; exact hrel2.out.1.cellv _ _ (hcs_word _ blk len (by rw [Sha.addTo_len, HW.out]) i hli)); have hf := hrel2.out.1.frozen i; have HY : Kp ((Sha.stList st).getD i 0 = y) := ⟨hy⟩; have HZ : Kp ((Sha.addTo ws (Sha.stList st) i).getD i 0 = z) := ⟨hz⟩; (have hli' : (i : Int) < 8 := by omega); clear hy hz
          go_wp2
          go_region
          all_goals go_wp2
          refine ⟨⟨i + 1, by omega, by go_num, ⟨?_, ?_⟩⟩, ?_⟩
          · have := hrel2.out.1.setCell i (wv (z + y)); rw [hcs_setw _ blk len (by rw [Sha.addTo_len, HW.out]) i hli] at this; rw [add2, Sha.addTo, HZ.out, HY.out]; exact this
          · exact (hrel2.out.2.trans (gr_set _ _ _ _)).trans (gr_drewN _ 1 _)
          · simp [intOf]; omega
        · have hi8 : i = 8 := by omega
          have HF : Kp (Has wr b (hcs (Sha.mixW ws blk) blk len) 182 ∧ w.grownBy wr (some b)) := ⟨by
            have h := hrel2.out; rw [hi8] at h; rw [Sha.mixW, HQ.out, HS.out, HST.out]
            exact h⟩
          go_wp2
          go_end0
          exact ⟨rfl, HF.out⟩
end Go.Proofs.YtldnpebnpbahjaaGreatDoor
namespace Go.Proofs.YtldnpebnpbahjaaGreatDoor
namespace Sha
def HP (T : List UInt8) (ws : List UInt32) (blk : List UInt8) : Prop :=
  ws = fold iv T ∧ blk.length = 64 ∧ blk.take (T.length % 64) = T.drop (64 * (T.length / 64))
def padW (ws : List UInt32) (tail : List UInt8) (len : Nat) : List UInt32 :=
  if tail.length < 56 then mixW ws (tail ++ 128 :: List.replicate (55 - tail.length) 0 ++ len8 len)
  else mixW (mixW ws (tail ++ 128 :: List.replicate (63 - tail.length) 0)) (List.replicate 56 0 ++ len8 len)
theorem fold_split (ws : List UInt32) (T U : List UInt8) : fold ws (T ++ U) = fold (fold ws T) (T.drop (64 * (T.length / 64)) ++ U) := by
  have e : T = T.take (64 * (T.length / 64)) ++ T.drop (64 * (T.length / 64)) := (List.take_append_drop _ _).symm; have l : (T.take (64 * (T.length / 64))).length = 64 * (T.length / 64) := by rw [List.length_take]; omega
  have d : (T.drop (64 * (T.length / 64))).length < 64 := by rw [List.length_drop]; omega
  have f1 : fold ws T = foldN (T.length / 64) ws (T.take (64 * (T.length / 64))) := by
    have := foldN_append _ ws _ (T.drop (64 * (T.length / 64))) l; rw [← e, fold_short _ _ d] at this; exact this
  rw [f1, ← foldN_append _ ws _ _ l, ← List.append_assoc, ← e]
theorem fold_one (ws : List UInt32) (b : List UInt8) (h : b.length = 64) : fold ws b = mixW ws b := by
  have := fold_block ws b [] h
  rwa [List.append_nil, fold_short _ [] (by simp)] at this
theorem w4_len (x : UInt32) : (w4 x).length = 4 := rfl
theorem len8_len (n : Nat) : (len8 n).length = 8 := rfl
theorem HP.start : HP [] iv (List.replicate 64 0) := ⟨(fold_short _ _ (by simp)).symm, by simp, by simp⟩
theorem drop_len (T : List UInt8) : (T.drop (64 * (T.length / 64))).length = T.length % 64 := by rw [List.length_drop]; omega
theorem HP.part {T : List UInt8} {ws : List UInt32} {blk : List UInt8} (h : HP T ws blk) (q : List UInt8) (hq : T.length % 64 + q.length < 64) :
    HP (T ++ q) ws (blk.take (T.length % 64) ++ q ++ blk.drop (T.length % 64 + q.length)) := by
  obtain ⟨h1, h2, h3⟩ := h; have e1 : (T ++ q).length % 64 = T.length % 64 + q.length := by rw [List.length_append]; omega
  have e2 : (T ++ q).length / 64 = T.length / 64 := by rw [List.length_append]; omega
  refine ⟨?_, ?_, ?_⟩
  · rw [fold_split, ← h1, fold_short]; rw [List.length_append, drop_len]; omega
  · simp only [List.length_append, List.length_take, List.length_drop, h2]; omega
  · rw [e1, e2, h3, List.take_append_of_le_length (by simp only [List.length_append, drop_len]; omega), List.take_of_length_le (by simp only [List.length_append, drop_len]; omega),
      List.drop_append_of_le_length (by omega)]
theorem HP.full {T : List UInt8} {ws : List UInt32} {blk : List UInt8} (h : HP T ws blk) (q : List UInt8) (hq : T.length % 64 + q.length = 64) :
    HP (T ++ q) (mixW ws (blk.take (T.length % 64) ++ q ++ blk.drop (T.length % 64 + q.length))) (blk.take (T.length % 64) ++ q ++ blk.drop (T.length % 64 + q.length)) := by
  obtain ⟨h1, h2, h3⟩ := h; have e1 : (T ++ q).length % 64 = 0 := by rw [List.length_append]; omega
  have e2 : 64 * ((T ++ q).length / 64) = (T ++ q).length := by omega
  refine ⟨?_, ?_, ?_⟩
  · rw [fold_split, ← h1, fold_one _ _ (by rw [List.length_append, drop_len]; exact hq), h3, show blk.drop (T.length % 64 + q.length) = [] from List.drop_of_length_le (by omega), List.append_nil]
  · simp only [List.length_append, List.length_take, List.length_drop, h2]; omega
  · rw [e1, e2, List.drop_length, List.take_zero]
theorem HP.pad {T : List UInt8} {ws : List UInt32} {blk : List UInt8} (h : HP T ws blk) : padW ws (blk.take (T.length % 64)) T.length = fold iv (T ++ padOf T.length) := by
  obtain ⟨h1, h2, h3⟩ := h; have hl := drop_len T; rw [fold_split, ← h1, padW, h3, padOf]; generalize hd : T.drop (64 * (T.length / 64)) = tail at *; rw [hl]; by_cases hc : T.length % 64 < 56
  · rw [if_pos hc, if_pos hc]
    have e : (tail ++ 128 :: List.replicate (55 - T.length % 64) 0 ++ len8 T.length).length = 64 := by
      simp only [List.length_append, List.length_cons, List.length_replicate, len8_len]; omega
    rw [← fold_one _ _ e]; simp
  · rw [if_neg hc, if_neg hc]
    have e1 : (tail ++ 128 :: List.replicate (63 - T.length % 64) 0).length = 64 := by
      simp only [List.length_append, List.length_cons, List.length_replicate]; omega
    have e2 : (List.replicate 56 (0 : UInt8) ++ len8 T.length).length = 64 := by
      simp only [List.length_append, List.length_replicate, len8_len]
    rw [← fold_one _ _ e2, ← fold_block _ _ _ e1]
    have e3 : List.replicate (119 - T.length % 64) (0 : UInt8) = List.replicate (63 - T.length % 64) 0 ++ List.replicate 56 0 := by
      rw [List.replicate_append_replicate]; congr 1; omega
    rw [e3]; simp
end Sha
open Go Go.RowKit Go.Proofs.Tryz
theorem wpList_clear_run {P : Program} (w : World) {ops : Array Oper} {rest : List Oper} {o : Oper} {a : Act} {Q : Exit → Act → World → Prop} (hgd : o.guard = none) (d : Operand) (t : TypeId)
    (ho : o.op = .call { callee := .builtin .clear, args := #[d], argTypes := #[t] }) (v : Value) (hd : a.eval d = v) {v' : Value} {w' : World}
    (hr : (Builtin.clear_ #[t] o.type #[v]).run P w = .ok v' w') (h : wpList P ops Q rest (a.put o.dst v') w') : wpList P ops Q (o :: rest) a w :=
  wpList_plain hgd fun _ hK => by
    unfold Oper.wp execOp; simp only [ho, resolve, invoke, builtin, Sem.run_bind, Sem.run_pure, Result.andThen_ok, List.map_toArray, List.map_cons, List.map_nil, hd, hr]; exact hK _ _ h
theorem under28 : prog.underlying 60 = some (.slice 5) := by kernel_rfl
theorem clear28 (W : World) (b o n : Nat) (cs : List Value) (t ty : TypeId) (hb : Has W b cs t) (ho : o + n ≤ cs.length) :
    (Builtin.clear_ #[60] ty #[.slice (some ⟨b, o, none⟩) n n]).run prog W = .ok (.tuple #[]) (W.setCells b o (List.replicate n (.int .u8 0))) := by
  by_cases hn : n = 0
  · subst hn; simp [Builtin.clear_, run_underlying under28, World.setCells]
  · exact Lib.run_clear_slice W 60 5 ty (.int .u8 0) under28 (fun _ => by kernel_rfl) rfl rfl b o n n (by omega) (fun j hj => (hb.there o n ho j hj).1) (fun j hj => (hb.there o n ho j hj).2)
theorem slice41e (k : IntKind) (b : Nat) (n : Nat) (hn : n ≤ 64) : ∃ A : Addr, (∀ W : World, (Instr.sliceAt 111 (.pointer (some ⟨b, 8, none⟩)) (some (.int k (n : Int))) none none).run prog W = .ok (.slice (some A) (64 - n) (64 - n)) W) ∧
    ∀ (W : World) (cs : List Value) (ty : TypeId), Has W b cs 182 → cs.length = 73 → (Builtin.clear_ #[60] ty #[.slice (some A) (64 - n) (64 - n)]).run prog W = .ok (.tuple #[]) (W.setCells b (8 + n) (List.replicate (64 - n) (.int .u8 0))) := by
  by_cases h : n < 64
  · exact ⟨⟨b, 8 + n, none⟩, slice41 k b 8 n n rfl h, fun W cs ty hb hl => clear28 W b (8 + n) (64 - n) cs 182 ty hb (by omega)⟩
  · (have : n = 64 := by omega); subst this; refine ⟨⟨b, 8, none⟩, fun W => ?_, fun W cs ty hb hl => ?_⟩
    · (have z : (sizeOf (prog.elem 111)).run prog W = .ok 1 W := by kernel_rfl); (have l : prog.arrayLen 111 = 64 := by kernel_rfl); rw [run_sliceAt_array_l W 111 _ (by kernel_rfl) k (64 : Nat) (by omega) (by rw [l]; omega), z, l]; simp only [Result.andThen, slicedAt]; rfl
    · simp [Builtin.clear_, run_underlying under28, World.setCells]
theorem hcs_over (ws : List UInt32) (blk q : List UInt8) (len o : Nat) (h8 : ws.length = 8) (h64 : blk.length = 64) (ho : o + q.length ≤ 64) :
    over (hcs ws blk len) (8 + o) (q.map bv) = hcs ws (blk.take o ++ q ++ blk.drop (o + q.length)) len := by
  rw [over_eq _ _ _ (by rw [hcs_length _ _ _ h8 h64, List.length_map]; omega)]; unfold hcs
  have e1 : (ws.map wv ++ blk.map bv ++ [Value.int .u64 len]).take (8 + o) = ws.map wv ++ (blk.take o).map bv := by
    rw [List.append_assoc, List.take_append, List.take_of_length_le (by simp <;> omega), List.take_append_of_le_length (by simp [h8]; omega)]; simp [h8]
  have e2 : (ws.map wv ++ blk.map bv ++ [Value.int .u64 len]).drop (8 + o + (q.map bv).length) = (blk.drop (o + q.length)).map bv ++ [Value.int .u64 len] := by
    rw [List.append_assoc, List.drop_append, List.drop_of_length_le (by simp <;> omega), List.drop_append_of_le_length (by simp [h8]; omega)]; simp [h8]
    congr 1
    omega
  rw [e1, e2]; simp
theorem pad_blk (blk : List UInt8) (r : Nat) (h64 : blk.length = 64) (hr : r < 64) :
    (blk.take r ++ [128] ++ blk.drop (r + 1)).take (r + 1) ++ List.replicate (64 - (r + 1)) 0 ++ (blk.take r ++ [128] ++ blk.drop (r + 1)).drop (r + 1 + (List.replicate (64 - (r + 1)) (0 : UInt8)).length) = blk.take r ++ 128 :: List.replicate (63 - r) 0 := by
  have l : (blk.take r ++ [(128 : UInt8)]).length = r + 1 := by simp; omega
  have l2 : (blk.take r ++ [128] ++ blk.drop (r + 1)).length = 64 := by simp; omega
  rw [List.take_append_of_le_length (by omega), List.take_of_length_le (by omega), List.drop_of_length_le (by rw [l2, List.length_replicate]; omega), List.append_nil, show 64 - (r + 1) = 63 - r by omega]; simp
structure HS (w0 w : World) (b : Nat) (ws : List UInt32) (blk : List UInt8) (len : Nat) : Prop where
  h8 : ws.length = 8
  h64 : blk.length = 64
  has : Has w b (hcs ws blk len) 182
  gr : w0.grownBy w (some b)
  kc : Kc w
theorem HS.setByte {w0 w : World} {b : Nat} {ws : List UInt32} {blk : List UInt8} {len : Nat} (h : HS w0 w b ws blk len) (hb0 : 1 ≠ b) (r : Nat) (hr : r < 64) (x : UInt8) (w' : World) (hw : w.setCell ⟨b, 8 + r, none⟩ (bv x) = w') :
    HS w0 w' b ws (blk.take r ++ [x] ++ blk.drop (r + 1)) len := by
  subst hw; refine ⟨h.h8, ?_, ?_, h.gr.trans (gr_set _ _ _ _), h.kc.kept (gr_set _ _ _ _) (by simpa using hb0)⟩
  · have := h.h64; simp; omega
  · have := h.has.setCells [bv x] (8 + r); rw [show [bv x] = [x].map bv from rfl, hcs_over _ _ [x] _ r h.h8 h.h64 (by simp <;> omega)] at this; exact this
theorem HS.sets {w0 w : World} {b : Nat} {ws : List UInt32} {blk : List UInt8} {len : Nat} (h : HS w0 w b ws blk len) (hb0 : 1 ≠ b) (o : Nat) (q : List UInt8) (ho : o + q.length ≤ 64) (w' : World) (hw : w.setCells b (8 + o) (q.map bv) = w') :
    HS w0 w' b ws (blk.take o ++ q ++ blk.drop (o + q.length)) len := by
  subst hw; refine ⟨h.h8, ?_, ?_, h.gr.trans (gr_sets _ _ _ _), h.kc.kept (gr_sets _ _ _ _) (by simpa using hb0)⟩
  · have := h.h64; simp; omega
  · have := h.has.setCells (q.map bv) (8 + o); rw [hcs_over _ _ q _ o h.h8 h.h64 ho] at this; exact this
theorem HS.mixed {w0 w w' : World} {b : Nat} {ws : List UInt32} {blk : List UInt8} {len : Nat} (h : HS w0 w b ws blk len) (hb0 : 1 ≠ b) (h1 : Has w' b (hcs (Sha.mixW ws blk) blk len) 182) (h2 : w.grownBy w' (some b)) : HS w0 w' b (Sha.mixW ws blk) blk len :=
  ⟨by rw [Sha.mixW_len]; exact h.h8, h.h64, h1, h.gr.trans h2, h.kc.kept h2 (by simpa using hb0)⟩
theorem HS.len {w0 w : World} {b : Nat} {ws : List UInt32} {blk : List UInt8} {len : Nat} (h : HS w0 w b ws blk len) : w.cell? ⟨b, 72, none⟩ = some (.int .u64 len) := h.has.cellv _ _ (hcs_len _ _ _ h.h8 h.h64)
theorem HS.there {w0 w : World} {b : Nat} {ws : List UInt32} {blk : List UInt8} {len : Nat} (h : HS w0 w b ws blk len) (j : Nat) (hj : j < 73) : ∃ v, w.cell? ⟨b, j, none⟩ = some v := ⟨_, by rw [h.has.cell, List.getElem?_eq_getElem (by rw [hcs_length _ _ _ h.h8 h.h64]; exact hj)]⟩
theorem u64w (x : Int) : IntKind.u64.wrap x = x % 18446744073709551616 := by
  simp [IntKind.wrap, IntKind.bits, IntKind.signed]
theorem size_hi (len : Nat) : IntKind.u64.wrap ((len : Int) * 8) / 4294967296 % 4294967296 = ((UInt32.ofNat (len * 8 % 2 ^ 64 / 2 ^ 32)).toNat : Int) := by
  rw [u64w, UInt32.toNat_ofNat']; omega
theorem size_lo (len : Nat) : IntKind.u64.wrap ((len : Int) * 8) % 4294967296 = ((UInt32.ofNat (len * 8)).toNat : Int) := by
  rw [u64w, UInt32.toNat_ofNat']; omega
theorem HS.sized {w0 w : World} {b : Nat} {ws : List UInt32} {blk : List UInt8} {len : Nat} (h : HS w0 w b ws blk len) (hb0 : 1 ≠ b) (hi lo : UInt32) (hhi : UInt32.ofNat (len * 8 % 2 ^ 64 / 2 ^ 32) = hi) (hlo : UInt32.ofNat (len * 8) = lo) (w' : World)
    (hw : (w.setCells b 64 ((Sha.w4 hi).map bv)).setCells b 68 ((Sha.w4 lo).map bv) = w') : HS w0 w' b ws (blk.take 56 ++ Sha.len8 len) len := by
  have h1 := h.sets hb0 56 (Sha.w4 hi) (by rw [Sha.w4_len]; decide) _ rfl; have h2 := h1.sets hb0 60 (Sha.w4 lo) (by rw [Sha.w4_len]; decide) _ rfl
  have e : (blk.take 56 ++ Sha.w4 hi ++ blk.drop (56 + (Sha.w4 hi).length)).take 60 ++ Sha.w4 lo ++ (blk.take 56 ++ Sha.w4 hi ++ blk.drop (56 + (Sha.w4 hi).length)).drop (60 + (Sha.w4 lo).length) = blk.take 56 ++ Sha.len8 len := by
    (have l : (blk.take 56 ++ Sha.w4 hi).length = 60 := by simp [Sha.w4_len, h.h64]); (have l2 : (blk.take 56 ++ Sha.w4 hi ++ blk.drop (56 + (Sha.w4 hi).length)).length = 64 := by simp [Sha.w4_len, h.h64]); rw [List.take_append_of_le_length (by omega), List.take_of_length_le (by omega), List.drop_of_length_le (by rw [l2, Sha.w4_len]; omega), List.append_nil, Sha.len8, hhi, hlo, List.append_assoc]
  rw [e] at h2; rw [← hw]; exact h2
theorem HS.cleared {w0 w : World} {b : Nat} {ws : List UInt32} {blk : List UInt8} {len : Nat} (h : HS w0 w b ws blk len) (hb0 : 1 ≠ b) (r : Nat) (hr : r < 64) (w' : World)
    (hw : (w.setCell ⟨b, 8 + r, none⟩ (.int .u8 128)).setCells b (8 + (r + 1)) (List.replicate (63 - r) (.int .u8 0)) = w') :
    HS w0 w' b ws (blk.take r ++ 128 :: List.replicate (63 - r) 0) len := by
  have h1 := h.setByte hb0 r hr 128 _ rfl; have h2 := h1.sets hb0 (r + 1) (List.replicate (64 - (r + 1)) 0) (by simp <;> omega) _ rfl; rw [pad_blk blk r h.h64 hr] at h2; rw [← hw]; rw [List.map_replicate, show 64 - (r + 1) = 63 - r by omega] at h2; exact h2
theorem HS.clr1 {w0 w : World} {b : Nat} {ws : List UInt32} {blk : List UInt8} {len : Nat} (h : HS w0 w b ws blk len) (hb0 : 1 ≠ b) (r : Nat) (hr : r < 64) : Has (w.setCell ⟨b, 8 + r, none⟩ (.int .u8 128)) b (hcs ws (blk.take r ++ [128] ++ blk.drop (r + 1)) len) 182 ∧ (hcs ws (blk.take r ++ [128] ++ blk.drop (r + 1)) len).length = 73 := by
  have h1 := h.setByte hb0 r hr 128 _ rfl; exact ⟨h1.has, hcs_length _ _ _ h1.h8 h1.h64⟩
theorem HS.zeroed {w0 w : World} {b : Nat} {ws : List UInt32} {blk : List UInt8} {len : Nat} (h : HS w0 w b ws blk len) (hb0 : 1 ≠ b) (w' : World) (hw : w.setCells b 8 (List.replicate 64 (.int .u8 0)) = w') :
    HS w0 w' b ws (List.replicate 64 0) len := by
  have h2 := h.sets hb0 0 (List.replicate 64 0) (by simp) _ rfl; rw [List.take_zero, List.nil_append, List.drop_of_length_le (by rw [h.h64, List.length_replicate]; omega), List.append_nil, List.map_replicate] at h2; rw [← hw]; exact h2
theorem pad_lo (ws : List UInt32) (blk : List UInt8) (len b r : Nat) (w : World) (hS : HS w w b ws blk len) (hb0 : 1 ≠ b) (hlen : len < 2 ^ 64) (hr : len % 64 = r) (hr56 : r < 56) :
    Calls prog 175 #[.pointer (some ⟨b, 0, none⟩)] w fun e w' => e = .returned (.tuple #[]) ∧ ∃ blk', HS w w' b (Sha.padW ws (blk.take (len % 64)) len) blk' len := by
  have hr' : (len : Int) % 64 = (r : Int) := by omega
  have hlc := hS.len; obtain ⟨v1, hc1⟩ := hS.there (8 + r) (by omega); have hf1 := hS.has.frozen (8 + r); obtain ⟨A, hs1, hcl1⟩ := slice41e .u64 b (r + 1) (by omega); rw [show ((r + 1 : Nat) : Int) = (r : Int) + 1 by omega] at hs1; rw [show 64 - (r + 1) = 63 - r by omega] at hs1 hcl1; have H0 : Kp (HS w w b ws blk len) := ⟨hS⟩; have HC1 : Kp (∀ (W : World) (cs : List Value) (ty : TypeId), Has W b cs 182 → cs.length = 73 → (Builtin.clear_ #[60] ty #[.slice (some A) (63 - r) (63 - r)]).run prog W = .ok (.tuple #[]) (W.setCells b (8 + (r + 1)) (List.replicate (63 - r) (.int .u8 0)))) := ⟨hcl1⟩; have HR : Kp (len % 64 = r) := ⟨hr⟩; have HLN : Kp (len < 2 ^ 64) := ⟨hlen⟩; obtain ⟨hi, hhi⟩ : ∃ x, UInt32.ofNat (len * 8 % 2 ^ 64 / 2 ^ 32) = x := ⟨_, rfl⟩; obtain ⟨lo, hlo⟩ : ∃ x, UInt32.ofNat (len * 8) = x := ⟨_, rfl⟩; have hz1 := size_hi len; have hz2 := size_lo len; rw [hhi] at hz1; rw [hlo] at hz2; have HHI : Kp (UInt32.ofNat (len * 8 % 2 ^ 64 / 2 ^ 32) = hi) := ⟨hhi⟩; have HLO : Kp (UInt32.ofNat (len * 8) = lo) := ⟨hlo⟩; clear hS hcl1 hr hlen hhi hlo; go_enter func175, ntmps175
  go_wp2_with (
    (refine wpList_clear_run _ rfl _ 60 rfl _ rfl (HC1.out _ _ _ (H0.out.clr1 hb0 r (by omega)).1 (H0.out.clr1 hb0 r (by omega)).2) ?_
     generalize hw2 : World.setCells _ _ _ _ = w2; have H2 : Kp (HS w w2 b ws (blk.take r ++ 128 :: List.replicate (63 - r) 0) len) := ⟨H0.out.cleared hb0 r (by omega) w2 hw2⟩; have hlc2 := H2.out.len
     clear hw2))
  have hp1 : Kp (Has w2 b (hcs ws (blk.take r ++ 128 :: List.replicate (63 - r) 0) len) 182 ∧ (hcs ws (blk.take r ++ 128 :: List.replicate (63 - r) 0) len).length = 73) := ⟨H2.out.has, hcs_length _ _ _ H2.out.h8 H2.out.h64⟩; refine (putWord_any hi b 64 8 8 _ 182 _ (by omega) (by rw [hp1.out.2]; omega) hp1.out.1).mono ?_; rintro e w3 ⟨rfl, rfl⟩; have hp2 : Kp (HS w (w2.setCells b 64 ((Sha.w4 hi).map bv)) b ws ((blk.take r ++ 128 :: List.replicate (63 - r) 0).take 56 ++ Sha.w4 hi ++ (blk.take r ++ 128 :: List.replicate (63 - r) 0).drop (56 + (Sha.w4 hi).length)) len) := ⟨H2.out.sets hb0 56 (Sha.w4 hi) (by rw [Sha.w4_len]; decide) _ rfl⟩; go_wp2_with fail; refine (putWord_any lo b 68 4 4 _ 182 _ (by omega) (by rw [hcs_length _ _ _ hp2.out.h8 hp2.out.h64]; omega) hp2.out.has).mono ?_; rintro e w3 ⟨rfl, rfl⟩; generalize hw4 : World.setCells _ b 68 _ = w4; have H4 : Kp (HS w w4 b ws ((blk.take r ++ 128 :: List.replicate (63 - r) 0).take 56 ++ Sha.len8 len) len) := ⟨H2.out.sized hb0 hi lo HHI.out HLO.out w4 hw4⟩; clear hw4 hp1 hp2; go_wp2_with fail; refine (mix_any _ _ len b _ H4.out.h8 H4.out.h64 H4.out.has H4.out.kc).mono ?_; rintro e w5 ⟨rfl, h5, g5⟩; have H5 := H4.out.mixed hb0 h5 g5
  have HF : Kp (∃ blk', HS w w5 b (Sha.padW ws (blk.take (len % 64)) len) blk' len) := ⟨_, by
    have e : Sha.padW ws (blk.take (len % 64)) len = Sha.mixW ws ((blk.take r ++ 128 :: List.replicate (63 - r) 0).take 56 ++ Sha.len8 len) := by
      have h64 := H0.out.h64; have l : (blk.take r).length = r := by rw [List.length_take]; omega
      have t : (blk.take r ++ 128 :: List.replicate (63 - r) 0).take 56 = blk.take r ++ 128 :: List.replicate (55 - r) (0 : UInt8) := by
        rw [List.take_append, l, List.take_of_length_le (by omega), show 56 - r = (55 - r) + 1 by omega, List.take_succ_cons, List.take_replicate]
        congr 3; omega
      rw [HR.out, Sha.padW, l, if_pos (by omega), t]
    rw [e]; exact H5⟩
  clear H5 h5 g5
  go_wp2
  go_end0
  exact ⟨rfl, HF.out⟩
theorem pad_hi (ws : List UInt32) (blk : List UInt8) (len b r : Nat) (w : World) (hS : HS w w b ws blk len) (hb0 : 1 ≠ b) (hlen : len < 2 ^ 64) (hr : len % 64 = r) (hr56 : 56 ≤ r) :
    Calls prog 175 #[.pointer (some ⟨b, 0, none⟩)] w fun e w' => e = .returned (.tuple #[]) ∧ ∃ blk', HS w w' b (Sha.padW ws (blk.take (len % 64)) len) blk' len := by
  have hr64 : r < 64 := by omega
  have hr56' : (56 : Int) ≤ (r : Int) := by omega
  have hr' : (len : Int) % 64 = (r : Int) := by omega
  have hlc := hS.len; obtain ⟨v1, hc1⟩ := hS.there (8 + r) (by omega); have hf1 := hS.has.frozen (8 + r); obtain ⟨A, hs1, hcl1⟩ := slice41e .u64 b (r + 1) (by omega); rw [show ((r + 1 : Nat) : Int) = (r : Int) + 1 by omega] at hs1; rw [show 64 - (r + 1) = 63 - r by omega] at hs1 hcl1; have H0 : Kp (HS w w b ws blk len) := ⟨hS⟩; have HC1 : Kp (∀ (W : World) (cs : List Value) (ty : TypeId), Has W b cs 182 → cs.length = 73 → (Builtin.clear_ #[60] ty #[.slice (some A) (63 - r) (63 - r)]).run prog W = .ok (.tuple #[]) (W.setCells b (8 + (r + 1)) (List.replicate (63 - r) (.int .u8 0)))) := ⟨hcl1⟩; have HR : Kp (len % 64 = r) := ⟨hr⟩; have HLN : Kp (len < 2 ^ 64) := ⟨hlen⟩; obtain ⟨hi, hhi⟩ : ∃ x, UInt32.ofNat (len * 8 % 2 ^ 64 / 2 ^ 32) = x := ⟨_, rfl⟩; obtain ⟨lo, hlo⟩ : ∃ x, UInt32.ofNat (len * 8) = x := ⟨_, rfl⟩; have hz1 := size_hi len; have hz2 := size_lo len; rw [hhi] at hz1; rw [hlo] at hz2; have HHI : Kp (UInt32.ofNat (len * 8 % 2 ^ 64 / 2 ^ 32) = hi) := ⟨hhi⟩; have HLO : Kp (UInt32.ofNat (len * 8) = lo) := ⟨hlo⟩; clear hS hcl1 hr hlen hhi hlo; go_enter func175, ntmps175
  go_wp2_with (first
    | (refine wpList_clear_run _ rfl _ 60 rfl _ rfl (HC1.out _ _ _ (H0.out.clr1 hb0 r (by omega)).1 (H0.out.clr1 hb0 r (by omega)).2) ?_
       generalize hw2 : World.setCells _ _ _ _ = w2; have H2 : Kp (HS w w2 b ws (blk.take r ++ 128 :: List.replicate (63 - r) 0) len) := ⟨H0.out.cleared hb0 r (by omega) w2 hw2⟩
       clear hw2)
    | (go_at_call 129
       refine (mix_any _ _ len b _ H2.out.h8 H2.out.h64 H2.out.has H2.out.kc).mono ?_; rintro e w3 ⟨rfl, h3, g3⟩; have H3 : Kp (HS w w3 b (Sha.mixW ws (blk.take r ++ 128 :: List.replicate (63 - r) 0)) (blk.take r ++ 128 :: List.replicate (63 - r) 0) len) := ⟨H2.out.mixed hb0 h3 g3⟩
       clear h3 g3)
    | (refine wpList_clear_run _ rfl _ 60 rfl _ rfl (clear28 _ b 8 64 _ 182 _ H3.out.has (by rw [hcs_length _ _ _ H3.out.h8 H3.out.h64]; omega)) ?_
       generalize hw6 : World.setCells _ b 8 _ = w6; have H6 : Kp (HS w w6 b (Sha.mixW ws (blk.take r ++ 128 :: List.replicate (63 - r) 0)) (List.replicate 64 0) len) := ⟨H3.out.zeroed hb0 w6 hw6⟩; have hlc6 := H6.out.len
       clear hw6))
  have hp1 : Kp (Has w6 b (hcs (Sha.mixW ws (blk.take r ++ 128 :: List.replicate (63 - r) 0)) (List.replicate 64 (0 : UInt8)) len) 182 ∧ (hcs (Sha.mixW ws (blk.take r ++ 128 :: List.replicate (63 - r) 0)) (List.replicate 64 (0 : UInt8)) len).length = 73) := ⟨H6.out.has, hcs_length _ _ _ H6.out.h8 H6.out.h64⟩; refine (putWord_any hi b 64 8 8 _ 182 _ (by omega) (by rw [hp1.out.2]; omega) hp1.out.1).mono ?_; rintro e w3 ⟨rfl, rfl⟩; have hp2 : Kp (HS w (w6.setCells b 64 ((Sha.w4 hi).map bv)) b (Sha.mixW ws (blk.take r ++ 128 :: List.replicate (63 - r) 0)) ((List.replicate 64 (0 : UInt8)).take 56 ++ Sha.w4 hi ++ (List.replicate 64 (0 : UInt8)).drop (56 + (Sha.w4 hi).length)) len) := ⟨H6.out.sets hb0 56 (Sha.w4 hi) (by rw [Sha.w4_len]; decide) _ rfl⟩; go_wp2_with fail; refine (putWord_any lo b 68 4 4 _ 182 _ (by omega) (by rw [hcs_length _ _ _ hp2.out.h8 hp2.out.h64]; omega) hp2.out.has).mono ?_; rintro e w3 ⟨rfl, rfl⟩; generalize hw4 : World.setCells _ b 68 _ = w4; have H4 : Kp (HS w w4 b (Sha.mixW ws (blk.take r ++ 128 :: List.replicate (63 - r) 0)) ((List.replicate 64 (0 : UInt8)).take 56 ++ Sha.len8 len) len) := ⟨H6.out.sized hb0 hi lo HHI.out HLO.out w4 hw4⟩; clear hw4 hp1 hp2; go_wp2_with fail; refine (mix_any _ _ len b _ H4.out.h8 H4.out.h64 H4.out.has H4.out.kc).mono ?_; rintro e w5 ⟨rfl, h5, g5⟩; have H5 := H4.out.mixed hb0 h5 g5
  have HF : Kp (∃ blk', HS w w5 b (Sha.padW ws (blk.take (len % 64)) len) blk' len) := ⟨_, by
    have e : Sha.padW ws (blk.take (len % 64)) len = Sha.mixW (Sha.mixW ws (blk.take r ++ 128 :: List.replicate (63 - r) 0)) ((List.replicate 64 (0 : UInt8)).take 56 ++ Sha.len8 len) := by
      have h64 := H0.out.h64; (have l : (blk.take r).length = r := by rw [List.length_take]; omega); rw [HR.out, Sha.padW, l, if_neg (by omega), List.take_replicate, show min 56 64 = 56 from rfl]
    rw [e]; exact H5⟩
  clear H5 h5 g5
  go_wp2
  go_end0
  exact ⟨rfl, HF.out⟩
theorem pad_any (ws : List UInt32) (blk : List UInt8) (len b : Nat) (w : World) (hS : HS w w b ws blk len) (hb0 : 1 ≠ b) (hlen : len < 2 ^ 64) :
    Calls prog 175 #[.pointer (some ⟨b, 0, none⟩)] w fun e w' => e = .returned (.tuple #[]) ∧ ∃ blk', HS w w' b (Sha.padW ws (blk.take (len % 64)) len) blk' len := by
  by_cases h : len % 64 < 56
  · exact pad_lo ws blk len b _ w hS hb0 hlen rfl h
  · exact pad_hi ws blk len b _ w hS hb0 hlen rfl (by omega)
theorem under25 : prog.underlying 176 = some (.array 32 5) := by kernel_rfl
theorem size25 : (prog.info? 176).map (·.size) = some 32 := by kernel_rfl
theorem under40 : prog.underlying 180 = some (.array 8 179) := by kernel_rfl
theorem size40 : (prog.info? 180).map (·.size) = some 8 := by kernel_rfl
theorem size44 : (prog.info? 182).map (·.size) = some 73 := by kernel_rfl
theorem under44 : ∃ d, prog.underlying 182 = some d ∧ d.isRow = true := by
  exact ⟨_, underlying182, rfl⟩
def zero73 : Array Value := (hcs (List.replicate 8 0) (List.replicate 64 0) 0).toArray
theorem zero44 : (∀ W : World, (zeroValue 182).run prog W = .ok (.agg zero73) W) :=
  (zero_of_info (P := prog) (t := 182) (v := .agg zero73) (n := 73) (by kernel_rfl)).1
theorem zero73_size : zero73.size = 73 := by kernel_rfl
def L64 (T : List UInt8) : Nat := T.length % 18446744073709551616
theorem L64_mod (T : List UInt8) : L64 T % 64 = T.length % 64 := by unfold L64; omega
theorem L64_lt (T : List UInt8) : L64 T < 2 ^ 64 := by
  have : (2 : Nat) ^ 64 = 18446744073709551616 := by decide
  rw [this]; unfold L64; omega
theorem len8_64 (n : Nat) : Sha.len8 (n % 18446744073709551616) = Sha.len8 n := by
  unfold Sha.len8; have e1 : n % 18446744073709551616 * 8 % 2 ^ 64 = n * 8 % 2 ^ 64 := by omega
  have e2 : UInt32.ofNat (n % 18446744073709551616 * 8) = UInt32.ofNat (n * 8) := by
    apply UInt32.toNat_inj.1; simp only [UInt32.toNat_ofNat']; omega
  rw [e1, e2]
theorem pad64 {T : List UInt8} {ws : List UInt32} {blk : List UInt8} (h : Sha.HP T ws blk) : Sha.padW ws (blk.take (L64 T % 64)) (L64 T) = Sha.fold Sha.iv (T ++ Sha.padOf T.length) := by
  rw [← h.pad, L64_mod]; unfold Sha.padW L64; rw [len8_64]
def HashOf (w : World) (b : Nat) (T : List UInt8) : Prop := ∃ ws blk, Sha.HP T ws blk ∧ Has w b (hcs ws blk (L64 T)) 182
theorem HashOf.kept {w w' : World} {b : Nat} {T : List UInt8} {row : Option Nat} (h : HashOf w b T) (hg : w.grownBy w' row) (hne : some b ≠ row) : HashOf w' b T := by
  obtain ⟨ws, blk, h1, h2⟩ := h; exact ⟨ws, blk, h1, h2.kept hg hne⟩
theorem HashOf.lt {w : World} {b : Nat} {T : List UInt8} (h : HashOf w b T) : b < w.heap.size := by
  obtain ⟨ws, blk, h1, h2⟩ := h; exact h2.lt
theorem HP8 {T : List UInt8} {ws : List UInt32} {blk : List UInt8} (h : Sha.HP T ws blk) : ws.length = 8 := by rw [h.1, Sha.fold_len]; rfl
theorem index40L (l : List UInt32) (h8 : l.length = 8) (i : Nat) (hi : i < 8) (W : World) : (Instr.index 180 (.agg (l.map wv).toArray) (.int .i64 (i : Int))).run prog W = .ok (.int .u32 (l.getD i 0).toNat) W := by
  match l, h8 with
  | [a, b, c, d, e, f, g, h], _ => exact index40 ⟨a, b, c, d, e, f, g, h⟩ W i hi
theorem slice25 (k : IntKind) (b o : Nat) (l : Int) (n : Nat) (hl : l = n) (hn : n < 32) (W : World) :
    (Instr.sliceAt 176 (.pointer (some ⟨b, o, none⟩)) (some (.int k l)) none none).run prog W = .ok (.slice (some ⟨b, o + n, none⟩) (32 - n) (32 - n)) W := by
  subst hl; have e : (⟨b, o, none⟩ : Addr).add n = ⟨b, o + n, none⟩ := Addr.add_mid b o n; have z : (sizeOf (prog.elem 176)).run prog W = .ok 1 W := by kernel_rfl
  have l : prog.arrayLen 176 = 32 := by kernel_rfl
  rw [run_sliceAt_array_l W 176 _ (by kernel_rfl) k n (by omega) (by rw [l]; omega), z, l]; simp only [Result.andThen, slicedAt, Int.toNat_natCast, Nat.mul_one, e]; rw [if_neg (by omega)]
def outTo (ws : List UInt32) (i : Nat) : List UInt8 := Sha.out (ws.take i) ++ List.replicate (32 - 4 * i) 0
theorem out_len (ws : List UInt32) : (Sha.out ws).length = 4 * ws.length := by
  induction ws with
  | nil => rfl
  | cons x r ih => simp only [Sha.out, List.flatMap_cons, List.length_append, Sha.w4_len, List.length_cons] at *; omega
theorem outTo_len (ws : List UInt32) (i : Nat) (h8 : ws.length = 8) (hi : i ≤ 8) : (outTo ws i).length = 32 := by
  rw [outTo, List.length_append, out_len, List.length_take, List.length_replicate]; omega
theorem outTo_step (ws : List UInt32) (i : Nat) (h8 : ws.length = 8) (hi : i < 8) : over ((outTo ws i).map bv) (4 * i) ((Sha.w4 (ws.getD i 0)).map bv) = (outTo ws (i + 1)).map bv := by
  have hl := outTo_len ws i h8 (by omega); have lo : (Sha.out (ws.take i)).length = 4 * i := by rw [out_len, List.length_take]; omega
  rw [over_eq _ _ _ (by rw [List.length_map, List.length_map, hl, Sha.w4_len]; omega), ← List.map_take, ← List.map_drop, ← List.map_append, ← List.map_append]
  congr 1
  have e : ws.take (i + 1) = ws.take i ++ [ws.getD i 0] := by
    rw [List.take_succ_eq_append_getElem (by omega)]; simp [List.getD, show i < ws.length by omega]
  rw [List.length_map, Sha.w4_len, outTo, outTo, List.take_append_of_le_length (by omega), List.take_of_length_le (by omega), e, List.drop_append, List.drop_of_length_le (by omega), lo, List.drop_replicate, Sha.out, Sha.out, List.flatMap_append]; simp only [List.flatMap_cons, List.flatMap_nil, List.append_nil, List.nil_append]
  congr 2
  omega
structure SumRel (w w' : World) (N M : Nat) (ws : List UInt32) (i : Nat) : Prop where
  r : Has w' N ((List.replicate 32 (0 : UInt8)).map bv) 176
  o : Has w' M ((outTo ws i).map bv) 176
  g : w.grownBy w' none
theorem SumRel.step {w w' : World} {N M : Nat} {ws : List UInt32} {i : Nat} (h : SumRel w w' N M ws i) (h8 : ws.length = 8) (hi : i < 8) (hne : M ≠ N) (hM : w.heap.size ≤ M) (w2 : World) (h2 : w'.setCells M (4 * i) ((Sha.w4 (ws.getD i 0)).map bv) = w2) : SumRel w w2 N M ws (i + 1) := by
  subst h2; refine ⟨h.r.kept (gr_sets _ _ _ _) (by simp <;> omega), ?_, gr_new h.g (gr_sets _ _ _ _) hM⟩; rw [← outTo_step ws i h8 hi]; exact h.o.setCells _ _
theorem new2 (w : World) (C : Array Value) : Has ((w.alloc (.cells C 176)).alloc (.cells zero73 182)) (w.heap.size + 1) zero73.toList 182 := by
  have := Has.newA (w.alloc (.cells C 176)) zero73 182
  rwa [heap1] at this
theorem hcs_one (ws : List UInt32) (blk : List UInt8) (len : Nat) : ∀ v ∈ hcs ws blk len, v.oneCell' = true := by
  intro v hv; simp only [hcs, List.mem_append, List.mem_map, List.mem_singleton] at hv; rcases hv with (⟨x, _, rfl⟩ | ⟨x, _, rfl⟩) | rfl <;> rfl
theorem HS.self {w0 w : World} {b : Nat} {ws : List UInt32} {blk : List UInt8} {len : Nat} (h : HS w0 w b ws blk len) : HS w w b ws blk len := ⟨h.h8, h.h64, h.has, World.grownBy.refl _ _, h.kc⟩
theorem bytes_one (l : List UInt8) : (l.map bv).toArray.all (·.oneCell') = true := all_oneCell_toArray (by simp [Value.oneCell'])
theorem sum_gen (b : Nat) (T : List UInt8) (w : World) (hh : HashOf w b T) (hk : Kc w) :
    CRt 128 #[.pointer (some ⟨b, 0, none⟩)] w (.agg ((Sha.sha T).map bv).toArray) := by
  obtain ⟨ws, blk, hP, hb⟩ := hh; obtain ⟨d, hd1, hd2⟩ := under44; have HP0 : Kp (Sha.HP T ws blk) := ⟨hP⟩; have HB : Kp (Has w b (hcs ws blk (L64 T)) 182) := ⟨hb⟩; have HK : Kp (Kc w) := ⟨hk⟩; have HT : Kp (L64 T < 2 ^ 64) := ⟨L64_lt T⟩; have HD : Kp (prog.underlying 182 = some d ∧ d.isRow = true) := ⟨hd1, hd2⟩; have hz := zero44; clear hP hb hk hd1 hd2
  have HZ : Kp (∀ (C : Array Value), C.size = 32 → HS (w.alloc (.cells C 176)) (((w.alloc (.cells C 176)).alloc (.cells zero73 182)).setCells (w.heap.size + 1) 0 (hcs ws blk (L64 T))) (w.heap.size + 1) ws blk (L64 T)) := ⟨fun C hC => by
    have h1 : Has ((w.alloc (.cells C 176)).alloc (.cells zero73 182)) (w.heap.size + 1) zero73.toList 182 := by
      have := Has.newA (w.alloc (.cells C 176)) zero73 182
      rwa [heap1] at this
    have hl := hcs_length ws blk (L64 T) (HP8 HP0.out) HP0.out.2.1; refine ⟨HP8 HP0.out, HP0.out.2.1, h1.setAll _ (by rw [hl]; exact zero73_size.symm), ?_, ?_⟩
    · exact (gAl _ _ _).trans (gr_sets _ _ _ _)
    · exact ((HK.out.kept (gAl _ _ none) (by simp)).kept (gAl _ _ none) (by simp)).kept (gr_sets _ _ _ _) (fun e => by have := HK.out.lt; injection e with e; omega)⟩
  go_enter func128, ntmps128
  go_wp2_with (first
    | (refine wpList_load_mid rfl 182 _ rfl _ _ rfl _ _ ((HB.out.alloc _).range) HD.out.1 HD.out.2 (by rw [hcs_length _ _ _ (HP8 HP0.out) HP0.out.2.1]; exact size44) ?_)
    | (refine wpList_store_mid rfl 182 _ _ rfl _ _ _ rfl rfl ((new2 w _).there 0 _ (by rw [List.size_toArray, hcs_length _ _ _ (HP8 HP0.out) HP0.out.2.1]; exact Nat.le_of_eq zero73_size.symm)) (by rw [List.size_toArray, hcs_length _ _ _ (HP8 HP0.out) HP0.out.2.1]; exact size44) (all_oneCell_toArray (hcs_one _ _ _)) ?_
       generalize hw1 : World.setCells _ _ _ _ = w1; generalize hw0 : World.alloc w _ = w0 at hw1
       have H1 : Kp (HS w0 w1 (w.heap.size + 1) ws blk (L64 T) ∧ Has w0 w.heap.size ((List.replicate 32 (0 : UInt8)).map bv) 176 ∧ w.grownBy w0 none) := ⟨by
          subst hw0; rw [← hw1]; exact ⟨HZ.out _ rfl, Has.new _ _ _, gAl _ _ _⟩⟩
       clear hw0 hw1))
  have hb0 : (1 : Nat) ≠ w.heap.size + 1 := by have := HK.out.lt; omega
  refine (pad_any ws blk (L64 T) _ _ H1.out.1.self hb0 HT.out).mono ?_; rintro e w2 ⟨rfl, blk', h2⟩; rw [pad64 HP0.out] at h2; obtain ⟨ws', hws⟩ : ∃ x, Sha.fold Sha.iv (T ++ Sha.padOf T.length) = x := ⟨_, rfl⟩; rw [hws] at h2; have HWS : Kp (Sha.sha T = Sha.out ws') := ⟨by rw [Sha.sha, hws]⟩
  have H2 : Kp (HS w1 w2 (w.heap.size + 1) ws' blk' (L64 T) ∧ Has w2 w.heap.size ((List.replicate 32 (0 : UInt8)).map bv) 176 ∧ w.grownBy w2 none ∧ ws'.length = 8) := ⟨h2, by
    refine ⟨(H1.out.2.1.kept H1.out.1.gr (by simp)).kept h2.gr (by simp), ?_, h2.h8⟩
    exact gr_new (gr_new H1.out.2.2 H1.out.1.gr (by omega)) h2.gr (by omega)⟩
  clear h2 hws
  go_wp2_with (first
    | (refine wpList_load_mid rfl 180 _ rfl _ _ rfl _ _ ((H2.out.1.has.alloc _).rangeMid 0 [] (ws'.map wv) (blk'.map bv ++ [.int .u64 (L64 T)]) (by simp [hcs]) rfl) under40 rfl (by rw [List.length_map, H2.out.2.2.2]; exact size40) ?_))
  have hMN : w2.heap.size ≠ w.heap.size := by have := H2.out.2.1.lt; omega
  have hM : w.heap.size ≤ w2.heap.size := H2.out.2.2.1.size
  go_loopw [13] (fun t w' => ∃ i : Nat, i ≤ 8 ∧ t = .int .i64 i ∧ Kp (SumRel w w' w.heap.size w2.heap.size ws' i)) (fun t _ => 8 - (intOf t).toNat)
  case atStart => exact ⟨0, by omega, rfl, ⟨H2.out.2.1.alloc _, Has.new _ _ _, H2.out.2.2.1.trans (gAl _ _ _)⟩⟩
  case round =>
    obtain ⟨i, hi, rfl, hrel⟩ := hrel; by_cases hli : i < 8
    · have hx := index40L ws' H2.out.2.2.2 i hli; obtain ⟨y, hy⟩ : ∃ y, ws'.getD i 0 = y := ⟨_, rfl⟩; have HY : Kp (ws'.getD i 0 = y) := ⟨hy⟩; have hs := slice25 .i64 w2.heap.size 0 (4 * (i : Int)) (4 * i) (by omega) (by omega); rw [hy] at hx; clear hy
      go_wp2_with (go_at_call 176; refine (putWord_any y _ _ _ _ _ 176 _ (by omega) (by rw [List.length_map, outTo_len ws' i H2.out.2.2.2 hi]; omega) hrel.out.o).mono ?_; rintro e w3 ⟨rfl, hw3⟩; have HR3 : Kp (SumRel w w3 w.heap.size w2.heap.size ws' (i + 1)) := ⟨hrel.out.step H2.out.2.2.2 hli hMN hM w3 (by rw [HY.out]; exact hw3.symm)⟩; clear hw3)
      refine ⟨⟨i + 1, by omega, by go_num, HR3⟩, ?_⟩; simp [intOf]; omega
    · have hi8 : i = 8 := by omega
      have HE : Kp (Has wr w2.heap.size ((Sha.out ws').map bv) 176 ∧ Has wr w.heap.size ((List.replicate 32 (0 : UInt8)).map bv) 176 ∧ w.grownBy wr none ∧ (Sha.out ws').length = 32) := ⟨by
        have h := hrel.out; rw [hi8] at h; have ho := h.o; have h8 := H2.out.2.2.2; rw [outTo, List.take_of_length_le (by omega), show 32 - 4 * 8 = 0 by rfl, List.replicate_zero, List.append_nil] at ho
        exact ⟨ho, h.r, h.g, by rw [out_len, h8]⟩⟩
      have HI : Kp ((prog.info? 176).map (·.size) = some ((Sha.out ws').map bv).length) := ⟨by rw [List.length_map, HE.out.2.2.2]; exact size25⟩; clear hrel
      go_wp2_with (first
        | (refine wpList_load_mid rfl 176 _ rfl _ _ rfl _ _ HE.out.1.range under25 rfl HI.out ?_)
        | (refine wpList_store_mid rfl 176 _ _ rfl _ _ _ rfl rfl (HE.out.2.1.there 0 _ (by simp [HE.out.2.2.2])) HI.out (bytes_one _) ?_))
      refine ret_cell (b := w.heap.size) (cs := (Sha.out ws').map bv) (t := 176) rfl rfl ?_ under25 rfl HI.out rfl ⟨by rw [HWS.out], ?_⟩
      · exact HE.out.2.1.setAll _ (by simp [HE.out.2.2.2])
      · exact gr_new HE.out.2.2.1 (gr_sets _ _ _ _) (Nat.le_refl _)
theorem sum_any (b : Nat) (T : List UInt8) (w : World) (hh : HashOf w b T) (hk : Kc w) (_hT : T.length < 2 ^ 64) :
    CRt 128 #[.pointer (some ⟨b, 0, none⟩)] w (.agg ((Sha.sha T).map bv).toArray) := sum_gen b T w hh hk
end Go.Proofs.YtldnpebnpbahjaaGreatDoor
