/- The plain mathematics: SHA-256 over lists of UInt8 and UInt32. -/
namespace Go.Proofs.YtbmnlhmelbhjeaaDoor
namespace Sha

def rotr (n : UInt32) (x : UInt32) : UInt32 := (x >>> n) ||| (x <<< (32 - n))
def ss0 (x : UInt32) : UInt32 := rotr 7 x ^^^ rotr 18 x ^^^ (x >>> 3)
def ss1 (x : UInt32) : UInt32 := rotr 17 x ^^^ rotr 19 x ^^^ (x >>> 10)
def bs0 (x : UInt32) : UInt32 := rotr 2 x ^^^ rotr 13 x ^^^ rotr 22 x
def bs1 (x : UInt32) : UInt32 := rotr 6 x ^^^ rotr 11 x ^^^ rotr 25 x

def word4 (a b c d : UInt8) : UInt32 := a.toUInt32 <<< 24 ||| b.toUInt32 <<< 16 ||| c.toUInt32 <<< 8 ||| d.toUInt32
def wordAt (blk : List UInt8) (t : Nat) : UInt32 := word4 (blk.getD (4 * t) 0) (blk.getD (4 * t + 1) 0) (blk.getD (4 * t + 2) 0) (blk.getD (4 * t + 3) 0)

/-- the value that the round t lays -/
def wval (blk : List UInt8) (l : List UInt32) (t : Nat) : UInt32 :=
  if t < 16 then wordAt blk t
  else ss1 (l.getD (t - 2) 0) + l.getD (t - 7) 0 + ss0 (l.getD (t - 15) 0) + l.getD (t - 16) 0
def schedTo (blk : List UInt8) : Nat → List UInt32
  | 0 => List.replicate 64 0
  | t + 1 => (schedTo blk t).set t (wval blk (schedTo blk t) t)
def sched (blk : List UInt8) : List UInt32 := schedTo blk 64

structure St where
  a : UInt32
  b : UInt32
  c : UInt32
  d : UInt32
  e : UInt32
  f : UInt32
  g : UInt32
  h : UInt32

def ks : List UInt32 := [1116352408, 1899447441, 3049323471, 3921009573, 961987163, 1508970993, 2453635748, 2870763221, 3624381080, 310598401, 607225278, 1426881987, 1925078388, 2162078206, 2614888103, 3248222580, 3835390401, 4022224774, 264347078, 604807628, 770255983, 1249150122, 1555081692, 1996064986, 2554220882, 2821834349, 2952996808, 3210313671, 3336571891, 3584528711, 113926993, 338241895, 666307205, 773529912, 1294757372, 1396182291, 1695183700, 1986661051, 2177026350, 2456956037, 2730485921, 2820302411, 3259730800, 3345764771, 3516065817, 3600352804, 4094571909, 275423344, 430227734, 506948616, 659060556, 883997877, 958139571, 1322822218, 1537002063, 1747873779, 1955562222, 2024104815, 2227730452, 2361852424, 2428436474, 2756734187, 3204031479, 3329325298]
def iv : List UInt32 := [1779033703, 3144134277, 1013904242, 2773480762, 1359893119, 2600822924, 528734635, 1541459225]

def xval (w : List UInt32) (s : St) (t : Nat) : UInt32 :=
  s.h + bs1 s.e + ((s.e &&& s.f) ^^^ (~~~ s.e &&& s.g)) + ks.getD t 0 + w.getD t 0
def yval (s : St) : UInt32 := bs0 s.a + ((s.a &&& s.b) ^^^ (s.a &&& s.c) ^^^ (s.b &&& s.c))
def rnd (w : List UInt32) (s : St) (t : Nat) : St :=
  ⟨xval w s t + yval s, s.a, s.b, s.c, s.d + xval w s t, s.e, s.f, s.g⟩
def rndTo (w : List UInt32) (s : St) : Nat → St
  | 0 => s
  | t + 1 => rnd w (rndTo w s t) t
def stOf (ws : List UInt32) : St := ⟨ws.getD 0 0, ws.getD 1 0, ws.getD 2 0, ws.getD 3 0, ws.getD 4 0, ws.getD 5 0, ws.getD 6 0, ws.getD 7 0⟩
def stList (s : St) : List UInt32 := [s.a, s.b, s.c, s.d, s.e, s.f, s.g, s.h]
def addTo (ws ls : List UInt32) : Nat → List UInt32
  | 0 => ws
  | i + 1 => (addTo ws ls i).set i ((addTo ws ls i).getD i 0 + ls.getD i 0)
def mixW (ws : List UInt32) (blk : List UInt8) : List UInt32 := addTo ws (stList (rndTo (sched blk) (stOf ws) 64)) 8

def w4 (x : UInt32) : List UInt8 := [(x >>> 24).toUInt8, (x >>> 16).toUInt8, (x >>> 8).toUInt8, x.toUInt8]
def out (ws : List UInt32) : List UInt8 := ws.flatMap w4

/-- all whole blocks of a text, one behind the other -/
def foldN : Nat → List UInt32 → List UInt8 → List UInt32
  | 0, ws, _ => ws
  | n + 1, ws, t => foldN n (mixW ws (t.take 64)) (t.drop 64)
def fold (ws : List UInt32) (t : List UInt8) : List UInt32 := foldN (t.length / 64) ws t

/-- the eight bytes of a length in bits -/
def len8 (n : Nat) : List UInt8 := w4 (UInt32.ofNat (n * 8 % 2 ^ 64 / 2 ^ 32)) ++ w4 (UInt32.ofNat (n * 8))
/-- what is laid behind a text of n bytes -/
def padOf (n : Nat) : List UInt8 :=
  128 :: List.replicate (if n % 64 < 56 then 55 - n % 64 else 119 - n % 64) 0 ++ len8 n
def sha (t : List UInt8) : List UInt8 := out (fold iv (t ++ padOf t.length))

/-! Lengths. -/
theorem schedTo_len (blk : List UInt8) : ∀ t, (schedTo blk t).length = 64
  | 0 => by simp [schedTo]
  | t + 1 => by simp [schedTo, schedTo_len blk t]
theorem addTo_len (ws ls : List UInt32) : ∀ t, (addTo ws ls t).length = ws.length
  | 0 => rfl
  | t + 1 => by simp [addTo, addTo_len ws ls t]
theorem mixW_len (ws : List UInt32) (blk : List UInt8) : (mixW ws blk).length = ws.length := addTo_len _ _ _
theorem foldN_len : ∀ (n : Nat) (ws : List UInt32) (t : List UInt8), (foldN n ws t).length = ws.length
  | 0, _, _ => rfl
  | n + 1, ws, t => by rw [foldN, foldN_len n, mixW_len]
theorem fold_len (ws : List UInt32) (t : List UInt8) : (fold ws t).length = ws.length := foldN_len _ _ _

theorem fold_short (ws : List UInt32) (t : List UInt8) (h : t.length < 64) : fold ws t = ws := by
  rw [fold, Nat.div_eq_of_lt h]; rfl
theorem fold_block (ws : List UInt32) (b t : List UInt8) (h : b.length = 64) : fold ws (b ++ t) = fold (mixW ws b) t := by
  have e : (b ++ t).length / 64 = t.length / 64 + 1 := by rw [List.length_append, h]; omega
  rw [fold, e, foldN, List.take_append_of_le_length (by omega), List.drop_append_of_le_length (by omega), List.take_of_length_le (by omega), List.drop_of_length_le (by omega)]
  rfl

/-- whole blocks first, then the rest -/
theorem foldN_append : ∀ (n : Nat) (ws : List UInt32) (s t : List UInt8), s.length = 64 * n → fold ws (s ++ t) = fold (foldN n ws s) t
  | 0, ws, s, t, h => by
    have : s = [] := List.length_eq_zero_iff.1 (by omega)
    subst this; rfl
  | n + 1, ws, s, t, h => by
    have e : s = s.take 64 ++ s.drop 64 := (List.take_append_drop 64 s).symm
    have h1 : (s.take 64).length = 64 := by rw [List.length_take]; omega
    have h2 : (s.drop 64).length = 64 * n := by rw [List.length_drop]; omega
    rw [foldN, ← foldN_append n _ (s.drop 64) t h2, ← fold_block _ _ _ h1, ← List.append_assoc, ← e]
theorem fold_append (ws : List UInt32) (s t : List UInt8) (h : s.length % 64 = 0) : fold ws (s ++ t) = fold (fold ws s) t := by
  have e : s.length = 64 * (s.length / 64) := by omega
  exact foldN_append _ _ _ _ e

end Sha
end Go.Proofs.YtbmnlhmelbhjeaaDoor
