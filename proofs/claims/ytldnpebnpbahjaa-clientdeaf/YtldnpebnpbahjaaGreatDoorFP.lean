import Derived.Test.YtldnpebnpbahjaaGreatDoorX5
/- frame, over lists: datagrams, fields, how they are taken and laid -/
namespace Go.Proofs.YtldnpebnpbahjaaGreatDoor.Pk
open Go Go.RowKit

@[ext] structure Dg where
  kind : Int
  nonce : ByteArray
  epoch : Nat
  cookie : ByteArray
  name : ByteArray
  session : Nat
  player : Int
  salt : ByteArray
  seq : Nat
  thr : Int
  turn : Int
  fire : Bool
  boost : Bool
  data : ByteArray
  tag : ByteArray
def Dg.cells (d : Dg) : List Value := [.int .i64 d.kind, .string d.nonce, .int .u64 d.epoch, .string d.cookie, .string d.name, .int .u64 d.session, .int .i64 d.player, .string d.salt, .int .u64 d.seq, .int .i64 d.thr, .int .i64 d.turn, .bool d.fire, .bool d.boost, .string d.data, .string d.tag]
def Dg.val (d : Dg) : Value := .agg #[.int .i64 d.kind, .string d.nonce, .int .u64 d.epoch, .string d.cookie, .string d.name, .int .u64 d.session, .int .i64 d.player, .string d.salt, .int .u64 d.seq, .agg #[.int .i64 d.thr, .int .i64 d.turn, .bool d.fire, .bool d.boost], .string d.data, .string d.tag]
/-- what a datagram's numbers are -/
structure Dg.fine (d : Dg) : Prop where
  k : -9223372036854775808 ≤ d.kind ∧ d.kind < 9223372036854775808
  e : d.epoch < 18446744073709551616
  s : d.session < 18446744073709551616
  p : -9223372036854775808 ≤ d.player ∧ d.player < 9223372036854775808
  q : d.seq < 18446744073709551616
  h : -9223372036854775808 ≤ d.thr ∧ d.thr < 9223372036854775808
  t : -9223372036854775808 ≤ d.turn ∧ d.turn < 9223372036854775808
def nob : ByteArray := { data := #[] }
def Dg.zero (k : Int) : Dg := ⟨k, nob, 0, nob, nob, 0, 0, nob, 0, 0, 0, false, false, nob, nob⟩

inductive Fd where
  | nonce | zeros | epoch | cookie | name | tag | session | player | salt | seq | thr | turn | flags | view
def fieldsL (k : Int) : List Fd :=
  if k = 1 then [.nonce, .zeros] else if k = 2 then [.nonce, .epoch, .cookie] else if k = 3 then [.nonce, .epoch, .cookie, .name, .tag]
  else if k = 4 then [.nonce, .session, .player, .salt, .tag] else if k = 5 then [.session, .seq, .thr, .turn, .flags, .tag]
  else if k = 6 then [.session, .seq, .view, .tag] else if k = 7 then [.session, .seq, .tag] else []

abbrev TS := Dg × List UInt8 × Bool
def need (L : List UInt8) (n : Int) : Option (List UInt8 × List UInt8) := if n < 0 ∨ (L.length : Int) < n then none else some (L.take n.toNat, L.drop n.toNat)
abbrev ba (l : List UInt8) : ByteArray := ⟨l.toArray⟩
def zero76 : List UInt8 := List.replicate 76 0
def tk : Fd → TS → Option TS
  | .nonce, (d, L, r) => (need L 16).map fun p => ({ d with nonce := ba p.1 }, p.2, r)
  | .salt, (d, L, r) => (need L 16).map fun p => ({ d with salt := ba p.1 }, p.2, r)
  | .cookie, (d, L, r) => (need L 32).map fun p => ({ d with cookie := ba p.1 }, p.2, r)
  | .tag, (d, L, r) => (need L 32).map fun p => ({ d with tag := ba p.1 }, p.2, r)
  | .epoch, (d, L, r) => (need L 8).map fun p => ({ d with epoch := val p.1 }, p.2, r)
  | .session, (d, L, r) => (need L 8).map fun p => ({ d with session := val p.1 }, p.2, r)
  | .seq, (d, L, r) => (need L 8).map fun p => ({ d with seq := val p.1 }, p.2, r)
  | .thr, (d, L, r) => (need L 1).map fun p => ({ d with thr := sval p.1 }, p.2, r)
  | .turn, (d, L, r) => (need L 1).map fun p => ({ d with turn := sval p.1 }, p.2, r)
  | .player, (d, L, r) => (need L 1).map fun p => ({ d with player := (val p.1 : Nat) }, p.2, r)
  | .flags, (d, L, r) => (need L 1).map fun p => ({ d with fire := decide (val p.1 % 2 = 1), boost := decide (val p.1 / 2 % 2 = 1) }, p.2, r || !decide (val p.1 ≤ 3))
  | .name, (d, L, r) => (need L 1).bind fun p => (need p.2 (val p.1 : Nat)).map fun q => ({ d with name := ba q.1 }, q.2, r)
  | .view, (d, L, r) => (need L ((L.length : Int) - 32)).map fun p => ({ d with data := ba p.1 }, p.2, r)
  | .zeros, (d, L, r) => (need L 76).map fun p => (d, p.2, r || !decide (p.1 = zero76))
def takes : List Fd → TS → Option TS
  | [], s => some s
  | f :: fs, s => (tk f s).bind (takes fs)
def magic : List UInt8 := [74, 48, 49]
def kindL (s : List UInt8) : Int := if s.length < 4 ∨ s.take 3 ≠ magic then 0 else ((s.getD 3 0).toNat : Int)
def ended : Option TS → Dg × Int
  | none => (Dg.zero 0, 72)
  | some (d, L, r) => if 0 < L.length then (Dg.zero 0, 72) else if r then (Dg.zero 0, 73) else (d, 0)
def dec (s : List UInt8) : Dg × Int :=
  if 1200 < s.length then (Dg.zero 0, 72) else if s.take 3 ≠ magic then (Dg.zero 0, 70) else if fieldsL (kindL s) = [] then (Dg.zero 0, 71)
  else ended (takes (fieldsL (kindL s)) (Dg.zero (kindL s), s.drop 4, false))

abbrev LS := WS × Bool
def flagsN (d : Dg) : Nat := (if d.fire then 1 else 0) + (if d.boost then 2 else 0)
def ly (d : Dg) : Fd → LS → LS
  | .nonce, (st, r) => (wBytes st (sl d.nonce), r || !decide (d.nonce.size = 16))
  | .salt, (st, r) => (wBytes st (sl d.salt), r || !decide (d.salt.size = 16))
  | .cookie, (st, r) => (wBytes st (sl d.cookie), r || !decide (d.cookie.size = 32))
  | .tag, (st, r) => (wBytes st (sl d.tag), r || !decide (d.tag.size = 32))
  | .epoch, (st, r) => (wNum st d.epoch 8, r)
  | .session, (st, r) => (wNum st d.session 8, r)
  | .seq, (st, r) => (wNum st d.seq 8, r)
  | .thr, (st, r) => (wSig st d.thr 1, r)
  | .turn, (st, r) => (wSig st d.turn 1, r)
  | .player, (st, r) => (wNum st (Pk.u64 d.player) 1, r)
  | .flags, (st, r) => (wNum st (flagsN d) 1, r)
  | .name, (st, r) => (wText st (sl d.name), r)
  | .view, (st, r) => (wBytes st (sl d.data), r)
  | .zeros, (st, r) => (wBytes st zero76, r)
def lays (d : Dg) (fs : List Fd) (s : LS) : LS := fs.foldl (fun s f => ly d f s) s
def finish : LS → List UInt8 × Int
  | (none, _) => ([], 73)
  | (some L, r) => if r then ([], 73) else if 1200 < L.length then ([], 72) else (L, 0)
def headL (d : Dg) : List UInt8 := magic ++ [UInt8.ofNat (Pk.u64 d.kind % 256)]
def enc (d : Dg) : List UInt8 × Int := if fieldsL d.kind = [] then ([], 71) else finish (lays d (fieldsL d.kind) (some (headL d), false))
def bodyL (s : List UInt8) : List UInt8 := if s.length < 36 ∨ ¬ (3 ≤ kindL s ∧ kindL s ≤ 7) then [] else s.take (s.length - 32)
end Go.Proofs.YtldnpebnpbahjaaGreatDoor.Pk
