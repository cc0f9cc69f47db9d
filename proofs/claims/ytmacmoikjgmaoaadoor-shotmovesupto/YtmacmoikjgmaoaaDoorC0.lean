/- car over numbers -/
import Derived.Test.YtmacmoikjgmaoaaDoorV6
import Derived.Test.YtmacmoikjgmaoaaDoorBP3
import Derived.Test.YtmacmoikjgmaoaaDoorShelf
namespace Go.Proofs.YtmacmoikjgmaoaaDoor.Bo
open Go Go.RowKit

structure Cr where
  pl : Int
  nm : ByteArray
  x : Int
  y : Int
  sx : Int
  sy : Int
  hd : Int
  he : Int
  en : Int
  am : Int
  co : Int
  wa : Int
  sp : Int
  sc : Int
deriving DecidableEq
def crv (c : Cr) : List Value := [iv c.pl, .string c.nm, iv c.x, iv c.y, iv c.sx, iv c.sy, iv c.hd, iv c.he, iv c.en, iv c.am, iv c.co, iv c.wa, iv c.sp, iv c.sc]
structure CrOk (c : Cr) : Prop where
  nm : c.nm.size ≤ 281474976710656
  pl : In c.pl
  x : In c.x
  y : In c.y
  sx : In c.sx
  sy : In c.sy
  hd : In c.hd
  he : In c.he
  en : In c.en
  am : In c.am
  co : In c.co
  wa : In c.wa
  sp : In c.sp
  sc : In c.sc
structure It where
  pl : Int
  th : Int
  tu : Int
  fi : Bool
  bo : Bool
def itv (i : It) : List Value := [iv i.pl, iv i.th, iv i.tu, .bool i.fi, .bool i.bo]
structure ItOk (i : It) : Prop where
  pl : In i.pl
  th : In i.th
  tu : In i.tu
theorem crv_one (c : Cr) : ∀ v ∈ crv c, v.oneCell' = true := by
  intro v hv
  simp only [crv, List.mem_cons, List.not_mem_nil, or_false] at hv
  rcases hv with rfl | rfl | rfl | rfl | rfl | rfl | rfl | rfl | rfl | rfl | rfl | rfl | rfl | rfl <;> rfl
theorem itv_one (c : It) : ∀ v ∈ itv c, v.oneCell' = true := by
  intro v hv
  simp only [itv, List.mem_cons, List.not_mem_nil, or_false] at hv
  rcases hv with rfl | rfl | rfl | rfl | rfl <;> rfl
theorem crv_len (c : Cr) : (crv c).length = 14 := rfl
theorem itv_len (c : It) : (itv c).length = 5 := rfl

def w64 (x : Int) : Int := IntKind.i64.wrap x
/-- the spawn of a number -/
def spw (L : Bo) (n : Int) : Int × Int := (spn L).getD (n % ((spn L).length : Int)).toNat (0, 0)
def frC (L : Bo) (c : Cr) : Cr := { pl := c.pl, nm := c.nm, x := (spw L (w64 (c.pl + c.sp))).1, y := (spw L (w64 (c.pl + c.sp))).2, sx := 0, sy := 0, hd := 0, he := 100, en := 100, am := 20, co := 0, wa := 0, sp := c.sp, sc := c.sc }
def zC (p : Int) (n : ByteArray) : Cr := { pl := p, nm := n, x := 0, y := 0, sx := 0, sy := 0, hd := 0, he := 0, en := 0, am := 0, co := 0, wa := 0, sp := 0, sc := 0 }
def newC (L : Bo) (p : Int) (n : ByteArray) : Cr := frC L (zC p n)
def comC (L : Bo) (c : Cr) : Cr := frC L { c with sp := w64 (c.sp + 1) }
/-- some more, at most most -/
def grw (n m t : Int) : Int := min (min n t + m) t
def rstC (L : Bo) (c : Cr) (t : Nat) : Cr :=
  if 0 < c.wa then c else
    { c with
      co := if 0 < c.co then c.co - 1 else c.co
      en := if atL L (c.x, c.y) = 69 then grw (grw c.en 1 100) 4 100 else grw c.en 1 100
      am := if atL L (c.x, c.y) = 65 ∧ t % 8 = 0 then grw c.am 1 20 else c.am }
def hitC (c : Cr) (h : Int) : Cr :=
  if 0 < c.wa then c else if max h 0 < c.he then { c with he := c.he - max h 0 } else { c with he := 0, wa := 40, sx := 0, sy := 0 }
def bmp (a b : Cr) : Bool := decide (¬ 0 < a.wa) && (decide (¬ 0 < b.wa) && wn (d2 a.x a.y b.x b.y) 163840)
def bmA (a b : Cr) : Cr := if bmp a b = true then { a with sx := b.sx, sy := b.sy } else a
def bmB (a b : Cr) : Cr := if bmp a b = true then { b with sx := a.sx, sy := a.sy } else b
/-- the steps of a drive -/
def stH (c : Cr) (i : It) : Cr := { c with hd := (c.hd + min (max i.tu (-8)) 8) % 256 }
def pw0 (i : It) : Int := clampZ i.th (-100) 100 * 4096 / 100
def bst (c : Cr) (i : It) : Bool := i.bo && decide (4 ≤ c.en)
def pwB (c : Cr) (i : It) (p : Int) : Int := if bst c i = true then p * 2 else p
def stB (c : Cr) (i : It) : Cr := if bst c i = true then { c with en := c.en - 4 } else c
def stP (c : Cr) (p : Int) : Cr := { c with sx := addZ c.sx (mulZ (sinZ (c.hd + 64)) p), sy := addZ c.sy (mulZ (sinZ c.hd) p) }
def stS (c : Cr) : Cr := { c with sx := c.sx - c.sx / 16, sy := c.sy - c.sy / 16 }
def stL (c : Cr) : Cr := { c with sx := kz c.sx (-65536) 65536, sy := kz c.sy (-65536) 65536 }
noncomputable def stX (L : Bo) (c : Cr) : Cr := if blk L (addZ c.x c.sx, c.y) 98304 then { c with sx := -(c.sx / 2) } else { c with x := addZ c.x c.sx }
noncomputable def stY (L : Bo) (c : Cr) : Cr := if blk L (c.x, addZ c.y c.sy) 98304 then { c with sy := -(c.sy / 2) } else { c with y := addZ c.y c.sy }
noncomputable def drvC (L : Bo) (c : Cr) (i : It) : Cr :=
  if 0 < c.wa then c else
    stY L (stX L (stL (stS (stP (stB (stH c i) i) (pwB (stH c i) i (pw0 i))))))
end Go.Proofs.YtmacmoikjgmaoaaDoor.Bo
