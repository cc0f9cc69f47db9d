/- shots over numbers -/
import Derived.Test.YtmacmoikjgmaoaaDoorC1
namespace Go.Proofs.YtmacmoikjgmaoaaDoor.Bo
open Go Go.RowKit

structure Sh where
  id : Int
  pl : Int
  x : Int
  y : Int
  sx : Int
  sy : Int
  lf : Int
deriving DecidableEq
def shv (s : Sh) : List Value := [iv s.id, iv s.pl, iv s.x, iv s.y, iv s.sx, iv s.sy, iv s.lf]
structure ShOk (s : Sh) : Prop where
  id : In s.id
  pl : In s.pl
  x : In s.x
  y : In s.y
  sx : In s.sx
  sy : In s.sy
  lf : In s.lf
theorem shv_one (c : Sh) : ∀ v ∈ shv c, v.oneCell' = true := by
  intro v hv
  simp only [shv, List.mem_cons, List.not_mem_nil, or_false] at hv
  rcases hv with rfl | rfl | rfl | rfl | rfl | rfl | rfl <;> rfl
theorem shv_len (c : Sh) : (shv c).length = 7 := rfl
def zS : Sh := ⟨0, 0, 0, 0, 0, 0, 0⟩
def zS7 : List Value := shv zS
theorem underS : ∃ d, Tryd.prog.underlying 26 = some d ∧ d.isRow = true := ⟨_, Tryd.underlying26, rfl⟩
theorem infoS : (Tryd.prog.info? 26).map (·.size) = some 7 := by kernel_rfl
theorem infoS' (c : Sh) : (Tryd.prog.info? 26).map (·.size) = some (shv c).length := infoS
/-- a shot meets a car -/
def mt (s : Sh) (c : Cr) : Bool := decide (¬ 0 < c.wa) && (decide (c.pl ≠ s.pl) && wn (d2 s.x s.y c.x c.y) 98304)
/-- a quarter further -/
def nxt (s : Sh) : Sh := { s with x := addZ s.x (s.sx / 4), y := addZ s.y (s.sy / 4) }
def slid (L : Bo) (s : Sh) : Bool := decide (atL L (s.x, s.y) = 35)
/-- so many quarters: where it ends, and what ended it -/
def fly (L : Bo) (cs : List Cr) : Nat → Sh → Sh × Option Int
  | 0, s => (s, none)
  | n + 1, s => if slid L (nxt s) = true then (nxt s, some (-1)) else
      match cs.findIdx? (mt (nxt s)) with
      | some i => (nxt s, some (i : Int))
      | none => fly L cs n (nxt s)
def fin (s : Sh) : Option Int → Sh × Int × Bool
  | some h => (s, h, false)
  | none => ({ s with lf := w64 (s.lf - 1) }, -1, decide (0 < w64 (s.lf - 1)))
def mov (L : Bo) (cs : List Cr) (s : Sh) : Sh × Int × Bool := fin (fly L cs 4 s).1 (fly L cs 4 s).2
/-- may a car fire -/
def rdy (c : Cr) : Bool := decide (¬ 0 < c.wa) && (decide (c.co = 0) && (decide (0 < c.am) && decide (8 ≤ c.en)))
def paid (c : Cr) : Cr := { c with am := c.am - 1, en := c.en - 8, co := 8 }
def shot (c : Cr) (id : Int) : Sh := ⟨id, c.pl, addZ c.x (2 * sinZ (c.hd + 64)), addZ c.y (2 * sinZ c.hd), addZ c.sx (3 * sinZ (c.hd + 64)), addZ c.sy (3 * sinZ c.hd), 48⟩
def firC (c : Cr) : Cr := if rdy c = true then paid c else c
def firS (c : Cr) (id : Int) : Sh := if rdy c = true then shot c id else zS
theorem bd_in (x : Int) : -1099511627776 ≤ bd x ∧ bd x ≤ 1099511627776 := by unfold bd clampZ; split <;> split <;> omega
theorem addZ_in (a b : Int) : In (addZ a b) := by
  have := bd_in (a + b)
  unfold addZ
  exact ⟨by omega, by omega⟩
theorem div4_in {x : Int} (h : In x) : In (x / 4) := ⟨by have := h.1; omega, by have := h.2; omega⟩
theorem nxt_ok {s : Sh} (h : ShOk s) : ShOk (nxt s) := ⟨h.id, h.pl, addZ_in _ _, addZ_in _ _, h.sx, h.sy, h.lf⟩
theorem w64_in (x : Int) : In (w64 x) := by
  unfold w64
  rw [IntKind.wrap_i64]
  exact ⟨by omega, by omega⟩
/-- two of a unit, three of it -/
theorem mul2 (h : Int) : mulZ (sinZ h) 131072 = 2 * sinZ h := by
  have := sin_range h
  unfold mulZ
  rw [show sinZ h * 131072 / 65536 = 2 * sinZ h by omega]
  unfold bd clampZ
  split <;> split <;> omega
theorem mul3 (h : Int) : mulZ (sinZ h) 196608 = 3 * sinZ h := by
  have := sin_range h
  unfold mulZ
  rw [show sinZ h * 196608 / 65536 = 3 * sinZ h by omega]
  unfold bd clampZ
  split <;> split <;> omega
theorem fly_ok (L : Bo) (cs : List Cr) : ∀ (n : Nat) {s : Sh}, ShOk s → ShOk (fly L cs n s).1
  | 0, _, h => h
  | n + 1, s, h => by
    unfold fly
    split
    · exact nxt_ok h
    · split
      · exact nxt_ok h
      · exact fly_ok L cs n (nxt_ok h)
theorem mov_ok {L : Bo} {cs : List Cr} {s : Sh} (h : ShOk s) : ShOk (mov L cs s).1 := by
  have q := fly_ok L cs 4 h
  unfold mov
  generalize (fly L cs 4 s).2 = o
  cases o with
  | some i => exact q
  | none => exact ⟨q.id, q.pl, q.x, q.y, q.sx, q.sy, w64_in _⟩
theorem paid_ok {c : Cr} (h : CrOk c) (r : rdy c = true) : CrOk (paid c) := by
  simp only [rdy, Bool.and_eq_true, decide_eq_true_eq] at r
  have h1 := h.am
  have h2 := h.en
  exact ⟨h.nm, h.pl, h.x, h.y, h.sx, h.sy, h.hd, h.he, ⟨by show _ ≤ c.en - 8; omega, by show c.en - 8 ≤ _; omega⟩, ⟨by show _ ≤ c.am - 1; omega, by show c.am - 1 ≤ _; omega⟩, ⟨by show _ ≤ (8 : Int); omega, by show (8 : Int) ≤ _; omega⟩, h.wa, h.sp, h.sc⟩
theorem shot_ok {c : Cr} {id : Int} (h : CrOk c) (hi : In id) : ShOk (shot c id) := ⟨hi, h.pl, addZ_in _ _, addZ_in _ _, addZ_in _ _, addZ_in _ _, ⟨by show _ ≤ (48 : Int); omega, by show (48 : Int) ≤ _; omega⟩⟩
/-- cars as they lie in a row -/
structure Crs (W : World) (v : Value) (L : List Cr) : Prop where
  o : ∃ a cap, v = .slice a L.length cap ∧ (0 < L.length → ∃ g o, a = some ⟨g, o, none⟩ ∧ ∀ (j : Nat) (x : Cr), L[j]? = some x → W.rangeAt g (o + j * 14) (crv x))
  s : ∀ x ∈ L, CrOk x
  n : L.length ≤ 9223372036854775807
theorem Crs.kept {W W' : World} {v : Value} {L : List Cr} (h : Crs W v L) (g : W.grownBy W' none) : Crs W' v L := by
  obtain ⟨a, cap, e, q⟩ := h.o
  refine ⟨⟨a, cap, e, fun hn => ?_⟩, h.s, h.n⟩
  obtain ⟨b, o, e1, q⟩ := q hn
  exact ⟨b, o, e1, fun j x hx i v hv => g.cell (q j x hx i v hv) (by simp)⟩
theorem crs_nil (w : World) : Crs w (.slice none 0 0) [] := ⟨⟨none, 0, rfl, fun h => by cases h⟩, fun o ho => (by cases ho), by simp⟩
end Go.Proofs.YtmacmoikjgmaoaaDoor.Bo
