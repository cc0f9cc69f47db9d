import Derived.Test.YtbjmibihopddcaaDoorB2
import Derived.Test.YtbjmibihopddcaaDoorC5
namespace Go.Proofs.YtbjmibihopddcaaDoor
open Go Go.RowKit

/-- where ShaParts stands -/
structure PS (w w' : World) (X bh bk : Nat) (S : List UInt8) (vx : Value) (T1 T2 xs : List UInt8) : Prop where
  whole : Has w' X (S.map bv) 25
  g : w.grownBy w' none
  kc : Kc w'
  h : HashOf w' bh T1
  k : HashOf w' bk T2
  x : w'.ownsRow w.heap.size 5 1 vx xs.length (xs.map bv)
  hX : w.heap.size ≤ X
  hbh : w.heap.size ≤ bh
  hbk : w.heap.size ≤ bk
  n1 : X ≠ bh
  n2 : X ≠ bk
  n3 : bh ≠ bk
  n4 : vx.ownBlock ≠ some X
  n5 : vx.ownBlock ≠ some bh
  n6 : vx.ownBlock ≠ some bk
theorem PS.grow {w w' w2 : World} {X bh bk : Nat} {S : List UInt8} {vx : Value} {T1 T2 xs : List UInt8} (p : PS w w' X bh bk S vx T1 T2 xs) (hg : w'.grownBy w2 none) : PS w w2 X bh bk S vx T1 T2 xs :=
  ⟨p.whole.kept hg (by simp), p.g.trans hg, p.kc.kept hg (by simp), p.h.kept hg (by simp), p.k.kept hg (by simp), p.x.kept hg (by cases vx.ownBlock <;> simp), p.hX, p.hbh, p.hbk, p.n1, p.n2, p.n3, p.n4, p.n5, p.n6⟩
theorem own_ne {v : Value} {b : Nat} (h : v.ownBlock ≠ some b) : v.ownBlock = none ∨ v.ownBlock ≠ some b := .inr h
theorem PS.wh {w w' w2 : World} {X bh bk : Nat} {S : List UInt8} {vx : Value} {T1 T2 xs q : List UInt8} (p : PS w w' X bh bk S vx T1 T2 xs) (h0 : 0 < w.heap.size) (hh : HashOf w2 bh (T1 ++ q)) (hg : w'.grownBy w2 (some bh)) : PS w w2 X bh bk S vx (T1 ++ q) T2 xs :=
  ⟨p.whole.kept hg (by simpa using p.n1), gr_new p.g hg p.hbh, p.kc.kept hg (by have := p.hbh; simp; omega), hh, p.k.kept hg (by simpa using p.n3.symm), p.x.kept hg (own_ne p.n5), p.hX, p.hbh, p.hbk, p.n1, p.n2, p.n3, p.n4, p.n5, p.n6⟩
theorem PS.wk {w w' w2 : World} {X bh bk : Nat} {S : List UInt8} {vx : Value} {T1 T2 xs q : List UInt8} (p : PS w w' X bh bk S vx T1 T2 xs) (h0 : 0 < w.heap.size) (hh : HashOf w2 bk (T2 ++ q)) (hg : w'.grownBy w2 (some bk)) : PS w w2 X bh bk S vx T1 (T2 ++ q) xs :=
  ⟨p.whole.kept hg (by simpa using p.n2), gr_new p.g hg p.hbk, p.kc.kept hg (by have := p.hbk; simp; omega), p.h.kept hg (by simpa using p.n3), hh, p.x.kept hg (own_ne p.n6), p.hX, p.hbh, p.hbk, p.n1, p.n2, p.n3, p.n4, p.n5, p.n6⟩
/-- a store into the row of the call's own -/
theorem own_set {w' : World} {base n c g i : Nat} {xs : List Value} {v : Value} (h : w'.ownsRow base 5 1 (.slice (some ⟨g, 0, none⟩) n c) n xs) : (w'.setCell ⟨g, i, none⟩ v).ownsRow base 5 1 (.slice (some ⟨g, 0, none⟩) n c) n (xs.set i v) := by
  obtain ⟨hl, hc⟩ := h
  refine ⟨by rw [List.length_set]; exact hl, ?_⟩
  rcases hc with ⟨e, _⟩ | ⟨g', cap, cur, e, hb, hheap, h1, h2, h3, h4⟩
  · cases e
  · injection e with e1 e2 e3
    obtain rfl : g = g' := by simpa using e1
    subst e3
    refine .inr ⟨g, c, cur.setIfInBounds i v, rfl, hb, ?_, h1, h2, by simpa using h3, ?_⟩
    · simp [World.setCell, Array.getElem?_modify, hheap]
    · rw [Array.toList_setIfInBounds, List.take_set, h4]
theorem PS.setx {w w' : World} {X bh bk g n c : Nat} {S : List UInt8} {T1 T2 xs : List UInt8} (p : PS w w' X bh bk S (.slice (some ⟨g, 0, none⟩) n c) T1 T2 xs) (h0 : 0 < w.heap.size) (i : Nat) (y : UInt8) (v : Value) (hv : v = bv y) : PS w (w'.setCell ⟨g, i, none⟩ v) X bh bk S (.slice (some ⟨g, 0, none⟩) n c) T1 T2 (xs.set i y) := by
  subst hv
  have hg := gr_set w' g i (bv y)
  have hgb := (p.x.lt g rfl).1
  have e1 : g ≠ X := fun e => p.n4 (by rw [← e]; rfl)
  have e2 : g ≠ bh := fun e => p.n5 (by rw [← e]; rfl)
  have e3 : g ≠ bk := fun e => p.n6 (by rw [← e]; rfl)
  have hn : n = xs.length := by
    obtain ⟨a', c', e, _, _⟩ := own_bytes p.x
    injection e
  refine ⟨p.whole.kept hg (by simpa using e1.symm), gr_new p.g hg hgb, p.kc.kept hg (by simp; omega), p.h.kept hg (by simpa using e2.symm), p.k.kept hg (by simpa using e3.symm), ?_, p.hX, p.hbh, p.hbk, p.n1, p.n2, p.n3, p.n4, p.n5, p.n6⟩
  rw [List.length_set, List.map_set]
  have hx := p.x
  rw [hn] at hx ⊢
  exact own_set hx
theorem PS.xbytes {w w' : World} {X bh bk n c : Nat} {a : Option Addr} {S : List UInt8} {T1 T2 xs : List UInt8} (p : PS w w' X bh bk S (.slice a n c) T1 T2 xs) : xs.length = n ∧ BytesOf w' a n c xs ∧ (a = none → c = 0) ∧ ∀ b, (Value.slice a n c).ownBlock ≠ some b → Bytes b w' a n c xs := by
  have hx := p.x
  obtain ⟨a', c', e, hb, hnil⟩ := own_bytes hx
  injection e with e1 e2 e3
  subst e1 e3
  rw [← e2] at hb
  refine ⟨e2.symm, hb, hnil, fun b hne => ⟨hb.len, hb.cap, fun hn => ?_⟩⟩
  rcases hx.2 with ⟨e, h0⟩ | ⟨g, cap, cur, e, _⟩
  · injection e with _ e2' _; omega
  · injection e with e1 e2' e3
    subst e1
    obtain ⟨B, o, h1, h3⟩ := hb.at_ hn
    refine ⟨B, o, h1, fun e => ?_, h3⟩
    have : g = B ∧ 0 = o := by simpa using h1
    exact hne (by rw [← e, ← this.1]; rfl)
end Go.Proofs.YtbjmibihopddcaaDoor
