/- the reference's Writer: fails, digits. -/
import Derived.Test.YtkddfnglonofoaaD1
namespace Go.Proofs.Ytkddfnglonofoaa
open Go Go.RowKit

/-- where the reference's Writer stands: what it holds behind an error is not asked -/
structure VAt (w : World) (vb : Nat) (st : WS) : Prop where
  h : ∃ s : ByteArray, Has w vb [.string s, .int .i64 (if st = none then 51 else 0)] 52 ∧ ∀ l, st = some l → sl s = l
def vO (vb : Nat) (st : WS) : Ob := ⟨fun i => i = vb, fun W => VAt W vb st, fun _ _ _ h f hs => by obtain ⟨s, h1, h2⟩ := h.h; exact ⟨s, h1.fr f (hs vb rfl), h2⟩, fun _ h i e => by obtain ⟨s, h1, _⟩ := h.h; rw [e]; exact Has.lt (t := 52) h1⟩
structure VDid (w w' : World) (vb : Nat) (st : WS) : Prop where
  a : VAt w' vb st
  f : Fr (fun i => i = vb) w w'
theorem VAt.kept {w w' : World} {vb : Nat} {st : WS} (h : VAt w vb st) (hg : w.grownBy w' none) : VAt w' vb st := by
  obtain ⟨s, h1, h2⟩ := h.h
  exact ⟨s, h1.kept hg (by simp), h2⟩
theorem Mine.v {w W : World} {A X : List Ob} {vb : Nat} {st : WS} (h : Mine w W (A ++ vO vb st :: X)) : VAt W vb st := h.s.p (vO vb st) (by simp)
theorem Mine.vdid {w W W' : World} {A X : List Ob} {vb : Nat} {st st' : WS} (h : Mine w W (A ++ vO vb st :: X)) (d : VDid W W' vb st') : Mine w W' (A ++ vO vb st' :: X) :=
  ⟨fr_mine h.g d.f (fun i hi => h.s.lo (vO vb st) (by simp) i hi), h.s.upd h.g.size d.f d.a (fun _ hi => .inl hi)⟩

/-- does it fail? -/
theorem fails_c (vb : Nat) (st : WS) (bad : Bool) (w : World) (h : VAt w vb st) :
    Calls Try.prog 36 #[.pointer (some ⟨vb, 0, none⟩), .bool bad] w fun e w' => e = .returned (.bool (st.isNone || bad)) ∧ VDid w w' vb (if bad then none else st) := by
  obtain ⟨s, h1, h2⟩ := h.h
  have HH : Keep (Has w vb [.string s, .int .i64 (if st = none then 51 else 0)] 52 ∧ ∀ l, st = some l → sl s = l) := ⟨h1, h2⟩
  have c0 : w.cell? ⟨vb, 0, none⟩ = some (.string s) := h1.cellv 0 _ rfl
  have c1 : w.cell? ⟨vb, 1, none⟩ = some (.int .i64 (if st = none then 51 else 0)) := h1.cellv 1 _ rfl
  have f1 := h1.frozen 1
  clear h1 h2 h
  go_enter Try.func36, Try.ntmps36
  cases st with
  | none =>
    simp only [if_true] at c1
    cases bad
    · go_wp2
      go_ret
      exact ⟨rfl, ⟨s, HH.out.1, fun l e => (by cases e)⟩, Fr.refl _ _⟩
    · go_wp2
      go_ret
      exact ⟨rfl, ⟨s, HH.out.1, fun l e => (by cases e)⟩, Fr.refl _ _⟩
  | some l =>
    have hne : ¬ (some l = (none : WS)) := by simp
    rw [if_neg hne] at c1
    cases bad
    · go_wp2
      go_ret
      exact ⟨rfl, ⟨s, HH.out.1, HH.out.2⟩, Fr.refl _ _⟩
    · go_wp2
      go_ret
      exact ⟨rfl, ⟨s, HH.out.1.setCell 1 _, fun l e => (by cases e)⟩, Fr.ofSome (S := fun i => i = vb) (gr_set _ _ _ _) rfl⟩
/-- the low bytes -/
theorem be_succ : ∀ (k x : Nat), be (k + 1) x = be k (x / 256) ++ [UInt8.ofNat (x % 256)]
  | 0, x => by
    simp only [be, Nat.pow_zero, Nat.div_one, List.nil_append, List.cons.injEq, and_true]
    apply UInt8.toNat_inj.1
    rw [UInt8.toNat_ofNat', UInt8.toNat_ofNat']
    show x % 256 = x % 256 % 256
    omega
  | k + 1, x => by
    rw [be, be_succ k x, be, List.cons_append]
    congr 2
    rw [Nat.div_div_eq_div_mul, Nat.pow_succ, Nat.mul_comm]
end Go.Proofs.Ytkddfnglonofoaa
