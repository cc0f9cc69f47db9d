/- rows of bytes of the call's own: slices of them, append. -/
import Derived.Test.YthhpbonacefmaaaDoorL3
import Derived.Laws.OwnMore
namespace Go.Proofs.YthhpbonacefmaaaDoor
open Go Go.RowKit

theorem info5 : ∃ i, Tryd.prog.info? 5 = some i ∧ i.size = 1 ∧ i.bytes = 1 ∧ i.zero = some (.int .u8 0) := ⟨_, rfl, by kernel_rfl, by kernel_rfl, by kernel_rfl⟩
abbrev bvs (l : List UInt8) : List Value := l.map fun x => bv x
/-- a row of the call's own -/
abbrev Row (B : Nat) (w : World) (v : Value) (xs : List UInt8) : Prop := w.ownsRow B 5 1 v xs.length (bvs xs)
/-- a slice that shows such bytes -/
def Src (w : World) (A : Option Addr) (m c : Nat) (ys : List UInt8) : Prop := m = ys.length ∧ m ≤ c ∧ (A = none → c = 0) ∧ ∀ ad, A = some ad → ∀ (j : Nat) x, ys[j]? = some x → w.cell? (ad.add j) = some (bv x)
theorem Row.lt {B : Nat} {w : World} {v : Value} {xs : List UInt8} (h : Row B w v xs) {k : Nat} (e : v.ownBlock = some k) : B ≤ k ∧ k < w.heap.size := by
  obtain ⟨_, h2⟩ := h
  rcases h2 with ⟨rfl, _⟩ | ⟨g, cap, cur, rfl, a, b, c⟩
  · cases e
  · cases e; exact ⟨a, (Array.getElem?_eq_some_iff.1 b).1⟩
theorem Row.kept {B : Nat} {w w' : World} {v : Value} {xs : List UInt8} {row : Option Nat} (h : Row B w v xs) (hg : w.grownBy w' row) (hne : ∀ k, v.ownBlock = some k → row ≠ some k) : Row B w' v xs := by
  have hl : ∀ k, v.ownBlock = some k → k < w.heap.size := fun k e => (Row.lt h e).2
  obtain ⟨h1, h2⟩ := h
  refine ⟨h1, ?_⟩
  rcases h2 with h2 | ⟨g, cap, cur, rfl, a, b, c⟩
  · exact .inl h2
  · exact .inr ⟨g, cap, cur, rfl, a, by rw [hg.block g (hl g rfl) (fun e => hne g rfl e.symm), b], c⟩
theorem Row.src {B : Nat} {w : World} {v : Value} {xs : List UInt8} (h : Row B w v xs) : ∃ A c, v = .slice A xs.length c ∧ Src w A xs.length c xs := by
  have hc := fun g (hv : v.ownBlock = some g) => World.ownsRow.cells (w := w) h (g := g) hv
  obtain ⟨h1, h2⟩ := h
  rcases h2 with ⟨rfl, h0⟩ | ⟨g, cap, cur, rfl, hb, hheap, h1, h2, h3, h4⟩
  · refine ⟨none, 0, by rw [h0], rfl, by omega, fun _ => rfl, fun _ e => (by cases e)⟩
  · refine ⟨_, cap, rfl, rfl, h1, fun e => (by cases e), fun ad e j x hx => ?_⟩
    cases e
    exact hc g rfl j _ (by rw [List.getElem?_map, hx]; rfl)
theorem Row.nil (B : Nat) (w : World) : Row B w (.slice none 0 0) [] := ⟨rfl, .inl ⟨rfl, rfl⟩⟩
theorem Src.kept {w w' : World} {A : Option Addr} {m c : Nat} {ys : List UInt8} {row : Option Nat} (h : Src w A m c ys) (hg : w.grownBy w' row) (hne : ∀ ad, A = some ad → row ≠ some ad.block) : Src w' A m c ys := by
  refine ⟨h.1, h.2.1, h.2.2.1, fun ad e j x hx => ?_⟩
  have := h.2.2.2 ad e j x hx
  have hb : (ad.add j).block = ad.block := by unfold Addr.add; split <;> rfl
  exact hg.cell this (by rw [hb]; exact fun e2 => hne ad e e2.symm)
theorem add_zero' (a : Addr) : a.add 0 = a := by
  unfold Addr.add
  split <;> simp_all
theorem add_add' (a : Addr) (i j : Nat) : (a.add i).add j = a.add (i + j) := by
  unfold Addr.add
  by_cases hi : i = 0
  · subst hi; simp
  · by_cases hj : j = 0
    · subst hj; simp
    · simp [hi, hj, Nat.add_assoc]
theorem slc_h (A : Option Addr) (n c p : Nat) (hp : p ≤ c) (W : World) : (Instr.slice 32 (.slice A n c) none (some (.int .i64 (p : Int))) none).run Tryd.prog W = .ok (.slice A p c) W := by
  have z : (sizeOf (Tryd.prog.elem 32)).run Tryd.prog W = .ok 1 W := by kernel_rfl
  rw [run_slice_h W 32 A n c (by kernel_rfl) .i64 p (by omega) (by omega), z]
  have e : A.map (·.add (0 * 1)) = A := by cases A <;> simp [add_zero']
  simp only [Result.andThen, sliced, e, Int.toNat_natCast, Nat.sub_zero, ite_self]
theorem Src.take {w : World} {A : Option Addr} {m c : Nat} {ys : List UInt8} (h : Src w A m c ys) (p : Nat) (hp : p ≤ m) : Src w A p c (ys.take p) := by
  obtain ⟨h1, h2, h3, h4⟩ := h
  refine ⟨by rw [List.length_take]; omega, by omega, h3, fun ad e j x hx => ?_⟩
  rw [List.getElem?_take] at hx
  split at hx
  · exact h4 ad e j x hx
  · cases hx
theorem slc_l (A : Option Addr) (n c p : Nat) (hp : p ≤ n) (hc : n ≤ c) (hA : A = none → c = 0) : ∃ A1, (A1 = none → c = 0) ∧ (∀ ad, A1 = some ad → ∃ a0, A = some a0 ∧ ad.block = a0.block) ∧ (∀ W : World, (Instr.slice 32 (.slice A n c) (some (.int .i64 (p : Int))) none none).run Tryd.prog W = .ok (.slice A1 (n - p) (c - p)) W) ∧ ∀ (w : World) (q : List UInt8), Src w A n c q → Src w A1 (n - p) (c - p) (q.drop p) := by
  refine ⟨if c = p then A else A.map (·.add (p * 1)), fun e => ?_, fun ad e => ?_, fun W => ?_, fun w q h => ⟨by rw [List.length_drop, ← h.1], by omega, fun e => ?_, fun ad e j x hx => ?_⟩⟩
  · split at e
    · exact hA e
    · cases A with
      | none => exact hA rfl
      | some a => cases e
  · split at e
    · exact ⟨ad, e, rfl⟩
    · cases A with
      | none => cases e
      | some a => cases e; exact ⟨a, rfl, by unfold Addr.add; split <;> rfl⟩
  · have z : (sizeOf (Tryd.prog.elem 32)).run Tryd.prog W = .ok 1 W := by kernel_rfl
    rw [run_slice_l W 32 A n c (by kernel_rfl) .i64 p (by omega) (by omega), z]
    simp only [Result.andThen, sliced, Int.toNat_natCast]
  · have : c = 0 := by
      split at e
      · exact hA e
      · cases A with
        | none => exact hA rfl
        | some a => cases e
    omega
  · obtain ⟨h1, h2, h3, h4⟩ := h
    rw [List.getElem?_drop] at hx
    have hlt := (List.getElem?_eq_some_iff.1 hx).1
    rw [if_neg (by omega)] at e
    cases A with
    | none => cases e
    | some a =>
      cases e
      rw [add_add']
      have := h4 a rfl _ _ hx
      rwa [Nat.mul_one]
/-- append of what a slice shows -/
theorem app_src {B : Nat} {w : World} {v : Value} {xs ys : List UInt8} {A : Option Addr} {m c : Nat} (h : Row B w v xs) (hs : Src w A m c ys) (hz : xs.length + ys.length ≤ 1000000) (hB : B ≤ w.heap.size) :
    ∃ v' w', (Builtin.append_ #[32, 32] 32 #[v, .slice A m c]).run Tryd.prog w = .ok v' w' ∧ Row B w' v' (xs ++ ys) ∧ w.grownBy w' v.ownBlock ∧ (v'.ownBlock = v.ownBlock ∨ v'.ownBlock = some w.heap.size) := by
  obtain ⟨i, h1, h2, h3, h4⟩ := info5
  obtain ⟨s1, s2, s3, s4⟩ := hs
  cases A with
  | none =>
    have hc := s3 rfl
    have hm : m = 0 := by omega
    subst hm hc
    obtain rfl : ys = [] := List.eq_nil_of_length_eq_zero s1.symm
    have := run_append_owned_none (P := Tryd.prog) (w := w) B 32 32 5 i 1 under32 h1 v xs.length _ h
    refine ⟨v, w, this, by rw [List.append_nil]; exact h, World.grownBy.refl _ _, .inl rfl⟩
  | some ad =>
    obtain ⟨v', w', r1, r2, r3, _, r5⟩ := run_append_own_at (P := Tryd.prog) w B 32 32 5 i (.int .u8 0) 1 1 under32 h1 h4 h2 h3 rfl (by decide) v xs.length _ h ad m c (bvs ys) (by simp [s1]) (fun j u hu => by
        rw [List.getElem?_map] at hu
        cases hy : ys[j]? with
        | none => rw [hy] at hu; cases hu
        | some y => rw [hy] at hu; cases hu; exact s4 ad rfl j y hy) (fun u hu => by obtain ⟨x, _, rfl⟩ := List.mem_map.1 hu; rfl) (by unfold maxLen; omega) (by omega) hB
    refine ⟨v', w', r1, ?_, r3, r5⟩
    have e : bvs xs ++ bvs ys = bvs (xs ++ ys) := by simp
    rw [e] at r2
    unfold Row
    rw [List.length_append, ← s1]; exact r2
/-- a byte that was built -/
theorem src_byte (w : World) (b : UInt8) : Src (w.alloc (.cells #[.int .u8 b.toNat] 5)) (some ⟨w.heap.size, 0, none⟩) 1 1 [b] := by
  refine ⟨rfl, Nat.le_refl _, fun e => (by cases e), fun ad e j x hx => ?_⟩
  cases e
  rw [Addr.add_mid, Nat.zero_add]
  exact (Has.newA w #[.int .u8 b.toNat] 5).cellv j _ (by
    match j, hx with
    | 0, hx => cases hx; rfl
    | j + 1, hx => simp at hx)
/-- 'string(b)' of a row -/
theorem cvt_src {w : World} {A : Option Addr} {m c : Nat} {ys : List UInt8} (h : Src w A m c ys) : (convert 32 9 (.slice A m c)).run Tryd.prog w = .ok (.string (mk ys)) w := by
  obtain ⟨s1, s2, s3, s4⟩ := h
  cases A with
  | none =>
    have hc := s3 rfl
    have hm : m = 0 := by omega
    subst hm hc
    obtain rfl : ys = [] := List.eq_nil_of_length_eq_zero s1.symm
    rw [run_convert_bytes_string w 32 9 5 none 0 0 under32 under5 under9]
    rfl
  | some ad =>
    have := run_convert_bytes_back (P := Tryd.prog) w 32 9 5 ad c ys under32 under5 under9 (fun j hj => s4 ad rfl j _ (List.getElem?_eq_getElem hj))
    rw [← s1] at this
    exact this
end Go.Proofs.YthhpbonacefmaaaDoor
