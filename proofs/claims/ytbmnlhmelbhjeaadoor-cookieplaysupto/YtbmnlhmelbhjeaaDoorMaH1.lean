/- MacHmac's walk -/
import Derived.Test.YtbmnlhmelbhjeaaDoorMaS0
import Derived.Test.YtbmnlhmelbhjeaaDoorMaC4
import Derived.Maps.AppendAt
namespace Go.Proofs.YtbmnlhmelbhjeaaDoor
open Go Go.RowKit

theorem parts_one (w : World) (a : Option Addr) (n c : Nat) (q : List UInt8) (hq : BytesOf w a n c q) : Parts (w.alloc (.cells #[.slice a n c] 67)) (some ⟨w.heap.size, 0, none⟩) 1 [q] := by
  refine ⟨rfl, fun _ => ⟨_, 0, rfl, fun j p hp => ?_⟩⟩
  match j, hp with
  | 0, hp =>
    obtain rfl : q = p := by simpa using hp
    refine ⟨a, n, c, ?_, hq.kept (World.grownBy_alloc _ _ _)⟩
    rw [(Has.newA w #[.slice a n c] 67).cell]; rfl
  | j + 1, hp => simp at hp
def shaB (s : ByteArray) : ByteArray := ⟨(Sha.sha (sl s)).toArray⟩

/-- append of one byte to a row of the call's own: its run, and where the row lies -/
theorem app1 (w : World) (base : Nat) (v : Value) (n : Nat) (xs : List UInt8) (x : UInt8) (hown : w.ownsRow base 5 1 v n (xs.map bv)) (hn : n ≤ 1000) (hbase : base ≤ w.heap.size) :
    ∃ a' c' w', (Builtin.append_ #[67, 67] 67 #[v, .slice (some ⟨w.heap.size, 0, none⟩) 1 1]).run Tryd.prog (w.alloc (.cells #[.int .u8 x.toNat] 5)) = .ok (.slice a' (n + 1) c') w' ∧ w'.ownsRow base 5 1 (.slice a' (n + 1) c') (n + 1) ((xs ++ [x]).map bv) ∧ (w.alloc (.cells #[.int .u8 x.toNat] 5)).grownBy w' v.ownBlock ∧ ((Value.slice a' (n + 1) c').ownBlock = v.ownBlock ∨ (Value.slice a' (n + 1) c').ownBlock = some (w.heap.size + 1)) := by
  have hi : ∃ i, Tryd.prog.info? 5 = some i ∧ i.size = 1 ∧ i.bytes = 1 ∧ i.zero = some (.int .u8 0) := by
    have h : (Tryd.prog.info? 5).map (fun i => (i.size, i.bytes, i.zero)) = some (1, 1, some (.int .u8 0)) := by kernel_rfl
    cases hq : Tryd.prog.info? 5 with
    | none => simp [hq] at h
    | some i =>
      simp only [hq, Option.map_some, Option.some.injEq, Prod.mk.injEq] at h
      exact ⟨i, rfl, h.1, h.2.1, h.2.2⟩
  obtain ⟨i, h1, h2, h3, h4⟩ := hi
  have hk := hown.kept (World.grownBy_alloc w (.cells #[.int .u8 x.toNat] 5) none) (by cases v.ownBlock <;> simp)
  obtain ⟨v', w', r1, r2, r3, _, r5⟩ := run_append_own_at (P := Tryd.prog) _ base 67 67 5 i (.int .u8 0) 1 1 under28 h1 h4 h2 h3 rfl (by decide) v n _ hk ⟨w.heap.size, 0, none⟩ 1 1 [bv x] rfl (fun j u hu => by
      rw [Addr.add_mid, Nat.zero_add]
      refine (Has.newA w #[.int .u8 x.toNat] 5).cellv j _ ?_
      match j, hu with
      | 0, hu => exact hu
      | j + 1, hu => simp at hu) (fun u hu => by simp at hu; subst hu; rfl) (by unfold maxLen; omega) (by omega) (by rw [heap1]; omega)
  have e : xs.map bv ++ [bv x] = (xs ++ [x]).map bv := by simp
  rw [e] at r2
  obtain ⟨a', c', rfl, _, _⟩ := own_bytes r2
  rw [heap1] at r5
  exact ⟨a', c', w', r1, r2, r3, r5⟩
/-- where MacHmac's loop stands: i bytes in both rows -/
structure HR (w0 w' : World) (K : List UInt8) (vi vo : Value) (i : Nat) : Prop where
  oi : w'.ownsRow w0.heap.size 5 1 vi i ((Mac.kx 54 (K.take i)).map bv)
  oo : w'.ownsRow w0.heap.size 5 1 vo i ((Mac.kx 92 (K.take i)).map bv)
  ne : ∀ b, vi.ownBlock = some b → vo.ownBlock ≠ some b
  g : w0.grownBy w' none
theorem kx_snoc (K : List UInt8) (x y : UInt8) (i : Nat) (hy : K[i]? = some y) : Mac.kx x (K.take i) ++ [y ^^^ x] = Mac.kx x (K.take (i + 1)) := by
  obtain ⟨h1, e1⟩ := List.getElem?_eq_some_iff.1 hy
  rw [List.take_succ_eq_append_getElem h1, e1, Mac.kx, Mac.kx, List.map_append]; rfl
theorem HR.appI {w0 w' : World} {K : List UInt8} {vi vo : Value} {i : Nat} (h : HR w0 w' K vi vo i) (hi : i < 64) (y : UInt8) (hy : K[i]? = some y) (v : UInt8) (hv : y ^^^ 54 = v) :
    ∃ a' c' w2, (Builtin.append_ #[67, 67] 67 #[vi, .slice (some ⟨w'.heap.size, 0, none⟩) 1 1]).run Tryd.prog (w'.alloc (.cells #[.int .u8 v.toNat] 5)) = .ok (.slice a' (i + 1) c') w2 ∧
      w2.ownsRow w0.heap.size 5 1 (.slice a' (i + 1) c') (i + 1) ((Mac.kx 54 (K.take (i + 1))).map bv) ∧ w2.ownsRow w0.heap.size 5 1 vo i ((Mac.kx 92 (K.take i)).map bv) ∧ (∀ b, (Value.slice a' (i + 1) c').ownBlock = some b → vo.ownBlock ≠ some b) ∧ w0.grownBy w2 none := by
  obtain ⟨a', c', w2, r1, r2, r3, r5⟩ := app1 w' w0.heap.size vi i _ v h.oi (by omega) h.g.size
  rw [← hv, kx_snoc K 54 y i hy] at r2
  have ga := World.grownBy_alloc w' (.cells #[.int .u8 v.toNat] 5) none
  have ko := h.oo.kept ga (by cases vo.ownBlock <;> simp)
  refine ⟨a', c', w2, r1, r2, ko.kept r3 ?_, fun b hb hb2 => ?_, gr_row (h.g.trans ga) r3 (fun j hj => (h.oi.lt j hj).1)⟩
  · cases hvo : vo.ownBlock with
    | none => exact .inl rfl
    | some b => exact .inr (fun e => h.ne b e.symm hvo)
  · rcases r5 with e | e
    · rw [e] at hb; exact h.ne b hb hb2
    · rw [e] at hb
      have := (h.oo.lt b hb2).2
      have e2 := Option.some.inj hb
      omega
theorem HR.appO {w0 w2 : World} {K : List UInt8} {vi vo : Value} {i : Nat} (hI : w2.ownsRow w0.heap.size 5 1 vi (i + 1) ((Mac.kx 54 (K.take (i + 1))).map bv)) (hO : w2.ownsRow w0.heap.size 5 1 vo i ((Mac.kx 92 (K.take i)).map bv)) (hne : ∀ b, vi.ownBlock = some b → vo.ownBlock ≠ some b) (hg : w0.grownBy w2 none) (hi : i < 64) (y : UInt8) (hy : K[i]? = some y) (v : UInt8) (hv : y ^^^ 92 = v) :
    ∃ a' c' w3, (Builtin.append_ #[67, 67] 67 #[vo, .slice (some ⟨w2.heap.size, 0, none⟩) 1 1]).run Tryd.prog (w2.alloc (.cells #[.int .u8 v.toNat] 5)) = .ok (.slice a' (i + 1) c') w3 ∧ HR w0 w3 K vi (.slice a' (i + 1) c') (i + 1) := by
  obtain ⟨a', c', w3, r1, r2, r3, r5⟩ := app1 w2 w0.heap.size vo i _ v hO (by omega) hg.size
  rw [← hv, kx_snoc K 92 y i hy] at r2
  have ga := World.grownBy_alloc w2 (.cells #[.int .u8 v.toNat] 5) none
  have ki := hI.kept ga (by cases vi.ownBlock <;> simp)
  refine ⟨a', c', w3, r1, ki.kept r3 ?_, r2, fun b hb hb2 => ?_, gr_row (hg.trans ga) r3 (fun j hj => (hO.lt j hj).1)⟩
  · cases hvi : vi.ownBlock with
    | none => exact .inl rfl
    | some b => exact .inr (fun e => hne b hvi e.symm)
  · rcases r5 with e | e
    · rw [e] at hb2; exact hne b hb hb2
    · rw [e] at hb2
      have := (hI.lt b hb).2
      have e2 := Option.some.inj hb2
      omega

theorem HR.bytes {w0 w' : World} {K : List UInt8} {ai ao : Option Addr} {ci co : Nat} (h : HR w0 w' K (.slice ai 64 ci) (.slice ao 64 co) 64) (hK : K.length = 64) : BytesOf w' ai 64 ci (Mac.kx 54 K) ∧ BytesOf w' ao 64 co (Mac.kx 92 K) ∧ ai ≠ none ∧ ao ≠ none := by
  obtain ⟨oi, oo, _, _⟩ := h
  rw [List.take_of_length_le (by omega)] at oi oo
  obtain ⟨a1, c1, e1, b1, n1⟩ := own_bytes oi
  obtain ⟨a2, c2, e2, b2, n2⟩ := own_bytes oo
  injection e1 with x1 x2 x3
  injection e2 with y1 y2 y3
  subst x1 x3 y1 y3
  refine ⟨b1, b2, fun e => ?_, fun e => ?_⟩
  · obtain ⟨B, o, e', _⟩ := b1.at_ (by decide)
    rw [e] at e'; cases e'
  · obtain ⟨B, o, e', _⟩ := b2.at_ (by decide)
    rw [e] at e'; cases e'
theorem key_at (kb : ByteArray) (h : kb.size ≤ 64) (i : Nat) (hi : i < 64) : ∃ y, (Mac.keyOf (sl kb))[i]? = some y ∧ (i < kb.size → (sl kb)[i]? = some y) ∧ (¬ i < kb.size → y = 0) := by
  have hl := sl_len kb
  unfold Mac.keyOf
  rw [if_pos (by omega)]
  by_cases hk : i < kb.size
  · refine ⟨kb[i], ?_, fun _ => sl_at kb i hk, fun h => absurd hk h⟩
    rw [List.getElem?_append_left (by omega), sl_at kb i hk]
  · refine ⟨0, ?_, fun h => absurd h hk, fun _ => rfl⟩
    rw [List.getElem?_append_right (by omega), List.getElem?_replicate, if_pos (by omega)]
end Go.Proofs.YtbmnlhmelbhjeaaDoor
