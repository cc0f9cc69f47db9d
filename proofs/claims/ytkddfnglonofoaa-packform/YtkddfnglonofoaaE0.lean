/- what is laid is taken, over lists. -/
import Derived.Test.YtkddfnglonofoaaD1
namespace Go.Proofs.Ytkddfnglonofoaa
open Go Go.RowKit

theorem sval_be (i size : Int) (h : fitsS i size) : sval (be size.toNat (u64 i)) = i := by
  obtain ⟨⟨h1, h2⟩, h3⟩ := h
  unfold sval
  rw [val_be, be_len]
  have h8 : size = 1 ∨ size = 2 ∨ size = 3 ∨ size = 4 ∨ size = 5 ∨ size = 6 ∨ size = 7 ∨ size = 8 := by omega
  obtain ⟨n, hn⟩ : ∃ n, u64 i = n := ⟨_, rfl⟩
  have hn' : (n : Int) = i % 18446744073709551616 := by rw [← hn]; unfold u64; omega
  rw [hn]
  clear hn h1 h2
  rcases h8 with rfl | rfl | rfl | rfl | rfl | rfl | rfl | rfl
  · have h4 : -((256 : Nat) : Int) ≤ 2 * i ∧ 2 * i < ((256 : Nat) : Int) := h3
    show (if 2 * (n % 256) < 256 then ((n % 256 : Nat) : Int) else ((n % 256 : Nat) : Int) - ((256 : Nat) : Int)) = i
    split <;> omega
  · have h4 : -((65536 : Nat) : Int) ≤ 2 * i ∧ 2 * i < ((65536 : Nat) : Int) := h3
    show (if 2 * (n % 65536) < 65536 then ((n % 65536 : Nat) : Int) else ((n % 65536 : Nat) : Int) - ((65536 : Nat) : Int)) = i
    split <;> omega
  · have h4 : -((16777216 : Nat) : Int) ≤ 2 * i ∧ 2 * i < ((16777216 : Nat) : Int) := h3
    show (if 2 * (n % 16777216) < 16777216 then ((n % 16777216 : Nat) : Int) else ((n % 16777216 : Nat) : Int) - ((16777216 : Nat) : Int)) = i
    split <;> omega
  · have h4 : -((4294967296 : Nat) : Int) ≤ 2 * i ∧ 2 * i < ((4294967296 : Nat) : Int) := h3
    show (if 2 * (n % 4294967296) < 4294967296 then ((n % 4294967296 : Nat) : Int) else ((n % 4294967296 : Nat) : Int) - ((4294967296 : Nat) : Int)) = i
    split <;> omega
  · have h4 : -((1099511627776 : Nat) : Int) ≤ 2 * i ∧ 2 * i < ((1099511627776 : Nat) : Int) := h3
    show (if 2 * (n % 1099511627776) < 1099511627776 then ((n % 1099511627776 : Nat) : Int) else ((n % 1099511627776 : Nat) : Int) - ((1099511627776 : Nat) : Int)) = i
    split <;> omega
  · have h4 : -((281474976710656 : Nat) : Int) ≤ 2 * i ∧ 2 * i < ((281474976710656 : Nat) : Int) := h3
    show (if 2 * (n % 281474976710656) < 281474976710656 then ((n % 281474976710656 : Nat) : Int) else ((n % 281474976710656 : Nat) : Int) - ((281474976710656 : Nat) : Int)) = i
    split <;> omega
  · have h4 : -((72057594037927936 : Nat) : Int) ≤ 2 * i ∧ 2 * i < ((72057594037927936 : Nat) : Int) := h3
    show (if 2 * (n % 72057594037927936) < 72057594037927936 then ((n % 72057594037927936 : Nat) : Int) else ((n % 72057594037927936 : Nat) : Int) - ((72057594037927936 : Nat) : Int)) = i
    split <;> omega
  · have h4 : -((18446744073709551616 : Nat) : Int) ≤ 2 * i ∧ 2 * i < ((18446744073709551616 : Nat) : Int) := h3
    show (if 2 * (n % 18446744073709551616) < 18446744073709551616 then ((n % 18446744073709551616 : Nat) : Int) else ((n % 18446744073709551616 : Nat) : Int) - ((18446744073709551616 : Nat) : Int)) = i
    split <;> omega
/-- the bytes of one call -/
def enc (o : OpT) : Option (List UInt8) :=
  if o.kind = 1 then (if fitsU o.u o.size then some (be o.size.toNat o.u) else none)
  else if o.kind = 2 then (if fitsS o.i o.size then some (be o.size.toNat (u64 o.i)) else none)
  else if o.kind = 3 then some (sl o.s)
  else if o.kind = 4 then (if (sl o.s).length ≤ 255 then some (UInt8.ofNat (sl o.s).length :: sl o.s) else none)
  else some []
theorem wLay_enc (p : List UInt8) (o : OpT) : wLay (some p) o = (enc o).map (p ++ ·) := by
  unfold wLay enc wNum wSig wBytes wText
  split
  · split <;> rfl
  · split
    · split <;> rfl
    · split
      · rfl
      · split
        · split <;> rfl
        · simp
def encAll : List OpT → Option (List UInt8)
  | [] => some []
  | o :: r => (enc o).bind fun a => (encAll r).map (a ++ ·)
theorem wLays_none (xs : List OpT) : wLays none xs = none := by
  induction xs with
  | nil => rfl
  | cons o r ih => show wLays (wLay none o) r = none; rw [wLay_none]; exact ih
theorem wLays_enc (p : List UInt8) (xs : List OpT) : wLays (some p) xs = (encAll xs).map (p ++ ·) := by
  induction xs generalizing p with
  | nil => simp [wLays, encAll]
  | cons o r ih =>
    show wLays (wLay (some p) o) r = _
    rw [wLay_enc]
    cases h : enc o with
    | none => simp only [Option.map_none, wLays_none, encAll, h]; rfl
    | some a =>
      simp only [Option.map_some, ih, encAll, h, Option.bind_some, Option.map_map]
      congr 1
      funext b
      simp
theorem encAll_drop {xs : List OpT} {i : Nat} {o : OpT} {R : List UInt8} (h : encAll (xs.drop i) = some R) (ho : xs[i]? = some o) : ∃ a r, enc o = some a ∧ R = a ++ r ∧ encAll (xs.drop (i + 1)) = some r := by
  obtain ⟨h1, h2⟩ := List.getElem?_eq_some_iff.1 ho
  rw [List.drop_eq_getElem_cons h1, h2, encAll] at h
  cases ha : enc o with
  | none => rw [ha] at h; cases h
  | some a =>
    rw [ha] at h
    cases hr : encAll (xs.drop (i + 1)) with
    | none => rw [Option.bind_some, hr] at h; cases h
    | some r =>
      rw [Option.bind_some, hr] at h
      exact ⟨a, r, rfl, (Option.some.inj h).symm, rfl⟩
theorem rTake_app (a r : List UInt8) (n : Int) (e : Int) (h : n = (a.length : Int)) : rTake (a ++ r, e) n = (a, (r, e)) := by
  subst h
  unfold rTake
  rw [if_neg (by omega), if_neg (by simp; omega)]
  simp
theorem rNumL_app (a r : List UInt8) (size : Int) (e : Int) (hs : sized size) (h : size = (a.length : Int)) : rNumL (a ++ r, e) size = (a, (r, e)) := by
  unfold rNumL
  rw [if_pos hs]
  exact rTake_app a r size e h
theorem take1 {o : OpT} {a : List UInt8} (h1 : o.kind = 1) (h : enc o = some a) (r : List UInt8) : rNum (a ++ r, 0) o.size = (o.u, (r, 0)) := by
  unfold enc at h
  rw [if_pos h1] at h
  split at h
  · rename_i hf
    cases h
    have := hf.1.1
    unfold rNum
    rw [rNumL_app _ r o.size 0 hf.1 (by rw [be_len]; omega), val_be, Nat.mod_eq_of_lt hf.2]
  · cases h
theorem take2 {o : OpT} {a : List UInt8} (h1 : o.kind = 2) (h : enc o = some a) (r : List UInt8) : rSig (a ++ r, 0) o.size = (o.i, (r, 0)) := by
  unfold enc at h
  rw [if_neg (by omega), if_pos h1] at h
  split at h
  · rename_i hf
    cases h
    have := hf.1.1
    unfold rSig
    rw [rNumL_app _ r o.size 0 hf.1 (by rw [be_len]; omega), sval_be _ _ hf]
  · cases h
theorem take3 {o : OpT} {a : List UInt8} (h1 : o.kind = 3) (h : enc o = some a) (r : List UInt8) : rTake (a ++ r, 0) o.s.size = (sl o.s, (r, 0)) := by
  unfold enc at h
  rw [if_neg (by omega), if_neg (by omega), if_pos h1] at h
  cases h
  exact rTake_app _ r _ 0 (by rw [sl_len])
theorem take4 {o : OpT} {a : List UInt8} (h1 : o.kind = 4) (h : enc o = some a) (r : List UInt8) : rText (a ++ r, 0) = (sl o.s, (r, 0)) := by
  unfold enc at h
  rw [if_neg (by omega), if_neg (by omega), if_neg (by omega), if_pos h1] at h
  split at h
  · rename_i hf
    cases h
    unfold rText rNum
    have e1 : rNumL (UInt8.ofNat (sl o.s).length :: sl o.s ++ r, 0) 1 = ([UInt8.ofNat (sl o.s).length], (sl o.s ++ r, 0)) := rNumL_app [UInt8.ofNat (sl o.s).length] (sl o.s ++ r) 1 0 ⟨by omega, by omega⟩ rfl
    rw [e1]
    refine rTake_app _ r _ 0 ?_
    show ((val [UInt8.ofNat (sl o.s).length] : Nat) : Int) = _
    have e2 : val [UInt8.ofNat (sl o.s).length] = (sl o.s).length := by
      simp only [val, List.length_nil, Nat.pow_zero, Nat.mul_one, Nat.add_zero, UInt8.toNat_ofNat']
      omega
    rw [e2]
  · cases h
theorem take0 {o : OpT} {a : List UInt8} (h1 : o.kind ≠ 1) (h2 : o.kind ≠ 2) (h3 : o.kind ≠ 3) (h4 : o.kind ≠ 4) (h : enc o = some a) : a = [] := by
  unfold enc at h
  rw [if_neg h1, if_neg h2, if_neg h3, if_neg h4] at h
  cases h; rfl
def bulk (xs : List OpT) : Nat := (xs.map fun o => o.s.size + 8).sum
theorem bulk_take (xs : List OpT) (i : Nat) (o : OpT) (h : xs[i]? = some o) : bulk (xs.take (i + 1)) = bulk (xs.take i) + o.s.size + 8 := by
  obtain ⟨h1, h2⟩ := List.getElem?_eq_some_iff.1 h
  rw [List.take_succ_eq_append_getElem h1, h2]
  simp [bulk]; omega
theorem bulk_le (xs : List OpT) (i : Nat) : bulk (xs.take i) ≤ bulk xs := by
  have e : xs = xs.take i ++ xs.drop i := (List.take_append_drop i xs).symm
  have e2 : bulk xs = bulk (xs.take i) + bulk (xs.drop i) := by
    conv => lhs; rw [e]
    unfold bulk
    rw [List.map_append, List.sum_append]
  omega
theorem lays_len (xs : List OpT) : ∀ i, i ≤ xs.length → ((wLays (some []) (xs.take i)).getD []).length ≤ bulk (xs.take i)
  | 0, _ => by simp [wLays, bulk]
  | i + 1, h => by
    have ho : xs[i]? = some xs[i] := List.getElem?_eq_getElem (by omega)
    rw [wLays_step _ _ _ _ ho, bulk_take _ _ _ ho]
    have := lays_len xs i (by omega)
    have := wLay_len (wLays (some []) (xs.take i)) xs[i]
    omega
theorem lays_room (xs : List OpT) (i : Nat) (o : OpT) (ho : xs[i]? = some o) (hb : bulk xs ≤ 100000000000000) : ((wLays (some []) (xs.take i)).getD []).length + o.s.size ≤ 140737488355312 := by
  have hi : i < xs.length := (List.getElem?_eq_some_iff.1 ho).1
  have h1 := lays_len xs i (by omega)
  have h2 := bulk_take xs i o ho
  have h3 := bulk_le xs (i + 1)
  omega
end Go.Proofs.Ytkddfnglonofoaa
