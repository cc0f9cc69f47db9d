/- bytes that are taken are those that are laid again, over lists. -/
import Derived.Test.YtkddfnglonofoaaE0
namespace Go.Proofs.Ytkddfnglonofoaa
open Go Go.RowKit

theorem fail_ne (R : RS) (e : Int) (he : e ≠ 0) : (R.fail e).2 ≠ 0 := by
  unfold RS.fail
  split
  · exact he
  · assumption
def errs (e : Int) : Prop := e = 0 ∨ e = 50 ∨ e = 51
theorem fail_errs (R : RS) (e : Int) (h : errs R.2) (he : errs e) : errs (R.fail e).2 := by
  unfold RS.fail
  split
  · exact he
  · exact h
theorem rTake_errs (R : RS) (n : Int) (h : errs R.2) : errs (rTake R n).2.2 := by
  unfold rTake
  split
  · exact fail_errs R 51 h (.inr (.inr rfl))
  · split
    · exact fail_errs R 50 h (.inr (.inl rfl))
    · exact h
theorem rNumL_errs (R : RS) (n : Int) (h : errs R.2) : errs (rNumL R n).2.2 := by
  unfold rNumL
  split
  · exact rTake_errs R n h
  · exact fail_errs R 51 h (.inr (.inr rfl))
theorem rTake_zero (R : RS) (n : Int) (h : (rTake R n).2.2 = 0) : R.2 = 0 ∧ ∃ a r, R.1 = a ++ r ∧ (a.length : Int) = n ∧ rTake R n = (a, (r, 0)) := by
  unfold rTake at h ⊢
  split at h
  · exact absurd h (fail_ne R 51 (by decide))
  · split at h
    · exact absurd h (fail_ne R 50 (by decide))
    · rename_i h1 h2
      have h0 : R.2 = 0 := h
      refine ⟨h0, R.1.take n.toNat, R.1.drop n.toNat, (List.take_append_drop _ _).symm, by rw [List.length_take]; omega, ?_⟩
      rw [if_neg h1, if_neg h2, h0]
theorem rNumL_zero (R : RS) (n : Int) (h : (rNumL R n).2.2 = 0) : R.2 = 0 ∧ sized n ∧ ∃ a r, R.1 = a ++ r ∧ (a.length : Int) = n ∧ rNumL R n = (a, (r, 0)) := by
  unfold rNumL at h ⊢
  split at h
  · rename_i hs
    obtain ⟨h1, h2⟩ := rTake_zero R n h
    rw [if_pos hs]
    exact ⟨h1, hs, h2⟩
  · exact absurd h (fail_ne R 51 (by decide))
theorem rTake_room (R : RS) (n : Int) : (rTake R n).1.length + (rTake R n).2.1.length ≤ R.1.length := by
  unfold rTake
  split
  · simp [RS.fail]
  · split
    · simp [RS.fail]
    · rw [← List.length_append, List.take_append_drop]; exact Nat.le_refl _
theorem rNumL_room (R : RS) (n : Int) : (rNumL R n).1.length + (rNumL R n).2.1.length ≤ R.1.length := by
  unfold rNumL
  split
  · exact rTake_room R n
  · simp [RS.fail]
theorem be_sval (l : List UInt8) (h : l.length ≤ 8) (h1 : 1 ≤ l.length) : be l.length (u64 (sval l)) = l := by
  have hv := val_lt l
  have e : u64 (sval l) % 256 ^ l.length = val l % 256 ^ l.length := by
    unfold sval u64
    obtain ⟨n, hn⟩ : ∃ n, val l = n := ⟨_, rfl⟩
    obtain ⟨k, hk⟩ : ∃ k, l.length = k := ⟨_, rfl⟩
    rw [hn, hk] at hv
    rw [hn, hk]
    have h9 : k = 1 ∨ k = 2 ∨ k = 3 ∨ k = 4 ∨ k = 5 ∨ k = 6 ∨ k = 7 ∨ k = 8 := by omega
    clear hn hk h h1
    rcases h9 with rfl | rfl | rfl | rfl | rfl | rfl | rfl | rfl
    · have hv' : n < 256 := hv
      show ((if 2 * n < 256 then (n : Int) else (n : Int) - ((256 : Nat) : Int)) % 18446744073709551616).toNat % 256 = n % 256
      split <;> omega
    · have hv' : n < 65536 := hv
      show ((if 2 * n < 65536 then (n : Int) else (n : Int) - ((65536 : Nat) : Int)) % 18446744073709551616).toNat % 65536 = n % 65536
      split <;> omega
    · have hv' : n < 16777216 := hv
      show ((if 2 * n < 16777216 then (n : Int) else (n : Int) - ((16777216 : Nat) : Int)) % 18446744073709551616).toNat % 16777216 = n % 16777216
      split <;> omega
    · have hv' : n < 4294967296 := hv
      show ((if 2 * n < 4294967296 then (n : Int) else (n : Int) - ((4294967296 : Nat) : Int)) % 18446744073709551616).toNat % 4294967296 = n % 4294967296
      split <;> omega
    · have hv' : n < 1099511627776 := hv
      show ((if 2 * n < 1099511627776 then (n : Int) else (n : Int) - ((1099511627776 : Nat) : Int)) % 18446744073709551616).toNat % 1099511627776 = n % 1099511627776
      split <;> omega
    · have hv' : n < 281474976710656 := hv
      show ((if 2 * n < 281474976710656 then (n : Int) else (n : Int) - ((281474976710656 : Nat) : Int)) % 18446744073709551616).toNat % 281474976710656 = n % 281474976710656
      split <;> omega
    · have hv' : n < 72057594037927936 := hv
      show ((if 2 * n < 72057594037927936 then (n : Int) else (n : Int) - ((72057594037927936 : Nat) : Int)) % 18446744073709551616).toNat % 72057594037927936 = n % 72057594037927936
      split <;> omega
    · have hv' : n < 18446744073709551616 := hv
      show ((if 2 * n < 18446744073709551616 then (n : Int) else (n : Int) - ((18446744073709551616 : Nat) : Int)) % 18446744073709551616).toNat % 18446744073709551616 = n % 18446744073709551616
      split <;> omega
  rw [← be_mod _ _ l.length (Nat.le_refl _), e, be_mod _ _ _ (Nat.le_refl _), be_val]
theorem fits_sval (l : List UInt8) : -(256 ^ l.length : Nat) ≤ 2 * sval l ∧ 2 * sval l < (256 ^ l.length : Nat) := by
  have hv := val_lt l
  unfold sval
  split <;> omega
/-- where PackForm stands -/
structure FI (L : List UInt8) (R : RS) (st : WS) (N : Nat) : Prop where
  e : errs R.2
  g : R.2 = 0 → ∃ p, st = some p ∧ L = p ++ R.1
  b : (st.getD []).length + R.1.length ≤ N
theorem FI.num {L : List UInt8} {R : RS} {st : WS} {N : Nat} (h : FI L R st N) (size : Int) : FI L (rNum R size).2 (wNum st (rNum R size).1 size) (N + 8) := by
  refine ⟨rNumL_errs R size h.e, fun h0 => ?_, ?_⟩
  · obtain ⟨h1, hs, a, r, e1, e2, e3⟩ := rNumL_zero R size h0
    obtain ⟨p, e4, e5⟩ := h.g h1
    have es : size.toNat = a.length := by omega
    refine ⟨p ++ a, ?_, ?_⟩
    · unfold wNum rNum
      rw [e3, e4]
      have hf : fitsU (val a) size := ⟨hs, by rw [es]; exact val_lt a⟩
      show (if fitsU (val a) size then (some p).map (· ++ be size.toNat (val a)) else none) = _
      rw [if_pos hf, es, be_val]; rfl
    · unfold rNum
      rw [e3, e5, e1]
      simp
  · have h1 := wNum_len st (rNum R size).1 size
    have h2 := rNumL_room R size
    have h3 := h.b
    show _ + (rNumL R size).2.1.length ≤ _
    omega
theorem FI.sig {L : List UInt8} {R : RS} {st : WS} {N : Nat} (h : FI L R st N) (size : Int) : FI L (rSig R size).2 (wSig st (rSig R size).1 size) (N + 8) := by
  refine ⟨rNumL_errs R size h.e, fun h0 => ?_, ?_⟩
  · obtain ⟨h1, hs, a, r, e1, e2, e3⟩ := rNumL_zero R size h0
    obtain ⟨p, e4, e5⟩ := h.g h1
    have es : size.toNat = a.length := by omega
    refine ⟨p ++ a, ?_, ?_⟩
    · unfold wSig rSig
      rw [e3, e4]
      have hf : fitsS (sval a) size := ⟨hs, by rw [es]; exact fits_sval a⟩
      show (if fitsS (sval a) size then (some p).map (· ++ be size.toNat (u64 (sval a))) else none) = _
      have := hs.1
      have := hs.2
      rw [if_pos hf, es, be_sval a (by omega) (by omega)]; rfl
    · unfold rSig
      rw [e3, e5, e1]
      simp
  · have h1 := wSig_len st (rSig R size).1 size
    have h2 := rNumL_room R size
    have h3 := h.b
    show _ + (rNumL R size).2.1.length ≤ _
    omega
theorem FI.bytes {L : List UInt8} {R : RS} {st : WS} {N : Nat} (h : FI L R st N) (n : Int) : FI L (rTake R n).2 (wBytes st (rTake R n).1) (N + 8) := by
  refine ⟨rTake_errs R n h.e, fun h0 => ?_, ?_⟩
  · obtain ⟨h1, a, r, e1, e2, e3⟩ := rTake_zero R n h0
    obtain ⟨p, e4, e5⟩ := h.g h1
    refine ⟨p ++ a, ?_, ?_⟩
    · rw [e3, e4]; rfl
    · rw [e3, e5, e1]; simp
  · have h1 := wBytes_len st (rTake R n).1
    have h2 := rTake_room R n
    have h3 := h.b
    omega
theorem FI.text {L : List UInt8} {R : RS} {st : WS} {N : Nat} (h : FI L R st N) : FI L (rText R).2 (wText st (rText R).1) (N + 8) := by
  refine ⟨rTake_errs _ _ (rNumL_errs R 1 h.e), fun h0 => ?_, ?_⟩
  · obtain ⟨h1, b, r2, e6, e7, e8⟩ := rTake_zero _ _ h0
    obtain ⟨h2, hs, a, r, e1, e2, e3⟩ := rNumL_zero R 1 h1
    obtain ⟨p, e4, e5⟩ := h.g h2
    have ea : a.length = 1 := by omega
    obtain ⟨x, rfl⟩ : ∃ x, a = [x] := by
      match a, ea with
      | [x], _ => exact ⟨x, rfl⟩
    have er : (rNum R 1).2 = (r, 0) := by unfold rNum; rw [e3]
    have ev : (rNum R 1).1 = x.toNat := by unfold rNum; rw [e3]; simp [val]
    rw [er] at e6
    rw [ev] at e7
    have e6' : r = b ++ r2 := e6
    have hx : x.toNat < 256 := x.toNat_lt
    have hbl : b.length = x.toNat := by omega
    have et : rText R = (b, (r2, 0)) := by unfold rText; exact e8
    refine ⟨p ++ (x :: b), ?_, ?_⟩
    · rw [et, e4]
      unfold wText
      show (if b.length ≤ 255 then (some p).map (· ++ UInt8.ofNat b.length :: b) else none) = _
      rw [if_pos (by omega), hbl]
      simp
    · rw [et, e5, e1, e6']; simp
  · have h1 := wText_len st (rText R).1
    have h2 := rTake_room (rNum R 1).2 (rNum R 1).1
    have h4 := rNumL_room R 1
    have h5 : (rNum R 1).2 = (rNumL R 1).2 := rfl
    rw [h5] at h2
    have h3 := h.b
    have h6 : rText R = rTake (rNumL R 1).2 (rNum R 1).1 := rfl
    rw [h6] at h1 ⊢
    omega
theorem FI.up {L : List UInt8} {R : RS} {st : WS} {N M : Nat} (h : FI L R st N) (hn : N ≤ M) : FI L R st M := ⟨h.e, h.g, Nat.le_trans h.b hn⟩
theorem FI.start (L : List UInt8) : FI L (L, 0) (some []) L.length := ⟨.inl rfl, fun _ => ⟨[], rfl, rfl⟩, by simp⟩
/-- one call of PackForm -/
def fStep (R : RS) (st : WS) (o : OpT) : RS × WS :=
  if o.kind = 1 then ((rNum R o.size).2, wNum st (rNum R o.size).1 o.size)
  else if o.kind = 2 then ((rSig R o.size).2, wSig st (rSig R o.size).1 o.size)
  else if o.kind = 3 then ((rTake R o.size).2, wBytes st (rTake R o.size).1)
  else if o.kind = 4 then ((rText R).2, wText st (rText R).1)
  else (R, st)
theorem FI.rest {L : List UInt8} {R : RS} {st : WS} {N : Nat} (h : FI L R st N) (h0 : R.2 = 0) : wBytes st R.1 = some L := by
  obtain ⟨p, e1, e2⟩ := h.g h0
  rw [e1, e2]; rfl
end Go.Proofs.Ytkddfnglonofoaa
