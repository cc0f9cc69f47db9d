/- HMAC and what is derived, over lists. -/
import Derived.Test.YtbmnlhmelbhjeaaDoorMaA9
import Derived.Test.YtbmnlhmelbhjeaaDoorMaM0
namespace Go.Proofs.YtbmnlhmelbhjeaaDoor
namespace Mac

def kx (x : UInt8) (l : List UInt8) : List UInt8 := l.map (· ^^^ x)
def keyOf (k : List UInt8) : List UInt8 := if k.length ≤ 64 then k ++ List.replicate (64 - k.length) 0 else Sha.sha k ++ List.replicate 32 0
def hmac (k t : List UInt8) : List UInt8 := Sha.sha (kx 92 (keyOf k) ++ Sha.sha (kx 54 (keyOf k) ++ t))
def len8 (n : Nat) : List UInt8 := [UInt8.ofNat (n / 2 ^ 56), UInt8.ofNat (n / 2 ^ 48), UInt8.ofNat (n / 2 ^ 40), UInt8.ofNat (n / 2 ^ 32), UInt8.ofNat (n / 2 ^ 24), UInt8.ofNat (n / 2 ^ 16), UInt8.ofNat (n / 2 ^ 8), UInt8.ofNat n]
def flat (ps : List (List UInt8)) : List UInt8 := ps.flatMap fun p => len8 p.length ++ p
def said (use : List UInt8) (ps : List (List UInt8)) : List UInt8 := use ++ 0 :: flat ps

theorem sha_len (T : List UInt8) : (Sha.sha T).length = 32 := by
  rw [Sha.sha, out_len, Sha.fold_len]; rfl
theorem keyOf_len (k : List UInt8) : (keyOf k).length = 64 := by
  unfold keyOf
  split
  · simp; omega
  · simp [sha_len]
theorem kx_len (x : UInt8) (l : List UInt8) : (kx x l).length = l.length := by simp [kx]
theorem hmac_len (k t : List UInt8) : (hmac k t).length = 32 := sha_len _
theorem len8_len (n : Nat) : (len8 n).length = 8 := rfl
theorem keyOf_sum (k : List UInt8) (h : 64 < k.length) : keyOf (Sha.sha k) = keyOf k := by
  unfold keyOf
  rw [if_pos (by rw [sha_len]; omega), if_neg (by omega), sha_len]
theorem keyOf_zeros (k : List UInt8) (n : Nat) (h : k.length + n ≤ 64) : keyOf (k ++ List.replicate n 0) = keyOf k := by
  unfold keyOf
  rw [if_pos (by simp <;> omega), if_pos (by omega), List.append_assoc, List.replicate_append_replicate]
  congr 2
  simp; omega

theorem len8_inj {m n : Nat} (hm : m < 2 ^ 64) (hn : n < 2 ^ 64) (h : len8 m = len8 n) : m = n := by
  simp only [len8, List.cons.injEq, and_true] at h
  obtain ⟨h7, h6, h5, h4, h3, h2, h1, h0⟩ := h
  have f : ∀ a b : Nat, UInt8.ofNat a = UInt8.ofNat b → a % 256 = b % 256 := fun a b e => by
    have := congrArg UInt8.toNat e
    simpa using this
  have h7 := f _ _ h7
  have h6 := f _ _ h6
  have h5 := f _ _ h5
  have h4 := f _ _ h4
  have h3 := f _ _ h3
  have h2 := f _ _ h2
  have h1 := f _ _ h1
  have h0 := f _ _ h0
  clear f
  simp only [Nat.reducePow] at *
  omega
theorem flat_inj : ∀ (ps qs : List (List UInt8)), (∀ p ∈ ps, p.length < 2 ^ 64) → (∀ p ∈ qs, p.length < 2 ^ 64) → flat ps = flat qs → ps = qs
  | [], [], _, _, _ => rfl
  | [], q :: qs, _, _, h => by
    have := congrArg List.length h
    simp only [flat, List.flatMap_cons, List.flatMap_nil, List.length_append, List.length_nil, len8_len] at this
    omega
  | p :: ps, [], _, _, h => by
    have := congrArg List.length h
    simp only [flat, List.flatMap_cons, List.flatMap_nil, List.length_append, List.length_nil, len8_len] at this
    omega
  | p :: ps, q :: qs, hp, hq, h => by
    simp only [flat, List.flatMap_cons, List.append_assoc] at h
    obtain ⟨h1, h2⟩ := List.append_inj h (by rw [len8_len, len8_len])
    have hl := len8_inj (hp p (by simp)) (hq q (by simp)) h1
    obtain ⟨h3, h4⟩ := List.append_inj h2 hl
    rw [h3, flat_inj ps qs (fun x hx => hp x (by simp [hx])) (fun x hx => hq x (by simp [hx])) h4]
theorem said_inj (use : List UInt8) (ps qs : List (List UInt8)) (hp : ∀ p ∈ ps, p.length < 2 ^ 64) (hq : ∀ p ∈ qs, p.length < 2 ^ 64) : said use ps = said use qs ↔ ps = qs := by
  constructor
  · intro h
    unfold said at h
    have := List.append_cancel_left h
    exact flat_inj ps qs hp hq (by simpa using this)
  · intro h; rw [h]
theorem flat_snoc (ps : List (List UInt8)) (i : Nat) (hi : i < ps.length) : flat (ps.take (i + 1)) = flat (ps.take i) ++ (len8 (ps[i]).length ++ ps[i]) := by
  rw [List.take_succ_eq_append_getElem hi, flat, List.flatMap_append]; simp only [flat, List.flatMap_cons, List.flatMap_nil, List.append_nil]
theorem flat_le (ps : List (List UInt8)) (i : Nat) : (flat (ps.take i)).length ≤ (flat ps).length := by
  have e : flat ps = flat (ps.take i) ++ flat (ps.drop i) := by
    simp only [flat]; rw [← List.flatMap_append, List.take_append_drop]
  rw [e, List.length_append]; omega
end Mac
end Go.Proofs.YtbmnlhmelbhjeaaDoor
