import Derived.KernelRfl
set_option maxRecDepth 100000
namespace Go.Proofs.YtldnpebnpbahjaaGreatDoor.Pk
def be : Nat → Nat → List UInt8
  | 0, _ => []
  | k + 1, x => UInt8.ofNat (x / 256 ^ k) :: be k x
theorem be_len : ∀ (k x : Nat), (be k x).length = k
  | 0, _ => rfl
  | k + 1, x => by rw [be, List.length_cons, be_len k x]
def val : List UInt8 → Nat
  | [] => 0
  | b :: r => b.toNat * 256 ^ r.length + val r
theorem val_lt : ∀ l : List UInt8, val l < 256 ^ l.length
  | [] => by simp [val]
  | b :: r => by
    have h := val_lt r; have hb : b.toNat < 256 := b.toNat_lt; rw [val, List.length_cons, Nat.pow_succ]; have : (b.toNat + 1) * 256 ^ r.length ≤ 256 * 256 ^ r.length := Nat.mul_le_mul_right _ (by omega); rw [Nat.add_mul, Nat.one_mul] at this; rw [Nat.mul_comm (256 ^ r.length)]; omega
theorem val_snoc (l : List UInt8) (b : UInt8) : val (l ++ [b]) = val l * 256 + b.toNat := by
  induction l with
  | nil => simp [val]
  | cons a r ih =>
    rw [List.cons_append, val, val, ih, List.length_append, List.length_singleton, Nat.pow_succ, Nat.add_mul, Nat.add_assoc, Nat.mul_assoc]
theorem val_be : ∀ k x : Nat, val (be k x) = x % 256 ^ k
  | 0, x => by simp [be, val, Nat.mod_one]
  | k + 1, x => by
    rw [be, val, val_be k x, be_len, UInt8.toNat_ofNat']; show x / 256 ^ k % 2 ^ 8 * 256 ^ k + x % 256 ^ k = _; (have e : (2 : Nat) ^ 8 = 256 := by decide); rw [e, Nat.pow_succ, Nat.mod_mul, Nat.mul_comm (256 ^ k) (x / 256 ^ k % 256)]; exact Nat.add_comm _ _
theorem be_mod : ∀ k x y : Nat, k ≤ y → be k (x % 256 ^ y) = be k x
  | 0, _, _, _ => rfl
  | k + 1, x, y, h => by
    rw [be, be, be_mod k x y (by omega)]
    congr 1
    apply UInt8.toNat_inj.1; rw [UInt8.toNat_ofNat', UInt8.toNat_ofNat']; show x % 256 ^ y / 256 ^ k % 256 = x / 256 ^ k % 256; obtain ⟨d, rfl⟩ : ∃ d, y = k + 1 + d := ⟨y - (k + 1), by omega⟩; rw [Nat.pow_add, Nat.pow_succ, Nat.mul_assoc, Nat.mod_mul_right_div_self, Nat.mod_mul_right_mod]
theorem be_val : ∀ l : List UInt8, be l.length (val l) = l
  | [] => rfl
  | b :: r => by
    rw [List.length_cons, be, val]; have h := val_lt r; have hp : 0 < 256 ^ r.length := Nat.pos_of_ne_zero (by simp)
    have e1 : (b.toNat * 256 ^ r.length + val r) / 256 ^ r.length = b.toNat := by
      rw [Nat.mul_comm, Nat.mul_add_div hp, Nat.div_eq_of_lt h, Nat.add_zero]
    have e2 : (b.toNat * 256 ^ r.length + val r) % 256 ^ r.length = val r := by
      rw [Nat.mul_comm, Nat.mul_add_mod, Nat.mod_eq_of_lt h]
    have e3 := be_mod r.length (b.toNat * 256 ^ r.length + val r) r.length (Nat.le_refl _); rw [e2, be_val r] at e3; rw [e1, ← e3]
    congr 1
    simp
def sval (l : List UInt8) : Int := if 2 * val l < 256 ^ l.length then (val l : Int) else (val l : Int) - (256 ^ l.length : Nat)
def u64 (x : Int) : Nat := (x % 18446744073709551616).toNat
theorem u64_lt (x : Int) : u64 x < 18446744073709551616 := by unfold u64; omega
abbrev WS := Option (List UInt8)
def sized (size : Int) : Prop := 1 ≤ size ∧ size ≤ 8
instance (size : Int) : Decidable (sized size) := by unfold sized; infer_instance
def fitsU (x : Nat) (size : Int) : Prop := sized size ∧ x < 256 ^ size.toNat
instance (x : Nat) (size : Int) : Decidable (fitsU x size) := by unfold fitsU; infer_instance
def fitsS (x : Int) (size : Int) : Prop := sized size ∧ -(256 ^ size.toNat : Nat) ≤ 2 * x ∧ 2 * x < (256 ^ size.toNat : Nat)
instance (x : Int) (size : Int) : Decidable (fitsS x size) := by unfold fitsS; infer_instance
def wNum (st : WS) (x : Nat) (size : Int) : WS := if fitsU x size then st.map (· ++ be size.toNat x) else none
def wSig (st : WS) (x : Int) (size : Int) : WS := if fitsS x size then st.map (· ++ be size.toNat (u64 x)) else none
def wBytes (st : WS) (s : List UInt8) : WS := st.map (· ++ s)
def wText (st : WS) (s : List UInt8) : WS := if s.length ≤ 255 then st.map (· ++ UInt8.ofNat s.length :: s) else none
theorem wText_eq (st : WS) (s : List UInt8) : wBytes (wNum st s.length 1) s = wText st s := by
  unfold wText wNum wBytes; by_cases h : s.length ≤ 255
  · have hf : fitsU s.length 1 := ⟨⟨by omega, by omega⟩, by show s.length < 256 ^ 1; omega⟩; rw [if_pos h, if_pos hf]; cases st with
    | none => rfl
    | some l => simp [be]
  · have hf : ¬ fitsU s.length 1 := fun q => by have : s.length < 256 ^ 1 := q.2; omega
    rw [if_neg h, if_neg hf]; rfl
abbrev RS := List UInt8 × Int
def RS.fail (st : RS) (e : Int) : RS := ([], if st.2 = 0 then e else st.2)
def rTake (st : RS) (n : Int) : List UInt8 × RS := if n < 0 then ([], st.fail 51) else if (st.1.length : Int) < n then ([], st.fail 50) else (st.1.take n.toNat, (st.1.drop n.toNat, st.2))
def rNumL (st : RS) (size : Int) : List UInt8 × RS := if sized size then rTake st size else ([], st.fail 51)
def rNum (st : RS) (size : Int) : Nat × RS := (val (rNumL st size).1, (rNumL st size).2)
def rSig (st : RS) (size : Int) : Int × RS := (sval (rNumL st size).1, (rNumL st size).2)
def rText (st : RS) : List UInt8 × RS := rTake (rNum st 1).2 (rNum st 1).1
def rDone (st : RS) : Int := if 0 < st.1.length then 51 else st.2
def RS.ok (st : RS) : Prop := st.2 ≠ 0 → st.1 = []
theorem rTake_len (st : RS) (n : Int) : (rTake st n).1.length = 0 ∨ ((rTake st n).1.length : Int) = n := by
  unfold rTake; split
  · exact .inl rfl
  · split
    · exact .inl rfl
    · right; simp; omega
theorem fail_ok (st : RS) (e : Int) : (st.fail e).ok := fun _ => rfl
end Go.Proofs.YtldnpebnpbahjaaGreatDoor.Pk
