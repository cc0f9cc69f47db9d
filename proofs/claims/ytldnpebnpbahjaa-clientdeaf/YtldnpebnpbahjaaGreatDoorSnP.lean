import Derived.Test.YtldnpebnpbahjaaGreatDoorX3
/- views as bytes, over lists: parts by their kinds. -/
namespace Go.Proofs.YtldnpebnpbahjaaGreatDoor.Pk
theorem wNum_none (x : Nat) (size : Int) : wNum none x size = none := by unfold wNum; split <;> rfl
theorem wSig_none (x : Int) (size : Int) : wSig none x size = none := by unfold wSig; split <;> rfl
theorem wText_none (s : List UInt8) : wText none s = none := by unfold wText; split <;> rfl
theorem wNum_some (T : List UInt8) (x : Nat) (size k : Nat) (hk : size = k) (h1 : 1 ≤ k) (h8 : k ≤ 8) (h : x < 256 ^ k) : wNum (some T) x (size : Int) = some (T ++ be k x) := by
  subst hk
  unfold wNum
  rw [if_pos ⟨⟨by omega, by omega⟩, by simpa using h⟩]
  simp
theorem wNum_big (st : WS) (x : Nat) (size k : Nat) (hk : size = k) (h : ¬ x < 256 ^ k) : wNum st x (size : Int) = none := by
  subst hk
  unfold wNum
  rw [if_neg (fun q => h (by simpa using q.2))]
theorem wSig8_some (T : List UInt8) (x : Int) (h : -9223372036854775808 ≤ x ∧ x < 9223372036854775808) : wSig (some T) x 8 = some (T ++ be 8 (u64 x)) := by
  unfold wSig
  rw [if_pos ⟨⟨by omega, by omega⟩, by show -(18446744073709551616 : Int) ≤ 2 * x; omega, by show 2 * x < (18446744073709551616 : Int); omega⟩]
  rfl
theorem wText_some (T s : List UInt8) (h : s.length < 256) : wText (some T) s = some (T ++ (be 1 s.length ++ s)) := by
  unfold wText
  rw [if_pos (by omega)]
  simp [be]
theorem wText_big (st : WS) (s : List UInt8) (h : ¬ s.length < 256) : wText st s = none := by
  unfold wText; rw [if_neg (by omega)]
theorem u64_neg (x : Int) (h1 : -9223372036854775808 ≤ x) (h2 : x < 9223372036854775808) (h : ¬ (0 ≤ x ∧ x < 256)) : ¬ u64 x < 256 ^ 1 := by
  unfold u64; omega
theorem u64_pos (x : Int) (h1 : 0 ≤ x) (h2 : x < 256) : u64 x = x.toNat := by unfold u64; omega
/-- a reader without an error, or one that ended -/
def Sh (st : RS) : Prop := st.2 = 0 ∨ st = ([], 50)
/-- so many bytes taken -/
def rT (st : RS) (n : Nat) : List UInt8 × RS := rTake st (n : Int)
theorem rTake_sh {st : RS} (h : Sh st) (n : Nat) : Sh (rT st n).2 := by
  unfold rT rTake
  rw [if_neg (by omega)]
  rcases h with h | rfl
  · split
    · right; simp [RS.fail, h]
    · left; exact h
  · split
    · right; rfl
    · right; simp
theorem rTake_in {st : RS} (h : Sh st) (n : Nat) (x : List UInt8) (R : List UInt8) (e : rT st n = (x, (R, 0))) : st = (x ++ R, 0) ∧ x.length = n := by
  unfold rT rTake at e
  rw [if_neg (by omega)] at e
  split at e
  · exfalso
    simp only [Prod.mk.injEq, RS.fail] at e
    rcases h with h | rfl
    · rw [if_pos h] at e; omega
    · revert e; simp
  · simp only [Prod.mk.injEq] at e
    obtain ⟨e1, e2, e3⟩ := e
    refine ⟨Prod.ext ?_ e3, ?_⟩
    · rw [← e1, ← e2]; simp
    · rw [← e1]; simp; omega
theorem rTake_out (x R : List UInt8) (n : Nat) (h : x.length = n) : rT (x ++ R, 0) n = (x, (R, 0)) := by
  unfold rT rTake
  rw [if_neg (by omega), if_neg (by simp; omega)]
  subst h
  simp
theorem rTake_short (P : List UInt8) (n : Nat) (h : P.length < n) : rT (P, 0) n = ([], ([], 50)) := by
  unfold rT rTake
  rw [if_neg (by omega), if_pos (by simpa using h)]
  rfl
theorem rTake_end (n : Nat) : rT ([], 50) n = ([], ([], 50)) := by
  unfold rT rTake
  rw [if_neg (by omega)]
  split
  · rfl
  · simp
theorem rNum8 (st : RS) : rNum st 8 = (val (rT st 8).1, (rT st 8).2) := by
  unfold rNum rNumL; rw [if_pos (by decide)]; rfl
theorem rNum1 (st : RS) : rNum st 1 = (val (rT st 1).1, (rT st 1).2) := by
  unfold rNum rNumL; rw [if_pos (by decide)]; rfl
theorem rSig8 (st : RS) : rSig st 8 = (sval (rT st 8).1, (rT st 8).2) := by
  unfold rSig rNumL; rw [if_pos (by decide)]; rfl
theorem rTextT (st : RS) : rText st = rT (rT st 1).2 (val (rT st 1).1) := by
  unfold rText; rw [rNum1]; rfl
theorem rTake_len2 (st : RS) (n : Nat) : (rT st n).1.length = 0 ∨ (rT st n).1.length = n := by
  rcases rTake_len st n with h | h
  · exact .inl h
  · exact .inr (by unfold rT; omega)
theorem rTake_len' (st : RS) (n : Nat) : (rT st n).1.length ≤ n := by
  have := rTake_len2 st n; omega
/-- a part's kind -/
inductive Kd | u8 | u1 | tx | sg
deriving DecidableEq
/-- a part -/
inductive Lv | num (x : Int) | txt (s : List UInt8)
deriving DecidableEq
def layK : Kd → Lv → WS → WS
  | .u8, .num x, st => wNum st x.toNat 8
  | .u1, .num x, st => wNum st (u64 x) 1
  | .sg, .num x, st => wSig st x 8
  | .tx, .txt s, st => wText st s
  | _, _, _ => none
def okK : Kd → Lv → Prop
  | .u8, .num x => 0 ≤ x ∧ x < 18446744073709551616
  | .u1, .num x => -9223372036854775808 ≤ x ∧ x < 9223372036854775808
  | .sg, .num x => -9223372036854775808 ≤ x ∧ x < 9223372036854775808
  | .tx, .txt s => s.length ≤ 140737488355328
  | _, _ => False
def fitK : Kd → Lv → Prop
  | .u1, .num x => 0 ≤ x ∧ x < 256
  | .tx, .txt s => s.length < 256
  | _, _ => True
instance (k : Kd) (v : Lv) : Decidable (fitK k v) := by cases k <;> cases v <;> unfold fitK <;> infer_instance
def encK : Kd → Lv → List UInt8
  | .u8, .num x => be 8 x.toNat
  | .u1, .num x => be 1 x.toNat
  | .sg, .num x => be 8 (u64 x)
  | .tx, .txt s => be 1 s.length ++ s
  | _, _ => []
def takeK : Kd → RS → Lv × RS
  | .u8, st => (.num (rNum st 8).1, (rNum st 8).2)
  | .u1, st => (.num (rNum st 1).1, (rNum st 1).2)
  | .sg, st => (.num (rSig st 8).1, (rSig st 8).2)
  | .tx, st => (.txt (rText st).1, (rText st).2)
theorem layK_none (k : Kd) (v : Lv) : layK k v none = none := by
  cases k <;> cases v <;> simp [layK, wNum_none, wSig_none, wText_none]
theorem layK_eq (k : Kd) (v : Lv) (T : List UInt8) (h : okK k v) : layK k v (some T) = if fitK k v then some (T ++ encK k v) else none := by
  cases k <;> cases v <;> simp only [okK] at h
  · have h2 : (_ : Int) < _ := h.2
    rw [if_pos (by simp [fitK])]; simp only [layK, encK]
    exact wNum_some T _ 8 8 rfl (by omega) (by omega) (by show _ < 18446744073709551616; omega)
  · rename_i x
    by_cases hk : fitK .u1 (.num x)
    · rw [if_pos hk]; simp only [fitK] at hk; simp only [layK, encK]; rw [u64_pos _ hk.1 hk.2]; exact wNum_some T _ 1 1 rfl (by omega) (by omega) (by omega)
    · rw [if_neg hk]; exact wNum_big _ _ 1 1 rfl (u64_neg _ h.1 h.2 hk)
  · rename_i s
    by_cases hk : fitK .tx (.txt s)
    · rw [if_pos hk]; exact wText_some T s hk
    · rw [if_neg hk]; exact wText_big _ s hk
  · rw [if_pos (by simp [fitK])]; simp only [layK, encK]
    exact wSig8_some T _ h
theorem layK_len (k : Kd) (v : Lv) (st : WS) (h : okK k v) : ((layK k v st).getD []).length ≤ (st.getD []).length + 256 := by
  cases st with
  | none => rw [layK_none]; simp
  | some T =>
    rw [layK_eq k v T h]
    split
    · rename_i hf
      cases k <;> cases v <;> simp only [okK] at h <;> simp only [fitK] at hf <;> simp [encK, be_len] <;> first | omega | skip
    · simp
theorem sval_be8 (x : Int) (h : -9223372036854775808 ≤ x ∧ x < 9223372036854775808) : sval (be 8 (u64 x)) = x := by
  have e : val (be 8 (u64 x)) = u64 x := by rw [val_be]; exact Nat.mod_eq_of_lt (u64_lt x)
  unfold sval
  rw [e, be_len]
  show (if 2 * u64 x < 18446744073709551616 then ((u64 x : Nat) : Int) else (u64 x : Int) - (18446744073709551616 : Nat)) = x
  unfold u64
  split <;> omega
theorem be_sval8 (l : List UInt8) (h : l.length = 8) : be 8 (u64 (sval l)) = l ∧ -9223372036854775808 ≤ sval l ∧ sval l < 9223372036854775808 := by
  have hv := val_lt l
  have hb := be_val l
  rw [h] at hv hb
  have hv : val l < 18446744073709551616 := hv
  have hs : sval l = if 2 * val l < 18446744073709551616 then (val l : Int) else (val l : Int) - (18446744073709551616 : Nat) := by unfold sval; rw [h]
  have e : u64 (sval l) = val l := by rw [hs]; unfold u64; split <;> omega
  refine ⟨by rw [e]; exact hb, ?_, ?_⟩ <;> rw [hs] <;> split <;> omega
theorem takeK_sh {st : RS} (h : Sh st) (k : Kd) : Sh (takeK k st).2 := by
  cases k
  · show Sh (rNum st 8).2; rw [rNum8 st]; exact rTake_sh h 8
  · show Sh (rNum st 1).2; rw [rNum1 st]; exact rTake_sh h 1
  · show Sh (rText st).2
    rw [rTextT]
    exact rTake_sh (rTake_sh h 1) _
  · show Sh (rSig st 8).2; rw [rSig8 st]; exact rTake_sh h 8
theorem takeK_end (k : Kd) : (takeK k ([], 50)).2 = ([], 50) := by
  cases k
  · show (rNum _ 8).2 = _; rw [rNum8 _, rTake_end]
  · show (rNum _ 1).2 = _; rw [rNum1 _, rTake_end]
  · show (rText _).2 = _
    rw [rTextT, rTake_end, rTake_end]
  · show (rSig _ 8).2 = _; rw [rSig8 _, rTake_end]
theorem val_lt8 (l : List UInt8) (h : l.length ≤ 8) : val l < 18446744073709551616 := by
  have h1 := val_lt l
  have h2 : 256 ^ l.length ≤ 256 ^ 8 := Nat.pow_le_pow_right (by omega) h
  have h3 : (256 : Nat) ^ 8 = 18446744073709551616 := by decide
  omega
theorem val_lt1 (l : List UInt8) (h : l.length ≤ 1) : val l < 256 := by
  have h1 := val_lt l
  have h2 : 256 ^ l.length ≤ 256 ^ 1 := Nat.pow_le_pow_right (by omega) h
  omega
theorem takeK_ok (k : Kd) (st : RS) : okK k (takeK k st).1 := by
  cases k
  · show 0 ≤ (((rNum st 8).1 : Nat) : Int) ∧ _
    rw [rNum8 st]
    have := val_lt8 _ (rTake_len' st 8)
    constructor
    · omega
    · show (((val (rT st 8).1 : Nat) : Int)) < 18446744073709551616; omega
  · show _ ≤ (((rNum st 1).1 : Nat) : Int) ∧ (((rNum st 1).1 : Nat) : Int) < _
    rw [rNum1 st]
    have := val_lt1 _ (rTake_len' st 1)
    constructor
    · show -9223372036854775808 ≤ ((val (rT st 1).1 : Nat) : Int); omega
    · show ((val (rT st 1).1 : Nat) : Int) < 9223372036854775808; omega
  · show (rText st).1.length ≤ _
    rw [rTextT]
    have h1 := val_lt1 _ (rTake_len' st 1)
    have h2 := rTake_len' (rT st 1).2 (val (rT st 1).1)
    show (rT (rT st 1).2 (val (rT st 1).1)).1.length ≤ 140737488355328
    omega
  · show _ ≤ (rSig st 8).1 ∧ (rSig st 8).1 < _
    rw [rSig8 st]
    show -9223372036854775808 ≤ sval (rT st 8).1 ∧ sval (rT st 8).1 < 9223372036854775808
    rcases rTake_len2 st 8 with e | e
    · have : (rT st 8).1 = [] := List.length_eq_zero_iff.1 e
      rw [this]; decide
    · exact (be_sval8 _ (by omega)).2
theorem takeK_in {st : RS} (h : Sh st) (k : Kd) (v : Lv) (R : List UInt8) (e : takeK k st = (v, (R, 0))) : st = (encK k v ++ R, 0) ∧ fitK k v := by
  cases k
  · simp only [takeK, Prod.mk.injEq] at e
    rw [rNum8 st] at e
    obtain ⟨e1, e2⟩ := e
    obtain ⟨q1, q2⟩ := rTake_in h 8 (rT st 8).1 R (Prod.ext rfl e2)
    subst e1
    refine ⟨?_, trivial⟩
    show st = (be 8 (val (rT st 8).1) ++ R, 0)
    have q3 := be_val (rT st 8).1
    rw [q2] at q3
    rw [q3]; exact q1
  · simp only [takeK, Prod.mk.injEq] at e
    rw [rNum1 st] at e
    obtain ⟨e1, e2⟩ := e
    obtain ⟨q1, q2⟩ := rTake_in h 1 (rT st 1).1 R (Prod.ext rfl e2)
    subst e1
    have hv := val_lt1 _ (rTake_len' st 1)
    refine ⟨?_, ?_⟩
    · show st = (be 1 (val (rT st 1).1) ++ R, 0)
      have q3 := be_val (rT st 1).1
      rw [q2] at q3
      rw [q3]; exact q1
    · show 0 ≤ ((val (rT st 1).1 : Nat) : Int) ∧ ((val (rT st 1).1 : Nat) : Int) < 256
      omega
  · simp only [takeK, Prod.mk.injEq] at e
    obtain ⟨e1, e2⟩ := e
    subst e1
    rw [rTextT] at e2 ⊢
    obtain ⟨q1, q2⟩ := rTake_in (rTake_sh h 1) _ _ R (Prod.ext rfl e2)
    obtain ⟨q3, q4⟩ := rTake_in h 1 (rT st 1).1 _ (Prod.ext rfl q1)
    have hv := val_lt1 _ (rTake_len' st 1)
    have q5 := be_val (rT st 1).1
    rw [q4] at q5
    refine ⟨?_, ?_⟩
    · simp only [encK]
      rw [q2, q5, List.append_assoc]
      exact q3
    · show (rT (rT st 1).2 (val (rT st 1).1)).1.length < 256
      rw [q2]; exact hv
  · simp only [takeK, Prod.mk.injEq] at e
    rw [rSig8 st] at e
    obtain ⟨e1, e2⟩ := e
    obtain ⟨q1, q2⟩ := rTake_in h 8 (rT st 8).1 R (Prod.ext rfl e2)
    subst e1
    refine ⟨?_, trivial⟩
    show st = (be 8 (u64 (sval (rT st 8).1)) ++ R, 0)
    rw [(be_sval8 _ q2).1]; exact q1
theorem takeK_out (k : Kd) (v : Lv) (R : List UInt8) (ho : okK k v) (hf : fitK k v) : takeK k (encK k v ++ R, 0) = (v, (R, 0)) := by
  cases k <;> cases v <;> simp only [okK] at ho <;> simp only [fitK] at hf
  · rename_i x
    simp only [takeK, encK]
    rw [rNum8 _, rTake_out _ _ 8 (be_len 8 _), val_be]
    have : x.toNat % 256 ^ 8 = x.toNat := Nat.mod_eq_of_lt (by show _ < 18446744073709551616; omega)
    rw [this]; simp; omega
  · rename_i x
    simp only [takeK, encK]
    rw [rNum1 _, rTake_out _ _ 1 (be_len 1 _), val_be]
    have : x.toNat % 256 ^ 1 = x.toNat := Nat.mod_eq_of_lt (by omega)
    rw [this]; simp; omega
  · rename_i s
    simp only [takeK, encK]
    rw [rTextT, List.append_assoc, rTake_out _ _ 1 (be_len 1 _), val_be]
    have : s.length % 256 ^ 1 = s.length := Nat.mod_eq_of_lt (by omega)
    rw [this, rTake_out s R _ rfl]
  · rename_i x
    simp only [takeK, encK]
    rw [rSig8 _, rTake_out _ _ 8 (be_len 8 _), sval_be8 _ ho]
theorem takeK_short (k : Kd) (v : Lv) (P Q : List UInt8) (ho : okK k v) (hf : fitK k v) (e : encK k v = P ++ Q) (hq : Q ≠ []) : (takeK k (P, 0)).2 = ([], 50) := by
  have hl : P.length < (encK k v).length := by
    rw [e, List.length_append]; have := List.length_pos_iff.2 hq; omega
  cases k <;> cases v <;> simp only [okK] at ho <;> simp only [fitK] at hf
  · simp only [encK, be_len] at hl
    show (rNum _ 8).2 = _
    rw [rNum8 _, rTake_short _ 8 hl]
  · simp only [encK, be_len] at hl
    show (rNum _ 1).2 = _
    rw [rNum1 _, rTake_short _ 1 hl]
  · rename_i s
    simp only [encK, List.length_append, be_len] at hl e
    show (rText _).2 = _
    rw [rTextT]
    cases P with
    | nil => rw [rTake_short _ 1 (by simp), rTake_end]
    | cons b r =>
      have e1 : be 1 s.length = [b] ∧ s = r ++ Q := by
        have : be 1 s.length = [UInt8.ofNat s.length] := by simp [be]
        rw [this] at e ⊢
        simp only [List.cons_append, List.nil_append, List.cons.injEq] at e ⊢
        exact ⟨⟨e.1, trivial⟩, e.2⟩
      have e2 : rT (b :: r, 0) 1 = ([b], (r, 0)) := rTake_out [b] r 1 rfl
      have e3 : val [b] = s.length := by rw [← e1.1, val_be]; exact Nat.mod_eq_of_lt (by omega)
      rw [e2, e3]
      rw [rTake_short r s.length (by simp only [List.length_cons] at hl; omega)]
  · simp only [encK, be_len] at hl
    show (rSig _ 8).2 = _
    rw [rSig8 _, rTake_short _ 8 hl]
/-- many parts -/
def layL : List Kd → List Lv → WS → WS
  | k :: ks, v :: vs, st => layL ks vs (layK k v st)
  | _, _, st => st
def encL : List Kd → List Lv → List UInt8
  | k :: ks, v :: vs => encK k v ++ encL ks vs
  | _, _ => []
def takeL : List Kd → RS → List Lv × RS
  | [], st => ([], st)
  | k :: ks, st => ((takeK k st).1 :: (takeL ks (takeK k st).2).1, (takeL ks (takeK k st).2).2)
def okL : List Kd → List Lv → Prop
  | [], [] => True
  | k :: ks, v :: vs => okK k v ∧ okL ks vs
  | _, _ => False
def fitL : List Kd → List Lv → Prop
  | k :: ks, v :: vs => fitK k v ∧ fitL ks vs
  | _, _ => True
instance fitLdec : (ks : List Kd) → (vs : List Lv) → Decidable (fitL ks vs)
  | [], _ => by unfold fitL; infer_instance
  | _ :: _, [] => by unfold fitL; infer_instance
  | k :: ks, v :: vs => by
    unfold fitL
    have := fitLdec ks vs
    infer_instance
theorem okL_len : ∀ {ks : List Kd} {vs : List Lv}, okL ks vs → ks.length = vs.length
  | [], [], _ => rfl
  | _ :: ks, _ :: vs, h => by rw [List.length_cons, List.length_cons, okL_len h.2]
theorem layL_none : ∀ (ks : List Kd) (vs : List Lv), layL ks vs none = none
  | [], _ => rfl
  | _ :: _, [] => rfl
  | k :: ks, v :: vs => by rw [layL, layK_none]; exact layL_none ks vs
theorem layL_eq : ∀ (ks : List Kd) (vs : List Lv) (T : List UInt8), okL ks vs → layL ks vs (some T) = if fitL ks vs then some (T ++ encL ks vs) else none
  | [], [], T, _ => by simp [layL, fitL, encL]
  | k :: ks, v :: vs, T, h => by
    rw [layL, layK_eq k v T h.1]
    by_cases hf : fitK k v
    · rw [if_pos hf, layL_eq ks vs _ h.2]
      by_cases hr : fitL ks vs
      · rw [if_pos hr, if_pos ⟨hf, hr⟩, encL, List.append_assoc]
      · rw [if_neg hr, if_neg (fun q => hr q.2)]
    · rw [if_neg hf, layL_none, if_neg (fun q => hf q.1)]
theorem layL_app : ∀ (ks ks' : List Kd) (vs vs' : List Lv) (st : WS), ks.length = vs.length → layL (ks ++ ks') (vs ++ vs') st = layL ks' vs' (layL ks vs st)
  | [], _, [], _, _, _ => rfl
  | k :: ks, ks', v :: vs, vs', st, h => by
    rw [List.cons_append, List.cons_append, layL, layL]
    exact layL_app ks ks' vs vs' _ (by simpa using h)
theorem encL_app : ∀ (ks ks' : List Kd) (vs vs' : List Lv), ks.length = vs.length → encL (ks ++ ks') (vs ++ vs') = encL ks vs ++ encL ks' vs'
  | [], _, [], _, _ => rfl
  | k :: ks, ks', v :: vs, vs', h => by
    rw [List.cons_append, List.cons_append, encL, encL, encL_app ks ks' vs vs' (by simpa using h), List.append_assoc]
theorem fitL_app : ∀ (ks ks' : List Kd) (vs vs' : List Lv), ks.length = vs.length → (fitL (ks ++ ks') (vs ++ vs') ↔ fitL ks vs ∧ fitL ks' vs')
  | [], _, [], _, _ => by simp [fitL]
  | k :: ks, ks', v :: vs, vs', h => by
    rw [List.cons_append, List.cons_append, fitL, fitL, fitL_app ks ks' vs vs' (by simpa using h), and_assoc]
theorem okL_app : ∀ (ks ks' : List Kd) (vs vs' : List Lv), okL ks vs → okL ks' vs' → okL (ks ++ ks') (vs ++ vs')
  | [], _, [], _, _, h => h
  | _ :: ks, ks', _ :: vs, vs', h, k => ⟨h.1, okL_app ks ks' vs vs' h.2 k⟩
theorem takeL_app : ∀ (ks ks' : List Kd) (st : RS), takeL (ks ++ ks') st = ((takeL ks st).1 ++ (takeL ks' (takeL ks st).2).1, (takeL ks' (takeL ks st).2).2)
  | [], _, _ => rfl
  | k :: ks, ks', st => by
    rw [List.cons_append, takeL, takeL, takeL_app ks ks' (takeK k st).2]
    rfl
theorem takeL_sh : ∀ (ks : List Kd) {st : RS}, Sh st → Sh (takeL ks st).2
  | [], _, h => h
  | k :: ks, _, h => takeL_sh ks (takeK_sh h k)
theorem takeL_ok : ∀ (ks : List Kd) (st : RS), okL ks (takeL ks st).1
  | [], _ => trivial
  | k :: ks, st => ⟨takeK_ok k st, takeL_ok ks _⟩
theorem takeL_len : ∀ (ks : List Kd) (st : RS), (takeL ks st).1.length = ks.length
  | [], _ => rfl
  | k :: ks, st => by rw [takeL, List.length_cons, List.length_cons, takeL_len ks]
theorem takeL_end : ∀ (ks : List Kd), (takeL ks ([], 50)).2 = ([], 50)
  | [] => rfl
  | k :: ks => by rw [takeL, takeK_end]; exact takeL_end ks
theorem takeL_in : ∀ (ks : List Kd) {st : RS} (_ : Sh st) (vs : List Lv) (R : List UInt8), takeL ks st = (vs, (R, 0)) → st = (encL ks vs ++ R, 0) ∧ fitL ks vs
  | [], st, _, vs, R, e => by
    simp only [takeL, Prod.mk.injEq] at e
    obtain ⟨e1, e2⟩ := e
    subst e1 e2
    exact ⟨rfl, trivial⟩
  | k :: ks, st, h, vs, R, e => by
    simp only [takeL, Prod.mk.injEq] at e
    obtain ⟨e1, e2⟩ := e
    obtain ⟨q1, q2⟩ := takeL_in ks (takeK_sh h k) _ R (Prod.ext rfl e2)
    obtain ⟨q3, q4⟩ := takeK_in h k _ _ (Prod.ext rfl q1)
    subst e1
    refine ⟨?_, q4, q2⟩
    rw [encL, List.append_assoc]; exact q3
theorem takeL_out : ∀ (ks : List Kd) (vs : List Lv) (R : List UInt8), okL ks vs → fitL ks vs → takeL ks (encL ks vs ++ R, 0) = (vs, (R, 0))
  | [], [], R, _, _ => rfl
  | k :: ks, v :: vs, R, ho, hf => by
    rw [encL, takeL, List.append_assoc, takeK_out k v _ ho.1 hf.1]
    simp only [takeL_out ks vs R ho.2 hf.2]
theorem takeL_short : ∀ (ks : List Kd) (vs : List Lv) (P Q : List UInt8), okL ks vs → fitL ks vs → encL ks vs = P ++ Q → Q ≠ [] → (takeL ks (P, 0)).2 = ([], 50)
  | [], [], P, Q, _, _, e, hq => by
    simp only [encL] at e
    have := List.append_eq_nil_iff.1 e.symm
    exact absurd this.2 hq
  | k :: ks, v :: vs, P, Q, ho, hf, e, hq => by
    rw [encL] at e
    rw [takeL]
    rcases List.append_eq_append_iff.1 e with ⟨a, h1, h2⟩ | ⟨a, h1, h2⟩
    · -- P = encK ++ a
      rw [h1, takeK_out k v a ho.1 hf.1]
      exact takeL_short ks vs a Q ho.2 hf.2 h2 hq
    · -- encK = P ++ a
      by_cases ha : a = []
      · subst ha
        simp only [List.append_nil, List.nil_append] at h1 h2
        rw [← h1]
        have := takeK_out k v [] ho.1 hf.1
        rw [List.append_nil] at this
        rw [this]
        exact takeL_short ks vs [] Q ho.2 hf.2 (by simpa using h2.symm) hq
      · rw [takeK_short k v P a ho.1 hf.1 h1 ha]
        exact takeL_end ks
end Go.Proofs.YtldnpebnpbahjaaGreatDoor.Pk
