import Derived.Test.YtldnpebnpbahjaaGreatDoorPkP0
namespace Go.Proofs.YtldnpebnpbahjaaGreatDoor.Pk
theorem wNum_none (x : Nat) (size : Int) : wNum none x size = none := by unfold wNum; split <;> rfl
theorem wSig_none (x : Int) (size : Int) : wSig none x size = none := by unfold wSig; split <;> rfl
theorem wText_none (s : List UInt8) : wText none s = none := by unfold wText; split <;> rfl
theorem wNum_some (T : List UInt8) (x : Nat) (size k : Nat) (hk : size = k) (h1 : 1 ≤ k) (h8 : k ≤ 8) (h : x < 256 ^ k) : wNum (some T) x (size : Int) = some (T ++ be k x) := by
  subst hk; unfold wNum; rw [if_pos ⟨⟨by omega, by omega⟩, by simpa using h⟩]; simp
theorem wNum_big (st : WS) (x : Nat) (size k : Nat) (hk : size = k) (h : ¬ x < 256 ^ k) : wNum st x (size : Int) = none := by
  subst hk; unfold wNum; rw [if_neg (fun q => h (by simpa using q.2))]
theorem wSig8_some (T : List UInt8) (x : Int) (h : -9223372036854775808 ≤ x ∧ x < 9223372036854775808) : wSig (some T) x 8 = some (T ++ be 8 (u64 x)) := by
  unfold wSig; rw [if_pos ⟨⟨by omega, by omega⟩, by show -(18446744073709551616 : Int) ≤ 2 * x; omega, by show 2 * x < (18446744073709551616 : Int); omega⟩]; rfl
theorem wText_some (T s : List UInt8) (h : s.length < 256) : wText (some T) s = some (T ++ (be 1 s.length ++ s)) := by
  unfold wText; rw [if_pos (by omega)]; simp [be]
theorem wText_big (st : WS) (s : List UInt8) (h : ¬ s.length < 256) : wText st s = none := by
  unfold wText; rw [if_neg (by omega)]
theorem u64_neg (x : Int) (h1 : -9223372036854775808 ≤ x) (h2 : x < 9223372036854775808) (h : ¬ (0 ≤ x ∧ x < 256)) : ¬ u64 x < 256 ^ 1 := by
  unfold u64; omega
theorem u64_pos (x : Int) (h1 : 0 ≤ x) (h2 : x < 256) : u64 x = x.toNat := by unfold u64; omega
inductive Kd | u8 | u1 | tx | sg
deriving DecidableEq
inductive Lv | num (x : Int) | txt (s : List UInt8)
deriving DecidableEq
def layK : Kd → Lv → WS → WS
  | .u8, .num x, st => wNum st x.toNat 8
  | .u1, .num x, st => wNum st (u64 x) 1
  | .sg, .num x, st => wSig st x 8
  | .tx, .txt s, st => wText st s
  | _, _, _ => none
def okK : Kd → Lv → Prop
  | .u8, .num x => 0 ≤ x ∧ x < 18446744073709551616
  | .u1, .num x => -9223372036854775808 ≤ x ∧ x < 9223372036854775808
  | .sg, .num x => -9223372036854775808 ≤ x ∧ x < 9223372036854775808
  | .tx, .txt s => s.length ≤ 140737488355328
  | _, _ => False
def fitK : Kd → Lv → Prop
  | .u1, .num x => 0 ≤ x ∧ x < 256
  | .tx, .txt s => s.length < 256
  | _, _ => True
instance (k : Kd) (v : Lv) : Decidable (fitK k v) := by cases k <;> cases v <;> unfold fitK <;> infer_instance
def encK : Kd → Lv → List UInt8
  | .u8, .num x => be 8 x.toNat
  | .u1, .num x => be 1 x.toNat
  | .sg, .num x => be 8 (u64 x)
  | .tx, .txt s => be 1 s.length ++ s
  | _, _ => []
def takeK : Kd → RS → Lv × RS
  | .u8, st => (.num (rNum st 8).1, (rNum st 8).2)
  | .u1, st => (.num (rNum st 1).1, (rNum st 1).2)
  | .sg, st => (.num (rSig st 8).1, (rSig st 8).2)
  | .tx, st => (.txt (rText st).1, (rText st).2)
theorem layK_none (k : Kd) (v : Lv) : layK k v none = none := by
  cases k <;> cases v <;> simp [layK, wNum_none, wSig_none, wText_none]
theorem layK_eq (k : Kd) (v : Lv) (T : List UInt8) (h : okK k v) : layK k v (some T) = if fitK k v then some (T ++ encK k v) else none := by
  cases k <;> cases v <;> simp only [okK] at h
  · have h2 : (_ : Int) < _ := h.2; rw [if_pos (by simp [fitK])]; simp only [layK, encK]; exact wNum_some T _ 8 8 rfl (by omega) (by omega) (by show _ < 18446744073709551616; omega)
  · rename_i x; by_cases hk : fitK .u1 (.num x)
    · rw [if_pos hk]; simp only [fitK] at hk; simp only [layK, encK]; rw [u64_pos _ hk.1 hk.2]; exact wNum_some T _ 1 1 rfl (by omega) (by omega) (by omega)
    · rw [if_neg hk]; exact wNum_big _ _ 1 1 rfl (u64_neg _ h.1 h.2 hk)
  · rename_i s; by_cases hk : fitK .tx (.txt s)
    · rw [if_pos hk]; exact wText_some T s hk
    · rw [if_neg hk]; exact wText_big _ s hk
  · rw [if_pos (by simp [fitK])]; simp only [layK, encK]; exact wSig8_some T _ h
theorem layK_len (k : Kd) (v : Lv) (st : WS) (h : okK k v) : ((layK k v st).getD []).length ≤ (st.getD []).length + 256 := by
  cases st with
  | none => rw [layK_none]; simp
  | some T =>
    rw [layK_eq k v T h]; split
    · rename_i hf; cases k <;> cases v <;> simp only [okK] at h <;> simp only [fitK] at hf <;> simp [encK, be_len] <;> first | omega | skip
    · simp
def layL : List Kd → List Lv → WS → WS
  | k :: ks, v :: vs, st => layL ks vs (layK k v st)
  | _, _, st => st
def encL : List Kd → List Lv → List UInt8
  | k :: ks, v :: vs => encK k v ++ encL ks vs
  | _, _ => []
def takeL : List Kd → RS → List Lv × RS
  | [], st => ([], st)
  | k :: ks, st => ((takeK k st).1 :: (takeL ks (takeK k st).2).1, (takeL ks (takeK k st).2).2)
def okL : List Kd → List Lv → Prop
  | [], [] => True
  | k :: ks, v :: vs => okK k v ∧ okL ks vs
  | _, _ => False
def fitL : List Kd → List Lv → Prop
  | k :: ks, v :: vs => fitK k v ∧ fitL ks vs
  | _, _ => True
instance fitLdec : (ks : List Kd) → (vs : List Lv) → Decidable (fitL ks vs)
  | [], _ => by unfold fitL; infer_instance
  | _ :: _, [] => by unfold fitL; infer_instance
  | k :: ks, v :: vs => by
    unfold fitL; have := fitLdec ks vs
    infer_instance
theorem layL_none : ∀ (ks : List Kd) (vs : List Lv), layL ks vs none = none
  | [], _ => rfl
  | _ :: _, [] => rfl
  | k :: ks, v :: vs => by rw [layL, layK_none]; exact layL_none ks vs
theorem layL_eq : ∀ (ks : List Kd) (vs : List Lv) (T : List UInt8), okL ks vs → layL ks vs (some T) = if fitL ks vs then some (T ++ encL ks vs) else none
  | [], [], T, _ => by simp [layL, fitL, encL]
  | k :: ks, v :: vs, T, h => by
    rw [layL, layK_eq k v T h.1]; by_cases hf : fitK k v
    · rw [if_pos hf, layL_eq ks vs _ h.2]; by_cases hr : fitL ks vs
      · rw [if_pos hr, if_pos ⟨hf, hr⟩, encL, List.append_assoc]
      · rw [if_neg hr, if_neg (fun q => hr q.2)]
    · rw [if_neg hf, layL_none, if_neg (fun q => hf q.1)]
theorem takeL_app : ∀ (ks ks' : List Kd) (st : RS), takeL (ks ++ ks') st = ((takeL ks st).1 ++ (takeL ks' (takeL ks st).2).1, (takeL ks' (takeL ks st).2).2)
  | [], _, _ => rfl
  | k :: ks, ks', st => by
    rw [List.cons_append, takeL, takeL, takeL_app ks ks' (takeK k st).2]; rfl
end Go.Proofs.YtldnpebnpbahjaaGreatDoor.Pk
