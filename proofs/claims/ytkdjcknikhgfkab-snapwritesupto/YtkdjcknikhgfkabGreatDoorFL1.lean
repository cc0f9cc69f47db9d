import Derived.Test.YtkdjcknikhgfkabGreatDoorX21
/- like bytes behind a head -/
namespace Go.Proofs.YtkdjcknikhgfkabGreatDoor.Pk
open Go Go.RowKit

set_option maxRecDepth 100000 in
theorem need_rep (n j : Nat) (c : UInt8) : need (List.replicate n c) (j : Int) = if j ≤ n then some (List.replicate j c, List.replicate (n - j) c) else none := by
  unfold need
  by_cases h : j ≤ n
  · rw [if_pos h, if_neg (by simp; omega), Int.toNat_natCast, List.take_replicate, List.drop_replicate, Nat.min_eq_left h]
  · rw [if_neg h, if_pos (.inr (by simp; omega))]
set_option maxRecDepth 100000 in
theorem need1 (n : Nat) (c : UInt8) : need (List.replicate n c) 1 = if 1 ≤ n then some (List.replicate 1 c, List.replicate (n - 1) c) else none := need_rep n 1 c
set_option maxRecDepth 100000 in
theorem need8 (n : Nat) (c : UInt8) : need (List.replicate n c) 8 = if 8 ≤ n then some (List.replicate 8 c, List.replicate (n - 8) c) else none := need_rep n 8 c
set_option maxRecDepth 100000 in
theorem need16 (n : Nat) (c : UInt8) : need (List.replicate n c) 16 = if 16 ≤ n then some (List.replicate 16 c, List.replicate (n - 16) c) else none := need_rep n 16 c
set_option maxRecDepth 100000 in
theorem need32 (n : Nat) (c : UInt8) : need (List.replicate n c) 32 = if 32 ≤ n then some (List.replicate 32 c, List.replicate (n - 32) c) else none := need_rep n 32 c
set_option maxRecDepth 100000 in
theorem need76 (n : Nat) (c : UInt8) : need (List.replicate n c) 76 = if 76 ≤ n then some (List.replicate 76 c, List.replicate (n - 76) c) else none := need_rep n 76 c
set_option maxRecDepth 100000 in
theorem needv (n : Nat) (c : UInt8) : need (List.replicate n c) ((n : Int) - 32) = if 32 ≤ n then some (List.replicate (n - 32) c, List.replicate 32 c) else none := by
  by_cases h : 32 ≤ n
  · rw [if_pos h, show (n : Int) - 32 = ((n - 32 : Nat) : Int) by omega, need_rep, if_pos (by omega), show n - (n - 32) = 32 by omega]
  · rw [if_neg h, need, if_pos (.inl (by omega))]
set_option maxRecDepth 100000 in
theorem val_one (c : UInt8) : val (List.replicate 1 c) = c.toNat := by simp [val]
def codeL (k n : Nat) (c : UInt8) : Int :=
  if k = 1 then (if n = 92 then (if c = 0 then 0 else 73) else 72) else if k = 2 then (if n = 56 then 0 else 72) else if k = 3 then (if n = 89 + c.toNat then 0 else 72)
  else if k = 4 then (if n = 73 then 0 else 72) else if k = 5 then (if n = 51 then (if c.toNat ≤ 3 then 0 else 73) else 72) else if k = 6 then (if 48 ≤ n then 0 else 72) else (if n = 48 then 0 else 72)
set_option maxRecDepth 100000 in
theorem zero_rep (c : UInt8) : (List.replicate 76 c = zero76) ↔ c = 0 := by
  constructor
  · intro h
    have := congrArg (fun l => l.getD 0 0) h
    simpa [zero76, List.replicate] using this
  · intro h; rw [h]; rfl
/-- how many bytes a field takes out of like bytes; none: it gives up -/
def szF (f : Fd) (n : Nat) (c : UInt8) : Option Nat :=
  match f with
  | .nonce | .salt => if 16 ≤ n then some 16 else none
  | .cookie | .tag => if 32 ≤ n then some 32 else none
  | .epoch | .session | .seq => if 8 ≤ n then some 8 else none
  | .thr | .turn | .player | .flags => if 1 ≤ n then some 1 else none
  | .name => if 1 + c.toNat ≤ n then some (1 + c.toNat) else none
  | .view => if 32 ≤ n then some (n - 32) else none
  | .zeros => if 76 ≤ n then some 76 else none
def badF (f : Fd) (c : UInt8) : Bool :=
  match f with
  | .flags => !decide (c.toNat ≤ 3)
  | .zeros => !decide (c = 0)
  | _ => false
set_option maxRecDepth 100000 in
theorem tk_rep (f : Fd) (d : Dg) (n : Nat) (c : UInt8) (r : Bool) : (szF f n c = none → tk f (d, List.replicate n c, r) = none) ∧ ∀ j, szF f n c = some j → j ≤ n ∧ ∃ d', tk f (d, List.replicate n c, r) = some (d', List.replicate (n - j) c, r || badF f c) := by
  have one : ∀ m : Nat, ∀ j, (if m ≤ n then some m else none) = some j → j = m ∧ m ≤ n := fun m j h => by
    split at h
    · rename_i hm
      exact ⟨(Option.some.inj h).symm, hm⟩
    · cases h
  have no : ∀ m : Nat, (if m ≤ n then some m else none : Option Nat) = none → ¬ m ≤ n := fun m h hm => by rw [if_pos hm] at h; cases h
  cases f <;> simp only [szF, tk, badF, Bool.or_false]
  case nonce => exact ⟨fun h => by rw [need16, if_neg (no _ h)]; rfl, fun j h => by obtain ⟨rfl, hm⟩ := one _ _ h; exact ⟨hm, _, by rw [need16, if_pos hm]; rfl⟩⟩
  case salt => exact ⟨fun h => by rw [need16, if_neg (no _ h)]; rfl, fun j h => by obtain ⟨rfl, hm⟩ := one _ _ h; exact ⟨hm, _, by rw [need16, if_pos hm]; rfl⟩⟩
  case cookie => exact ⟨fun h => by rw [need32, if_neg (no _ h)]; rfl, fun j h => by obtain ⟨rfl, hm⟩ := one _ _ h; exact ⟨hm, _, by rw [need32, if_pos hm]; rfl⟩⟩
  case tag => exact ⟨fun h => by rw [need32, if_neg (no _ h)]; rfl, fun j h => by obtain ⟨rfl, hm⟩ := one _ _ h; exact ⟨hm, _, by rw [need32, if_pos hm]; rfl⟩⟩
  case epoch => exact ⟨fun h => by rw [need8, if_neg (no _ h)]; rfl, fun j h => by obtain ⟨rfl, hm⟩ := one _ _ h; exact ⟨hm, _, by rw [need8, if_pos hm]; rfl⟩⟩
  case session => exact ⟨fun h => by rw [need8, if_neg (no _ h)]; rfl, fun j h => by obtain ⟨rfl, hm⟩ := one _ _ h; exact ⟨hm, _, by rw [need8, if_pos hm]; rfl⟩⟩
  case seq => exact ⟨fun h => by rw [need8, if_neg (no _ h)]; rfl, fun j h => by obtain ⟨rfl, hm⟩ := one _ _ h; exact ⟨hm, _, by rw [need8, if_pos hm]; rfl⟩⟩
  case thr => exact ⟨fun h => by rw [need1, if_neg (no _ h)]; rfl, fun j h => by obtain ⟨rfl, hm⟩ := one _ _ h; exact ⟨hm, _, by rw [need1, if_pos hm]; rfl⟩⟩
  case turn => exact ⟨fun h => by rw [need1, if_neg (no _ h)]; rfl, fun j h => by obtain ⟨rfl, hm⟩ := one _ _ h; exact ⟨hm, _, by rw [need1, if_pos hm]; rfl⟩⟩
  case player => exact ⟨fun h => by rw [need1, if_neg (no _ h)]; rfl, fun j h => by obtain ⟨rfl, hm⟩ := one _ _ h; exact ⟨hm, _, by rw [need1, if_pos hm]; rfl⟩⟩
  case flags => exact ⟨fun h => by rw [need1, if_neg (no _ h)]; rfl, fun j h => by obtain ⟨rfl, hm⟩ := one _ _ h; exact ⟨hm, _, by rw [need1, if_pos hm, ← val_one c]; rfl⟩⟩
  case name =>
    refine ⟨fun h => ?_, fun j h => ?_⟩
    · have hn := no _ h
      rw [need1]
      by_cases h1 : 1 ≤ n
      · rw [if_pos h1]
        simp only [Option.bind_some]
        rw [val_one, need_rep, if_neg (by omega)]; rfl
      · rw [if_neg h1]; rfl
    · obtain ⟨rfl, hm⟩ := one _ _ h
      refine ⟨hm, { d with name := ba (List.replicate c.toNat c) }, ?_⟩
      rw [need1, if_pos (by omega)]
      simp only [Option.bind_some]
      rw [val_one, need_rep, if_pos (by omega), Nat.sub_sub]
      rfl
  case view =>
    rw [List.length_replicate, needv]
    refine ⟨fun h => ?_, fun j h => ?_⟩
    · split at h
      · cases h
      · rename_i hm; rw [if_neg hm]; rfl
    · split at h
      · rename_i hm
        obtain rfl := Option.some.inj h
        exact ⟨by omega, _, by rw [if_pos hm, show n - (n - 32) = 32 by omega]; rfl⟩
      · cases h
  case zeros =>
    refine ⟨fun h => by rw [need76, if_neg (no _ h)]; rfl, fun j h => ?_⟩
    obtain ⟨rfl, hm⟩ := one _ _ h
    refine ⟨hm, d, ?_⟩
    rw [need76, if_pos hm]
    simp only [Option.map_some]
    rw [show decide (List.replicate 76 c = zero76) = decide (c = 0) from decide_eq_decide.2 (zero_rep c)]
def codeR : List Fd → Nat → UInt8 → Bool → Int
  | [], n, _, r => if 0 < n then 72 else if r then 73 else 0
  | f :: fs, n, c, r => match szF f n c with
    | none => 72
    | some j => codeR fs (n - j) c (r || badF f c)
set_option maxRecDepth 100000 in
theorem code_rep : ∀ (fs : List Fd) (d : Dg) (n : Nat) (c : UInt8) (r : Bool), (ended (takes fs (d, List.replicate n c, r))).2 = codeR fs n c r
  | [], d, n, c, r => by
    simp only [takes, ended, codeR, List.length_replicate]
    split
    · rfl
    · split <;> rfl
  | f :: fs, d, n, c, r => by
    simp only [takes, codeR]
    cases hs : szF f n c with
    | none => rw [(tk_rep f d n c r).1 hs]; rfl
    | some j =>
      obtain ⟨_, d', e⟩ := (tk_rep f d n c r).2 j hs
      rw [e]
      exact code_rep fs d' (n - j) c _
set_option maxHeartbeats 4000000 in
theorem code_of (k n : Nat) (c : UInt8) (h : 1 ≤ k ∧ k ≤ 7) (d : Dg) : (ended (takes (fieldsL (k : Int)) (d, List.replicate n c, false))).2 = codeL k n c := by
  rw [code_rep]
  have hk : k = 1 ∨ k = 2 ∨ k = 3 ∨ k = 4 ∨ k = 5 ∨ k = 6 ∨ k = 7 := by omega
  rcases hk with rfl | rfl | rfl | rfl | rfl | rfl | rfl
  · show codeR [.nonce, .zeros] n c false = codeL 1 n c
    by_cases h1 : 16 ≤ n
    · by_cases h2 : 76 ≤ n - 16
      · simp only [codeR, szF, badF, h1, h2, if_true, codeL, Bool.false_or]
        by_cases h3 : n = 92
        · subst h3; by_cases hc : c = 0 <;> simp [hc]
        · rw [if_neg h3, if_pos (by omega)]
      · simp only [codeR, szF, h1, h2, if_true, if_false, codeL]; rw [if_neg (by omega)]
    · simp only [codeR, szF, h1, if_false, if_true, codeL]; rw [if_neg (by omega)]
  · show codeR [.nonce, .epoch, .cookie] n c false = codeL 2 n c
    have e : codeL 2 n c = if n = 56 then 0 else 72 := by simp [codeL]
    rw [e]
    by_cases h0 : 16 ≤ n
    · skip
      by_cases h1 : 8 ≤ n - 16
      · skip
        by_cases h2 : 32 ≤ n - 16 - 8
        · skip
          simp only [codeR, szF, badF, h0, h1, h2, if_true, Bool.or_false]
          by_cases h9 : n = 56
          · rw [if_pos h9, if_neg (by omega)]; rfl
          · rw [if_neg h9, if_pos (by omega)]
        · simp only [codeR, szF, h0, h1, h2, if_true, if_false]; rw [if_neg (by omega)]
      · simp only [codeR, szF, h0, h1, if_true, if_false]; rw [if_neg (by omega)]
    · simp only [codeR, szF, h0, if_false]; rw [if_neg (by omega)]
  · show codeR [.nonce, .epoch, .cookie, .name, .tag] n c false = codeL 3 n c
    have e : codeL 3 n c = if n = 89 + c.toNat then 0 else 72 := by simp [codeL]
    rw [e]
    by_cases h0 : 16 ≤ n
    · skip
      by_cases h1 : 8 ≤ n - 16
      · skip
        by_cases h2 : 32 ≤ n - 16 - 8
        · skip
          by_cases h3 : 1 + c.toNat ≤ n - 16 - 8 - 32
          · skip
            by_cases h4 : 32 ≤ n - 16 - 8 - 32 - (1 + c.toNat)
            · skip
              simp only [codeR, szF, badF, h0, h1, h2, h3, h4, if_true, Bool.or_false]
              by_cases h9 : n = 89 + c.toNat
              · rw [if_pos h9, if_neg (by omega)]; rfl
              · rw [if_neg h9, if_pos (by omega)]
            · simp only [codeR, szF, h0, h1, h2, h3, h4, if_true, if_false]; rw [if_neg (by omega)]
          · simp only [codeR, szF, h0, h1, h2, h3, if_true, if_false]; rw [if_neg (by omega)]
        · simp only [codeR, szF, h0, h1, h2, if_true, if_false]; rw [if_neg (by omega)]
      · simp only [codeR, szF, h0, h1, if_true, if_false]; rw [if_neg (by omega)]
    · simp only [codeR, szF, h0, if_false]; rw [if_neg (by omega)]
  · show codeR [.nonce, .session, .player, .salt, .tag] n c false = codeL 4 n c
    have e : codeL 4 n c = if n = 73 then 0 else 72 := by simp [codeL]
    rw [e]
    by_cases h0 : 16 ≤ n
    · skip
      by_cases h1 : 8 ≤ n - 16
      · skip
        by_cases h2 : 1 ≤ n - 16 - 8
        · skip
          by_cases h3 : 16 ≤ n - 16 - 8 - 1
          · skip
            by_cases h4 : 32 ≤ n - 16 - 8 - 1 - 16
            · skip
              simp only [codeR, szF, badF, h0, h1, h2, h3, h4, if_true, Bool.or_false]
              by_cases h9 : n = 73
              · rw [if_pos h9, if_neg (by omega)]; rfl
              · rw [if_neg h9, if_pos (by omega)]
            · simp only [codeR, szF, h0, h1, h2, h3, h4, if_true, if_false]; rw [if_neg (by omega)]
          · simp only [codeR, szF, h0, h1, h2, h3, if_true, if_false]; rw [if_neg (by omega)]
        · simp only [codeR, szF, h0, h1, h2, if_true, if_false]; rw [if_neg (by omega)]
      · simp only [codeR, szF, h0, h1, if_true, if_false]; rw [if_neg (by omega)]
    · simp only [codeR, szF, h0, if_false]; rw [if_neg (by omega)]
  · show codeR [.session, .seq, .thr, .turn, .flags, .tag] n c false = codeL 5 n c
    have e : codeL 5 n c = if n = 51 then (if c.toNat ≤ 3 then 0 else 73) else 72 := by simp [codeL]
    rw [e]
    by_cases h0 : 8 ≤ n
    · skip
      by_cases h1 : 8 ≤ n - 8
      · skip
        by_cases h2 : 1 ≤ n - 8 - 8
        · skip
          by_cases h3 : 1 ≤ n - 8 - 8 - 1
          · skip
            by_cases h4 : 1 ≤ n - 8 - 8 - 1 - 1
            · skip
              by_cases h5 : 32 ≤ n - 8 - 8 - 1 - 1 - 1
              · skip
                simp only [codeR, szF, badF, h0, h1, h2, h3, h4, h5, if_true, Bool.or_false, Bool.false_or]
                by_cases h9 : n = 51
                · subst h9; by_cases hc : c.toNat ≤ 3 <;> simp [hc]
                · rw [if_neg h9, if_pos (by omega)]
              · simp only [codeR, szF, h0, h1, h2, h3, h4, h5, if_true, if_false]; rw [if_neg (by omega)]
            · simp only [codeR, szF, h0, h1, h2, h3, h4, if_true, if_false]; rw [if_neg (by omega)]
          · simp only [codeR, szF, h0, h1, h2, h3, if_true, if_false]; rw [if_neg (by omega)]
        · simp only [codeR, szF, h0, h1, h2, if_true, if_false]; rw [if_neg (by omega)]
      · simp only [codeR, szF, h0, h1, if_true, if_false]; rw [if_neg (by omega)]
    · simp only [codeR, szF, h0, if_false]; rw [if_neg (by omega)]
  · show codeR [.session, .seq, .view, .tag] n c false = codeL 6 n c
    have e : codeL 6 n c = if 48 ≤ n then 0 else 72 := by simp [codeL]
    rw [e]
    by_cases h0 : 8 ≤ n
    · skip
      by_cases h1 : 8 ≤ n - 8
      · skip
        by_cases h2 : 32 ≤ n - 8 - 8
        · skip
          by_cases h3 : 32 ≤ n - 8 - 8 - (n - 8 - 8 - 32)
          · skip
            simp only [codeR, szF, badF, h0, h1, h2, h3, if_true, Bool.or_false]
            rw [if_neg (by omega), if_pos (show 48 ≤ n by omega)]; rfl
          · simp only [codeR, szF, h0, h1, h2, h3, if_true, if_false]; rw [if_neg (by omega)]
        · simp only [codeR, szF, h0, h1, h2, if_true, if_false]; rw [if_neg (by omega)]
      · simp only [codeR, szF, h0, h1, if_true, if_false]; rw [if_neg (by omega)]
    · simp only [codeR, szF, h0, if_false]; rw [if_neg (by omega)]
  · show codeR [.session, .seq, .tag] n c false = codeL 7 n c
    have e : codeL 7 n c = if n = 48 then 0 else 72 := by simp [codeL]
    rw [e]
    by_cases h0 : 8 ≤ n
    · skip
      by_cases h1 : 8 ≤ n - 8
      · skip
        by_cases h2 : 32 ≤ n - 8 - 8
        · skip
          simp only [codeR, szF, badF, h0, h1, h2, if_true, Bool.or_false]
          by_cases h9 : n = 48
          · rw [if_pos h9, if_neg (by omega)]; rfl
          · rw [if_neg h9, if_pos (by omega)]
        · simp only [codeR, szF, h0, h1, h2, if_true, if_false]; rw [if_neg (by omega)]
      · simp only [codeR, szF, h0, h1, if_true, if_false]; rw [if_neg (by omega)]
    · simp only [codeR, szF, h0, if_false]; rw [if_neg (by omega)]
def lenL (k n : Nat) (c : UInt8) : List UInt8 := [74, 48, 49, UInt8.ofNat k] ++ List.replicate n c
set_option maxRecDepth 100000 in
theorem lenL_len (k n : Nat) (c : UInt8) : (lenL k n c).length = 4 + n := by simp [lenL]; omega
def wantC (k n : Nat) (c : UInt8) : Int := if 1200 < 4 + n then 72 else if k < 1 ∨ 7 < k then 71 else codeL k n c
set_option maxRecDepth 100000 in
theorem dec_len (k n : Nat) (c : UInt8) (hk : k ≤ 8) : (dec (lenL k n c)).2 = wantC k n c := by
  unfold wantC dec
  rw [lenL_len]
  by_cases h1 : 1200 < 4 + n
  · rw [if_pos h1, if_pos h1]
  · rw [if_neg h1, if_neg h1]
    have e1 : (lenL k n c).take 3 = magic := rfl
    have e2 : (lenL k n c).drop 4 = List.replicate n c := rfl
    have e3 : kindL (lenL k n c) = (k : Int) := by
      rw [kindL, if_neg (by rw [lenL_len, e1]; simp)]
      show (((UInt8.ofNat k).toNat : Nat) : Int) = _
      simp; omega
    rw [if_neg (by simp [e1]), e3, e2]
    by_cases h2 : k < 1 ∨ 7 < k
    · rw [if_pos h2, if_pos (fieldsL_nil (by omega))]
    · rw [if_neg h2, if_neg (fieldsL_some (by omega))]
      exact code_of k n c (by omega) _
set_option maxRecDepth 100000 in
theorem dec_three (s : List UInt8) (h : s = magic) : (dec s).2 = 71 := by subst h; rfl
set_option maxRecDepth 100000 in
theorem dec_two : (dec [74, 48]).2 = 70 := by rfl
set_option maxRecDepth 100000 in
theorem dec_j (L : List UInt8) (h : L.take 3 ≠ magic) : (dec L).2 = if 1200 < L.length then 72 else 70 := by
  unfold dec
  by_cases h1 : 1200 < L.length
  · rw [if_pos h1, if_pos h1]
  · rw [if_neg h1, if_neg h1, if_pos h]
end Go.Proofs.YtkdjcknikhgfkabGreatDoor.Pk
