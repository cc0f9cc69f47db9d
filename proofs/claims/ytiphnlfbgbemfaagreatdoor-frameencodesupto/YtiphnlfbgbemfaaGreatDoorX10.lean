import Derived.Test.YtiphnlfbgbemfaaGreatDoorX7
import Derived.Test.YtiphnlfbgbemfaaGreatDoorX9
import Derived.Deep.DeepCutAuto
import Derived.Test.YtiphnlfbgbemfaaGreatDoorX2
/- like bytes behind a head -/
namespace Go.Proofs.YtiphnlfbgbemfaaGreatDoor.Pk
open Go Go.RowKit

theorem need_rep (n j : Nat) (c : UInt8) : need (List.replicate n c) (j : Int) = if j ≤ n then some (List.replicate j c, List.replicate (n - j) c) else none := by
  unfold need
  by_cases h : j ≤ n
  · rw [if_pos h, if_neg (by simp; omega), Int.toNat_natCast, List.take_replicate, List.drop_replicate, Nat.min_eq_left h]
  · rw [if_neg h, if_pos (.inr (by simp; omega))]
theorem need1 (n : Nat) (c : UInt8) : need (List.replicate n c) 1 = if 1 ≤ n then some (List.replicate 1 c, List.replicate (n - 1) c) else none := need_rep n 1 c
theorem need8 (n : Nat) (c : UInt8) : need (List.replicate n c) 8 = if 8 ≤ n then some (List.replicate 8 c, List.replicate (n - 8) c) else none := need_rep n 8 c
theorem need16 (n : Nat) (c : UInt8) : need (List.replicate n c) 16 = if 16 ≤ n then some (List.replicate 16 c, List.replicate (n - 16) c) else none := need_rep n 16 c
theorem need32 (n : Nat) (c : UInt8) : need (List.replicate n c) 32 = if 32 ≤ n then some (List.replicate 32 c, List.replicate (n - 32) c) else none := need_rep n 32 c
theorem need76 (n : Nat) (c : UInt8) : need (List.replicate n c) 76 = if 76 ≤ n then some (List.replicate 76 c, List.replicate (n - 76) c) else none := need_rep n 76 c
theorem needv (n : Nat) (c : UInt8) : need (List.replicate n c) ((n : Int) - 32) = if 32 ≤ n then some (List.replicate (n - 32) c, List.replicate 32 c) else none := by
  by_cases h : 32 ≤ n
  · rw [if_pos h, show (n : Int) - 32 = ((n - 32 : Nat) : Int) by omega, need_rep, if_pos (by omega), show n - (n - 32) = 32 by omega]
  · rw [if_neg h, need, if_pos (.inl (by omega))]
theorem val_one (c : UInt8) : val (List.replicate 1 c) = c.toNat := by simp [val]
def codeL (k n : Nat) (c : UInt8) : Int :=
  if k = 1 then (if n = 92 then (if c = 0 then 0 else 73) else 72) else if k = 2 then (if n = 56 then 0 else 72) else if k = 3 then (if n = 89 + c.toNat then 0 else 72)
  else if k = 4 then (if n = 73 then 0 else 72) else if k = 5 then (if n = 51 then (if c.toNat ≤ 3 then 0 else 73) else 72) else if k = 6 then (if 48 ≤ n then 0 else 72) else (if n = 48 then 0 else 72)
theorem zero_rep (c : UInt8) : (List.replicate 76 c = zero76) ↔ c = 0 := by
  constructor
  · intro h
    have := congrArg (fun l => l.getD 0 0) h
    simpa [zero76, List.replicate] using this
  · intro h; rw [h]; rfl
/-- how many bytes a field takes out of like bytes; none: it gives up -/
def szF (f : Fd) (n : Nat) (c : UInt8) : Option Nat :=
  match f with
  | .nonce | .salt => if 16 ≤ n then some 16 else none
  | .cookie | .tag => if 32 ≤ n then some 32 else none
  | .epoch | .session | .seq => if 8 ≤ n then some 8 else none
  | .thr | .turn | .player | .flags => if 1 ≤ n then some 1 else none
  | .name => if 1 + c.toNat ≤ n then some (1 + c.toNat) else none
  | .view => if 32 ≤ n then some (n - 32) else none
  | .zeros => if 76 ≤ n then some 76 else none
def badF (f : Fd) (c : UInt8) : Bool :=
  match f with
  | .flags => !decide (c.toNat ≤ 3)
  | .zeros => !decide (c = 0)
  | _ => false
theorem tk_rep (f : Fd) (d : Dg) (n : Nat) (c : UInt8) (r : Bool) : (szF f n c = none → tk f (d, List.replicate n c, r) = none) ∧ ∀ j, szF f n c = some j → j ≤ n ∧ ∃ d', tk f (d, List.replicate n c, r) = some (d', List.replicate (n - j) c, r || badF f c) := by
  have one : ∀ m : Nat, ∀ j, (if m ≤ n then some m else none) = some j → j = m ∧ m ≤ n := fun m j h => by
    split at h
    · rename_i hm
      exact ⟨(Option.some.inj h).symm, hm⟩
    · cases h
  have no : ∀ m : Nat, (if m ≤ n then some m else none : Option Nat) = none → ¬ m ≤ n := fun m h hm => by rw [if_pos hm] at h; cases h
  cases f <;> simp only [szF, tk, badF, Bool.or_false]
  case nonce => exact ⟨fun h => by rw [need16, if_neg (no _ h)]; rfl, fun j h => by obtain ⟨rfl, hm⟩ := one _ _ h; exact ⟨hm, _, by rw [need16, if_pos hm]; rfl⟩⟩
  case salt => exact ⟨fun h => by rw [need16, if_neg (no _ h)]; rfl, fun j h => by obtain ⟨rfl, hm⟩ := one _ _ h; exact ⟨hm, _, by rw [need16, if_pos hm]; rfl⟩⟩
  case cookie => exact ⟨fun h => by rw [need32, if_neg (no _ h)]; rfl, fun j h => by obtain ⟨rfl, hm⟩ := one _ _ h; exact ⟨hm, _, by rw [need32, if_pos hm]; rfl⟩⟩
  case tag => exact ⟨fun h => by rw [need32, if_neg (no _ h)]; rfl, fun j h => by obtain ⟨rfl, hm⟩ := one _ _ h; exact ⟨hm, _, by rw [need32, if_pos hm]; rfl⟩⟩
  case epoch => exact ⟨fun h => by rw [need8, if_neg (no _ h)]; rfl, fun j h => by obtain ⟨rfl, hm⟩ := one _ _ h; exact ⟨hm, _, by rw [need8, if_pos hm]; rfl⟩⟩
  case session => exact ⟨fun h => by rw [need8, if_neg (no _ h)]; rfl, fun j h => by obtain ⟨rfl, hm⟩ := one _ _ h; exact ⟨hm, _, by rw [need8, if_pos hm]; rfl⟩⟩
  case seq => exact ⟨fun h => by rw [need8, if_neg (no _ h)]; rfl, fun j h => by obtain ⟨rfl, hm⟩ := one _ _ h; exact ⟨hm, _, by rw [need8, if_pos hm]; rfl⟩⟩
  case thr => exact ⟨fun h => by rw [need1, if_neg (no _ h)]; rfl, fun j h => by obtain ⟨rfl, hm⟩ := one _ _ h; exact ⟨hm, _, by rw [need1, if_pos hm]; rfl⟩⟩
  case turn => exact ⟨fun h => by rw [need1, if_neg (no _ h)]; rfl, fun j h => by obtain ⟨rfl, hm⟩ := one _ _ h; exact ⟨hm, _, by rw [need1, if_pos hm]; rfl⟩⟩
  case player => exact ⟨fun h => by rw [need1, if_neg (no _ h)]; rfl, fun j h => by obtain ⟨rfl, hm⟩ := one _ _ h; exact ⟨hm, _, by rw [need1, if_pos hm]; rfl⟩⟩
  case flags => exact ⟨fun h => by rw [need1, if_neg (no _ h)]; rfl, fun j h => by obtain ⟨rfl, hm⟩ := one _ _ h; exact ⟨hm, _, by rw [need1, if_pos hm, ← val_one c]; rfl⟩⟩
  case name =>
    refine ⟨fun h => ?_, fun j h => ?_⟩
    · have hn := no _ h
      rw [need1]
      by_cases h1 : 1 ≤ n
      · rw [if_pos h1]
        simp only [Option.bind_some]
        rw [val_one, need_rep, if_neg (by omega)]; rfl
      · rw [if_neg h1]; rfl
    · obtain ⟨rfl, hm⟩ := one _ _ h
      refine ⟨hm, { d with name := ba (List.replicate c.toNat c) }, ?_⟩
      rw [need1, if_pos (by omega)]
      simp only [Option.bind_some]
      rw [val_one, need_rep, if_pos (by omega), Nat.sub_sub]
      rfl
  case view =>
    rw [List.length_replicate, needv]
    refine ⟨fun h => ?_, fun j h => ?_⟩
    · split at h
      · cases h
      · rename_i hm; rw [if_neg hm]; rfl
    · split at h
      · rename_i hm
        obtain rfl := Option.some.inj h
        exact ⟨by omega, _, by rw [if_pos hm, show n - (n - 32) = 32 by omega]; rfl⟩
      · cases h
  case zeros =>
    refine ⟨fun h => by rw [need76, if_neg (no _ h)]; rfl, fun j h => ?_⟩
    obtain ⟨rfl, hm⟩ := one _ _ h
    refine ⟨hm, d, ?_⟩
    rw [need76, if_pos hm]
    simp only [Option.map_some]
    rw [show decide (List.replicate 76 c = zero76) = decide (c = 0) from decide_eq_decide.2 (zero_rep c)]
def codeR : List Fd → Nat → UInt8 → Bool → Int
  | [], n, _, r => if 0 < n then 72 else if r then 73 else 0
  | f :: fs, n, c, r => match szF f n c with
    | none => 72
    | some j => codeR fs (n - j) c (r || badF f c)
theorem code_rep : ∀ (fs : List Fd) (d : Dg) (n : Nat) (c : UInt8) (r : Bool), (ended (takes fs (d, List.replicate n c, r))).2 = codeR fs n c r
  | [], d, n, c, r => by
    simp only [takes, ended, codeR, List.length_replicate]
    split
    · rfl
    · split <;> rfl
  | f :: fs, d, n, c, r => by
    simp only [takes, codeR]
    cases hs : szF f n c with
    | none => rw [(tk_rep f d n c r).1 hs]; rfl
    | some j =>
      obtain ⟨_, d', e⟩ := (tk_rep f d n c r).2 j hs
      rw [e]
      exact code_rep fs d' (n - j) c _
set_option maxHeartbeats 4000000 in
theorem code_of (k n : Nat) (c : UInt8) (h : 1 ≤ k ∧ k ≤ 7) (d : Dg) : (ended (takes (fieldsL (k : Int)) (d, List.replicate n c, false))).2 = codeL k n c := by
  rw [code_rep]
  have hk : k = 1 ∨ k = 2 ∨ k = 3 ∨ k = 4 ∨ k = 5 ∨ k = 6 ∨ k = 7 := by omega
  rcases hk with rfl | rfl | rfl | rfl | rfl | rfl | rfl
  · show codeR [.nonce, .zeros] n c false = codeL 1 n c
    by_cases h1 : 16 ≤ n
    · by_cases h2 : 76 ≤ n - 16
      · simp only [codeR, szF, badF, h1, h2, if_true, codeL, Bool.false_or]
        by_cases h3 : n = 92
        · subst h3; by_cases hc : c = 0 <;> simp [hc]
        · rw [if_neg h3, if_pos (by omega)]
      · simp only [codeR, szF, h1, h2, if_true, if_false, codeL]; rw [if_neg (by omega)]
    · simp only [codeR, szF, h1, if_false, if_true, codeL]; rw [if_neg (by omega)]
  · show codeR [.nonce, .epoch, .cookie] n c false = codeL 2 n c
    have e : codeL 2 n c = if n = 56 then 0 else 72 := by simp [codeL]
    rw [e]
    by_cases h0 : 16 ≤ n
    · skip
      by_cases h1 : 8 ≤ n - 16
      · skip
        by_cases h2 : 32 ≤ n - 16 - 8
        · skip
          simp only [codeR, szF, badF, h0, h1, h2, if_true, Bool.or_false]
          by_cases h9 : n = 56
          · rw [if_pos h9, if_neg (by omega)]; rfl
          · rw [if_neg h9, if_pos (by omega)]
        · simp only [codeR, szF, h0, h1, h2, if_true, if_false]; rw [if_neg (by omega)]
      · simp only [codeR, szF, h0, h1, if_true, if_false]; rw [if_neg (by omega)]
    · simp only [codeR, szF, h0, if_false]; rw [if_neg (by omega)]
  · show codeR [.nonce, .epoch, .cookie, .name, .tag] n c false = codeL 3 n c
    have e : codeL 3 n c = if n = 89 + c.toNat then 0 else 72 := by simp [codeL]
    rw [e]
    by_cases h0 : 16 ≤ n
    · skip
      by_cases h1 : 8 ≤ n - 16
      · skip
        by_cases h2 : 32 ≤ n - 16 - 8
        · skip
          by_cases h3 : 1 + c.toNat ≤ n - 16 - 8 - 32
          · skip
            by_cases h4 : 32 ≤ n - 16 - 8 - 32 - (1 + c.toNat)
            · skip
              simp only [codeR, szF, badF, h0, h1, h2, h3, h4, if_true, Bool.or_false]
              by_cases h9 : n = 89 + c.toNat
              · rw [if_pos h9, if_neg (by omega)]; rfl
              · rw [if_neg h9, if_pos (by omega)]
            · simp only [codeR, szF, h0, h1, h2, h3, h4, if_true, if_false]; rw [if_neg (by omega)]
          · simp only [codeR, szF, h0, h1, h2, h3, if_true, if_false]; rw [if_neg (by omega)]
        · simp only [codeR, szF, h0, h1, h2, if_true, if_false]; rw [if_neg (by omega)]
      · simp only [codeR, szF, h0, h1, if_true, if_false]; rw [if_neg (by omega)]
    · simp only [codeR, szF, h0, if_false]; rw [if_neg (by omega)]
  · show codeR [.nonce, .session, .player, .salt, .tag] n c false = codeL 4 n c
    have e : codeL 4 n c = if n = 73 then 0 else 72 := by simp [codeL]
    rw [e]
    by_cases h0 : 16 ≤ n
    · skip
      by_cases h1 : 8 ≤ n - 16
      · skip
        by_cases h2 : 1 ≤ n - 16 - 8
        · skip
          by_cases h3 : 16 ≤ n - 16 - 8 - 1
          · skip
            by_cases h4 : 32 ≤ n - 16 - 8 - 1 - 16
            · skip
              simp only [codeR, szF, badF, h0, h1, h2, h3, h4, if_true, Bool.or_false]
              by_cases h9 : n = 73
              · rw [if_pos h9, if_neg (by omega)]; rfl
              · rw [if_neg h9, if_pos (by omega)]
            · simp only [codeR, szF, h0, h1, h2, h3, h4, if_true, if_false]; rw [if_neg (by omega)]
          · simp only [codeR, szF, h0, h1, h2, h3, if_true, if_false]; rw [if_neg (by omega)]
        · simp only [codeR, szF, h0, h1, h2, if_true, if_false]; rw [if_neg (by omega)]
      · simp only [codeR, szF, h0, h1, if_true, if_false]; rw [if_neg (by omega)]
    · simp only [codeR, szF, h0, if_false]; rw [if_neg (by omega)]
  · show codeR [.session, .seq, .thr, .turn, .flags, .tag] n c false = codeL 5 n c
    have e : codeL 5 n c = if n = 51 then (if c.toNat ≤ 3 then 0 else 73) else 72 := by simp [codeL]
    rw [e]
    by_cases h0 : 8 ≤ n
    · skip
      by_cases h1 : 8 ≤ n - 8
      · skip
        by_cases h2 : 1 ≤ n - 8 - 8
        · skip
          by_cases h3 : 1 ≤ n - 8 - 8 - 1
          · skip
            by_cases h4 : 1 ≤ n - 8 - 8 - 1 - 1
            · skip
              by_cases h5 : 32 ≤ n - 8 - 8 - 1 - 1 - 1
              · skip
                simp only [codeR, szF, badF, h0, h1, h2, h3, h4, h5, if_true, Bool.or_false, Bool.false_or]
                by_cases h9 : n = 51
                · subst h9; by_cases hc : c.toNat ≤ 3 <;> simp [hc]
                · rw [if_neg h9, if_pos (by omega)]
              · simp only [codeR, szF, h0, h1, h2, h3, h4, h5, if_true, if_false]; rw [if_neg (by omega)]
            · simp only [codeR, szF, h0, h1, h2, h3, h4, if_true, if_false]; rw [if_neg (by omega)]
          · simp only [codeR, szF, h0, h1, h2, h3, if_true, if_false]; rw [if_neg (by omega)]
        · simp only [codeR, szF, h0, h1, h2, if_true, if_false]; rw [if_neg (by omega)]
      · simp only [codeR, szF, h0, h1, if_true, if_false]; rw [if_neg (by omega)]
    · simp only [codeR, szF, h0, if_false]; rw [if_neg (by omega)]
  · show codeR [.session, .seq, .view, .tag] n c false = codeL 6 n c
    have e : codeL 6 n c = if 48 ≤ n then 0 else 72 := by simp [codeL]
    rw [e]
    by_cases h0 : 8 ≤ n
    · skip
      by_cases h1 : 8 ≤ n - 8
      · skip
        by_cases h2 : 32 ≤ n - 8 - 8
        · skip
          by_cases h3 : 32 ≤ n - 8 - 8 - (n - 8 - 8 - 32)
          · skip
            simp only [codeR, szF, badF, h0, h1, h2, h3, if_true, Bool.or_false]
            rw [if_neg (by omega), if_pos (show 48 ≤ n by omega)]; rfl
          · simp only [codeR, szF, h0, h1, h2, h3, if_true, if_false]; rw [if_neg (by omega)]
        · simp only [codeR, szF, h0, h1, h2, if_true, if_false]; rw [if_neg (by omega)]
      · simp only [codeR, szF, h0, h1, if_true, if_false]; rw [if_neg (by omega)]
    · simp only [codeR, szF, h0, if_false]; rw [if_neg (by omega)]
  · show codeR [.session, .seq, .tag] n c false = codeL 7 n c
    have e : codeL 7 n c = if n = 48 then 0 else 72 := by simp [codeL]
    rw [e]
    by_cases h0 : 8 ≤ n
    · skip
      by_cases h1 : 8 ≤ n - 8
      · skip
        by_cases h2 : 32 ≤ n - 8 - 8
        · skip
          simp only [codeR, szF, badF, h0, h1, h2, if_true, Bool.or_false]
          by_cases h9 : n = 48
          · rw [if_pos h9, if_neg (by omega)]; rfl
          · rw [if_neg h9, if_pos (by omega)]
        · simp only [codeR, szF, h0, h1, h2, if_true, if_false]; rw [if_neg (by omega)]
      · simp only [codeR, szF, h0, h1, if_true, if_false]; rw [if_neg (by omega)]
    · simp only [codeR, szF, h0, if_false]; rw [if_neg (by omega)]
def lenL (k n : Nat) (c : UInt8) : List UInt8 := [74, 48, 49, UInt8.ofNat k] ++ List.replicate n c
theorem lenL_len (k n : Nat) (c : UInt8) : (lenL k n c).length = 4 + n := by simp [lenL]; omega
def wantC (k n : Nat) (c : UInt8) : Int := if 1200 < 4 + n then 72 else if k < 1 ∨ 7 < k then 71 else codeL k n c
theorem dec_len (k n : Nat) (c : UInt8) (hk : k ≤ 8) : (dec (lenL k n c)).2 = wantC k n c := by
  unfold wantC dec
  rw [lenL_len]
  by_cases h1 : 1200 < 4 + n
  · rw [if_pos h1, if_pos h1]
  · rw [if_neg h1, if_neg h1]
    have e1 : (lenL k n c).take 3 = magic := rfl
    have e2 : (lenL k n c).drop 4 = List.replicate n c := rfl
    have e3 : kindL (lenL k n c) = (k : Int) := by
      rw [kindL, if_neg (by rw [lenL_len, e1]; simp)]
      show (((UInt8.ofNat k).toNat : Nat) : Int) = _
      simp; omega
    rw [if_neg (by simp [e1]), e3, e2]
    by_cases h2 : k < 1 ∨ 7 < k
    · rw [if_pos h2, if_pos (fieldsL_nil (by omega))]
    · rw [if_neg h2, if_neg (fieldsL_some (by omega))]
      exact code_of k n c (by omega) _
theorem dec_three (s : List UInt8) (h : s = magic) : (dec s).2 = 71 := by subst h; rfl
theorem dec_two : (dec [74, 48]).2 = 70 := by rfl
theorem dec_j (L : List UInt8) (h : L.take 3 ≠ magic) : (dec L).2 = if 1200 < L.length then 72 else 70 := by
  unfold dec
  by_cases h1 : 1200 < L.length
  · rw [if_pos h1, if_pos h1]
  · rw [if_neg h1, if_neg h1, if_pos h]
end Go.Proofs.YtiphnlfbgbemfaaGreatDoor.Pk

/- FrameLengths -/
namespace Go.Proofs.YtiphnlfbgbemfaaGreatDoor.Pk
open Go Go.RowKit

theorem wpAnyH_weaken {P : Program} {md : Region.Mode} {ops : Array Oper} {Q : Exit → Act → World → Prop} {S S' : World → Prop} (hS : ∀ w, S' w → S w) : ∀ (fuel : Nat) (listed : Array Bool) (a : Act) (w : World), wpAnyH P md ops Q S' fuel listed a w → wpAnyH P md ops Q S fuel listed a w
  | 0, _, _, _, h => h
  | fuel + 1, _, _, _, h => ⟨h.1, fun i hi => wpOp_mono (fun a' w' h' => ⟨hS w' h'.1, wpAnyH_weaken hS fuel _ a' w' h'.2⟩) (h.2 i hi)⟩
theorem cvt_one (k : Nat) (hk : k ≤ 8) (b : Nat) (W : World) (h : Has W b [.int .u8 (k : Int)] 5) : (convert 39 9 (.slice (some ⟨b, 0, none⟩) 1 1)).run Tryz.prog W = .ok (.string (ba [UInt8.ofNat k])) W := by
  have := cvt_cells W (some ⟨b, 0, none⟩) 1 [UInt8.ofNat k] (fun e => by cases e) (fun ad e j x hx => by
    obtain rfl := Option.some.inj e
    match j, hx with
    | 0, rfl =>
      rw [show ((⟨b, 0, none⟩ : Addr).add 0) = ⟨b, 0, none⟩ from rfl, h.cellv 0 _ rfl]
      simp; omega)
  exact this
set_option maxHeartbeats 16000000 in
set_option maxRecDepth 100000 in
theorem least1 (w : World) : Calls Tryz.prog 16 #[.int .i64 1] w fun e w' => e = .returned (.int .i64 96) ∧ w.grownBy w' none := by
  go_enter Tryz.func16, Tryz.ntmps16
  go_wp2
  go_ret
  exact ⟨rfl, World.grownBy_alloc _ _ _⟩
set_option maxHeartbeats 16000000 in
set_option maxRecDepth 100000 in
theorem least2 (w : World) : Calls Tryz.prog 16 #[.int .i64 2] w fun e w' => e = .returned (.int .i64 60) ∧ w.grownBy w' none := by
  go_enter Tryz.func16, Tryz.ntmps16
  go_wp2
  go_ret
  exact ⟨rfl, World.grownBy_alloc _ _ _⟩
set_option maxHeartbeats 16000000 in
set_option maxRecDepth 100000 in
theorem least3 (w : World) : Calls Tryz.prog 16 #[.int .i64 3] w fun e w' => e = .returned (.int .i64 93) ∧ w.grownBy w' none := by
  go_enter Tryz.func16, Tryz.ntmps16
  go_wp2
  go_ret
  exact ⟨rfl, World.grownBy_alloc _ _ _⟩
set_option maxHeartbeats 16000000 in
set_option maxRecDepth 100000 in
theorem least4 (w : World) : Calls Tryz.prog 16 #[.int .i64 4] w fun e w' => e = .returned (.int .i64 77) ∧ w.grownBy w' none := by
  go_enter Tryz.func16, Tryz.ntmps16
  go_wp2
  go_ret
  exact ⟨rfl, World.grownBy_alloc _ _ _⟩
set_option maxHeartbeats 16000000 in
set_option maxRecDepth 100000 in
theorem least5 (w : World) : Calls Tryz.prog 16 #[.int .i64 5] w fun e w' => e = .returned (.int .i64 55) ∧ w.grownBy w' none := by
  go_enter Tryz.func16, Tryz.ntmps16
  go_wp2
  go_ret
  exact ⟨rfl, World.grownBy_alloc _ _ _⟩
set_option maxHeartbeats 16000000 in
set_option maxRecDepth 100000 in
theorem least6 (w : World) : Calls Tryz.prog 16 #[.int .i64 6] w fun e w' => e = .returned (.int .i64 52) ∧ w.grownBy w' none := by
  go_enter Tryz.func16, Tryz.ntmps16
  go_wp2
  go_ret
  exact ⟨rfl, World.grownBy_alloc _ _ _⟩
set_option maxHeartbeats 16000000 in
set_option maxRecDepth 100000 in
theorem least7 (w : World) : Calls Tryz.prog 16 #[.int .i64 7] w fun e w' => e = .returned (.int .i64 52) ∧ w.grownBy w' none := by
  go_enter Tryz.func16, Tryz.ntmps16
  go_wp2
  go_ret
  exact ⟨rfl, World.grownBy_alloc _ _ _⟩
end Go.Proofs.YtiphnlfbgbemfaaGreatDoor.Pk

/- the reference's Encode -/
namespace Go.Proofs.YtiphnlfbgbemfaaGreatDoor.Pk
open Go Go.RowKit
theorem fitsS1 (x : Int) : fitsS x 1 ↔ -128 ≤ x ∧ x ≤ 127 := by
  unfold fitsS
  have e : ((256 ^ (1 : Int).toNat : Nat) : Int) = 256 := by decide
  constructor
  · rintro ⟨_, h⟩
    rw [e] at h; omega
  · intro h
    exact ⟨by decide, by rw [e]; omega⟩
theorem fitsU1 (x : Int) (h : -9223372036854775808 ≤ x ∧ x < 9223372036854775808) : fitsU (u64 x) 1 ↔ 0 ≤ x ∧ x ≤ 255 := by
  unfold fitsU
  have e : (256 ^ (1 : Int).toNat : Nat) = 256 := by decide
  constructor
  · rintro ⟨_, q⟩
    rw [e] at q; unfold u64 at q; omega
  · intro q
    exact ⟨by decide, by rw [e]; unfold u64; omega⟩
theorem len8_be (n : Nat) : (⟨(Mac.len8 n).toArray⟩ : ByteArray) = ba (be 8 n) := by
  have e : Mac.len8 n = be 8 n := by simp [Mac.len8, be]
  rw [e]
theorem rlen_c (n : Nat) (w : World) (hn : n < 18446744073709551616) :
    Calls Tryz.prog 41 #[.int .u64 n] w fun e w' => e = .returned (.string (ba (be 8 n))) ∧ w.grownBy w' none := by
  have h := length_any n w hn
  rw [len8_be n] at h; exact h
theorem cvt_new (k : UInt8) (z : Int) (hz : z = (k.toNat : Int)) (W : World) : (convert 39 9 (.slice (some ⟨W.heap.size, 0, none⟩) 1 1)).run Tryz.prog (W.alloc (.cells #[.int .u8 z] 5)) = .ok (.string (ba [k])) (W.alloc (.cells #[.int .u8 z] 5)) := by
  subst hz
  have h := Has.newA W #[.int .u8 (k.toNat : Int)] 5
  exact cvt_cells (W.alloc (.cells #[.int .u8 (k.toNat : Int)] 5)) (some ⟨W.heap.size, 0, none⟩) 1 [k] (fun e => by cases e) (fun ad e j x hx => by
    obtain rfl := Option.some.inj e
    match j, hx with
    | 0, rfl =>
      rw [show ((⟨W.heap.size, 0, none⟩ : Addr).add 0) = ⟨W.heap.size, 0, none⟩ from rfl, h.cellv 0 _ rfl])
theorem be1 (x : Int) (h : 0 ≤ x ∧ x ≤ 255) : be 1 (u64 x) = [UInt8.ofNat x.toNat] := by
  have e : u64 x = x.toNat := by unfold u64; omega
  rw [e]; simp [be]
theorem cvt_has (k : UInt8) (z : Int) (hz : z = (k.toNat : Int)) (b : Nat) (W : World) (h : Has W b [.int .u8 z] 5) : (convert 39 9 (.slice (some ⟨b, 0, none⟩) 1 1)).run Tryz.prog W = .ok (.string (ba [k])) W := by
  subst hz
  exact cvt_cells W (some ⟨b, 0, none⟩) 1 [k] (fun e => by cases e) (fun ad e j x hx => by
    obtain rfl := Option.some.inj e
    match j, hx with
    | 0, rfl =>
      rw [show ((⟨b, 0, none⟩ : Addr).add 0) = ⟨b, 0, none⟩ from rfl, h.cellv 0 _ rfl])
set_option maxHeartbeats 16000000 in
set_option maxRecDepth 100000 in
theorem renc_6 (d : Dg) (hf : d.fine) (hs : d.small) (w : World) (hk : d.kind = 6) :
    Calls Tryz.prog 20 #[dv d] w fun e w' => e = .returned (.tuple #[.string (ba (enc d).1), .int .i64 (enc d).2]) ∧ w.grownBy w' none := by
  obtain ⟨du, hdu, hdr⟩ := under26
  have h0 : ¬ fieldsL d.kind = [] := fieldsL_some (by omega)
  have hFI := fun W => rfits_6 d W hk
  obtain ⟨w0, hw0⟩ : ∃ q, w.alloc (.cells d.cells.toArray 26) = q := ⟨_, rfl⟩
  obtain ⟨h1, g1⟩ := alloc_has hw0
  have HC : Keep (Has w0 w.heap.size d.cells 26 ∧ w.grownBy w0 none) := ⟨h1, g1⟩
  have q1 : w.alloc (.cells #[.int .i64 d.kind, .string d.nonce, .int .u64 d.epoch, .string d.cookie, .string d.name, .int .u64 d.session, .int .i64 d.player, .string d.salt, .int .u64 d.seq, .int .i64 d.thr, .int .i64 d.turn, .bool d.fire, .bool d.boost, .string d.data, .string d.tag] 26) = w0 := hw0
  have c0 : w0.cell? ⟨w.heap.size, 0, none⟩ = some (.int .i64 6) := by rw [← hk]; exact h1.cellv 0 _ rfl
  clear hw0 h1 g1
  by_cases hc : d.tag.size = 32
  · have hfit : ∀ f ∈ fieldsL d.kind, fitF d f := by
      rw [hk]
      intro f hm
      simp only [fieldsL, reduceIte, Int.reduceEq, List.mem_cons, List.not_mem_nil, or_false] at hm
      rcases hm with rfl | rfl | rfl | rfl
      · exact hf.s
      · exact hf.q
      · exact trivial
      · exact hc
    have he : enc d = if 1200 < (headL d ++ bytesF d (fieldsL d.kind)).length then ([], 72) else (headL d ++ bytesF d (fieldsL d.kind), 0) := by rw [enc_is d hf, if_neg h0, if_pos hfit]
    have HFI : Keep (∀ W, Calls Tryz.prog 40 #[.agg d.cells.toArray] W fun e w' => e = .returned (.bool true) ∧ W.grownBy w' none) := ⟨fun W => by have := hFI W; rw [decide_eq_true hc] at this; exact this⟩
    clear hFI hfit h0
    obtain ⟨X1, hX1⟩ : ∃ x, ba [(6 : UInt8)] = x := ⟨_, rfl⟩
    have hcv : ∀ W : World, (convert 39 9 (.slice (some ⟨W.heap.size, 0, none⟩) 1 1)).run Tryz.prog (W.alloc (.cells #[.int .u8 6] 5)) = .ok (.string X1) (W.alloc (.cells #[.int .u8 6] 5)) := fun W => by rw [← hX1]; exact cvt_new 6 6 rfl W
    obtain ⟨L1, hL1⟩ : ∃ x, ba (be 8 d.session) = x := ⟨_, rfl⟩
    obtain ⟨L2, hL2⟩ : ∃ x, ba (be 8 d.seq) = x := ⟨_, rfl⟩
    obtain ⟨A0, hA0⟩ : ∃ x, mgB ++ X1 = x := ⟨_, rfl⟩
    obtain ⟨A1, hA1⟩ : ∃ x, A0 ++ L1 = x := ⟨_, rfl⟩
    obtain ⟨A2, hA2⟩ : ∃ x, A1 ++ L2 = x := ⟨_, rfl⟩
    obtain ⟨A3, hA3⟩ : ∃ x, A2 ++ d.data = x := ⟨_, rfl⟩
    obtain ⟨A4, hA4⟩ : ∃ x, A3 ++ d.tag = x := ⟨_, rfl⟩
    have z0 : A0.size = 4 := by rw [← hA0, ByteArray.size_append, ← hX1]; rfl
    have zL1 : L1.size = 8 := by rw [← hL1, ba_size, be_len]
    have zL2 : L2.size = 8 := by rw [← hL2, ba_size, be_len]
    have z1 : A1.size = A0.size + L1.size := by rw [← hA1, ByteArray.size_append]
    have z2 : A2.size = A1.size + L2.size := by rw [← hA2, ByteArray.size_append]
    have z3 : A3.size = A2.size + d.data.size := by rw [← hA3, ByteArray.size_append]
    have z4 : A4.size = A3.size + d.tag.size := by rw [← hA4, ByteArray.size_append]
    have y_data := hs.dt
    have y_tag := hs.t
    have b0 : ∀ W, (Op.stringOp .add { data := #[74, 48, 49] } X1).run Tryz.prog W = .ok (.string A0) W := fun W => by rw [← hA0]; exact addS mgB X1 (by rw [← hX1]; decide) W
    have b1 : ∀ W, (Op.stringOp .add A0 L1).run Tryz.prog W = .ok (.string A1) W := fun W => by rw [← hA1]; exact addS A0 L1 (by omega) W
    have b2 : ∀ W, (Op.stringOp .add A1 L2).run Tryz.prog W = .ok (.string A2) W := fun W => by rw [← hA2]; exact addS A1 L2 (by omega) W
    have b3 : ∀ W, (Op.stringOp .add A2 d.data).run Tryz.prog W = .ok (.string A3) W := fun W => by rw [← hA3]; exact addS A2 d.data (by omega) W
    have b4 : ∀ W, (Op.stringOp .add A3 d.tag).run Tryz.prog W = .ok (.string A4) W := fun W => by rw [← hA4]; exact addS A3 d.tag (by omega) W
    have hsl : headL d ++ bytesF d (fieldsL d.kind) = sl A4 := by
      rw [← hA4, ← hA3, ← hA2, ← hA1, ← hA0, ← hL1, ← hL2, ← hX1]
      rw [sl_app, sl_app, sl_app, sl_app, sl_app, hk]
      rw [show sl (ba [(6 : UInt8)]) = [6] from sl_mk _, show sl (ba (be 8 d.session)) = be 8 d.session from sl_mk _, show sl (ba (be 8 d.seq)) = be 8 d.seq from sl_mk _]
      simp only [fieldsL, bytesF, List.map_cons, List.map_nil, List.flatten_cons, List.flatten_nil, reduceIte, Int.reduceEq, lyB, List.append_assoc, List.append_nil, headL, hk]
      rfl
    rw [hsl, sl_len] at he
    have HE := Keep.mk he
    have HA : Keep (ba (sl A4) = A4) := ⟨sl_back A4⟩
    have HR1 : Keep (∀ W, Calls Tryz.prog 41 #[.int .u64 d.session] W fun e w' => e = .returned (.string L1) ∧ W.grownBy w' none) := ⟨fun W => by rw [← hL1]; exact rlen_c d.session W hf.s⟩
    have HR2 : Keep (∀ W, Calls Tryz.prog 41 #[.int .u64 d.seq] W fun e w' => e = .returned (.string L2) ∧ W.grownBy w' none) := ⟨fun W => by rw [← hL2]; exact rlen_c d.seq W hf.q⟩
    have HZ : Keep (A4.size ≤ 9223372036854775807) := ⟨by omega⟩
    clear he hsl hX1 hL1 hL2 hA0 hA1 hA2 hA3 hA4 z0 z1 z2 z3 z4 zL1 zL2 y_data y_tag hc hf hs
    have HKK := Keep.mk hk
    clear hk
    unfold dv
    rcases Nat.lt_or_ge 1200 A4.size with hl | hl
    case' inl => have hd1 : decide ((1200 : Int) < (A4.size : Int)) = true := decide_eq_true (by omega)
    case' inr => have hd1 : decide ((1200 : Int) < (A4.size : Int)) = false := decide_eq_false (by omega)
    case' inl => have hd2 : (1200 : Int) < (A4.size : Int) := by omega
    case' inr => have hd2 : ¬ (1200 : Int) < (A4.size : Int) := by omega
    case' inl => have hex : enc d = ([], 72) := by rw [HE.out, if_pos hl]
    case' inr => have hex : enc d = (sl A4, 0) := by rw [HE.out, if_neg (by omega)]
    all_goals
      have HEX := Keep.mk hex
      clear hex HE
      go_enter Tryz.func20, Tryz.ntmps20
      go_wp2_with (refine wpList_load_mid rfl 26 _ rfl _ _ rfl d.cells _ (HC.out.1).range hdu hdr info26 ?_)
      refine (HFI.out _).mono ?_
      rintro e' w1 ⟨rfl, gn⟩
      have HC1 : Keep (Has w1 w.heap.size d.cells 26 ∧ w.grownBy w1 none) := ⟨(HC.out.1).kept gn (by simp), (HC.out.2).trans gn⟩
      clear gn
      have k0 : w1.cell? ⟨w.heap.size, 0, none⟩ = some (.int .i64 6) := by rw [← HKK.out]; exact HC1.out.1.cellv 0 _ rfl
      obtain ⟨w2, hw2⟩ : ∃ q, w1.alloc (.cells #[.int .u8 6] 5) = q := ⟨_, rfl⟩
      have HC2 : Keep (Has w2 w.heap.size d.cells 26 ∧ w.grownBy w2 none) := ⟨by rw [← hw2]; exact HC1.out.1.alloc _, by rw [← hw2]; exact HC1.out.2.trans (World.grownBy_alloc _ _ _)⟩
      have hcv1 := hcv w1
      rw [hw2] at hcv1
      have n2 : w2.cell? ⟨w.heap.size, 1, none⟩ = some (.string d.nonce) := HC2.out.1.cellv 1 _ rfl
      have k2 : w2.cell? ⟨w.heap.size, 0, none⟩ = some (.int .i64 6) := by rw [← HKK.out]; exact HC2.out.1.cellv 0 _ rfl
      go_wp2_with fail
      clear hcv1 hw2 k0 c0 q1 HC1
      have HH : Keep (Has w2.drew w.heap.size d.cells 26 ∧ w.grownBy w2.drew none) := ⟨HC2.out.1.kept (gr_drew _ none) (by simp), HC2.out.2.trans (gr_drew _ _)⟩
      refine wp_region_held_drew (S := fun w' => Has w' w.heap.size d.cells 26 ∧ w.grownBy w' none) (by kernel_rfl) HH.out (fun hHeld => ?_)
      refine wpAnyH_take (i := 0) (oi := _) (v := ?_) rfl (by kernel_rfl) (by kernel_rfl) (by kernel_rfl) (fun _ _ _ h => h) (Or.inl ⟨by rfl, ?_⟩) (by assumption) ?_
      rotate_left
      · (intro w hSw; go_simp; first | done | (with_reducible rfl))
      simp only [Act.put, List.getElem_toArray, List.getElem_cons_zero, List.setIfInBounds_toArray, List.set_cons_zero, List.set_cons_succ]
      refine wpAnyH_take (i := 1) (oi := _) (v := ?_) rfl (by kernel_rfl) (by kernel_rfl) (by kernel_rfl) (fun _ _ _ h => h) (Or.inl ⟨by rfl, ?_⟩) (by assumption) ?_
      rotate_left
      · (intro w hSw; go_simp; first | done | (with_reducible rfl))
      simp only [Act.put, List.getElem_toArray, List.getElem_cons_succ, List.getElem_cons_zero, List.setIfInBounds_toArray, List.set_cons_zero, List.set_cons_succ]
      refine wpAnyH_take (i := 2) (oi := _) (v := ?_) rfl (by kernel_rfl) (by kernel_rfl) (by kernel_rfl) (fun _ _ _ h => h) (Or.inl ⟨by rfl, ?_⟩) (by assumption) ?_
      rotate_left
      · (intro w hSw; have x1 := hSw.1.cellv 5 _ rfl; clear hSw; go_simp; first | done | (with_reducible rfl))
      simp only [Act.put, List.getElem_toArray, List.getElem_cons_succ, List.getElem_cons_zero, List.setIfInBounds_toArray, List.set_cons_zero, List.set_cons_succ]
      refine wpAnyH_take (i := 5) (oi := _) (v := ?_) rfl (by kernel_rfl) (by kernel_rfl) (by kernel_rfl) (fun _ _ _ h => h) (Or.inl ⟨by rfl, ?_⟩) (by assumption) ?_
      rotate_left
      · (intro w hSw; go_simp; first | done | (with_reducible rfl))
      simp only [Act.put, List.getElem_toArray, List.getElem_cons_succ, List.getElem_cons_zero, List.setIfInBounds_toArray, List.set_cons_zero, List.set_cons_succ]
      refine wpAnyH_take (i := 6) (oi := _) (v := ?_) rfl (by kernel_rfl) (by kernel_rfl) (by kernel_rfl) (fun _ _ _ h => h) (Or.inl ⟨by rfl, ?_⟩) (by assumption) ?_
      rotate_left
      · (intro w hSw; have x1 := hSw.1.cellv 8 _ rfl; clear hSw; go_simp; first | done | (with_reducible rfl))
      simp only [Act.put, List.getElem_toArray, List.getElem_cons_succ, List.getElem_cons_zero, List.setIfInBounds_toArray, List.set_cons_zero, List.set_cons_succ]
      refine wpAnyH_ready (rs := [3]) (by kernel_rfl) (by simp) ?_
      refine AllReadyH.cons rfl (fun K hK => ?_) AllReadyH.nil
      go_simp
      refine (HR1.out _).mono ?_
      rintro e' w3 ⟨rfl, gn⟩
      have HS1 : Keep (Has w3 w.heap.size d.cells 26 ∧ w.grownBy w3 none) := ⟨HH.out.1.kept gn (by simp), HH.out.2.trans gn⟩
      clear gn
      refine hK.out _ _ HS1.out (fun hHeld => ?_)
      clear hK K
      refine wpAnyH_take (i := 4) (oi := _) (v := ?_) rfl (by kernel_rfl) (by kernel_rfl) (by kernel_rfl) (fun _ _ _ h => h) (Or.inl ⟨by rfl, ?_⟩) (by assumption) ?_
      rotate_left
      · (intro w hSw; go_simp; first | done | (with_reducible rfl))
      simp only [Act.put, List.getElem_toArray, List.getElem_cons_succ, List.getElem_cons_zero, List.setIfInBounds_toArray, List.set_cons_zero, List.set_cons_succ]
      refine wpAnyH_ready (rs := [7]) (by kernel_rfl) (by simp) ?_
      refine AllReadyH.cons rfl (fun K hK => ?_) AllReadyH.nil
      go_simp
      refine (HR2.out _).mono ?_
      rintro e' w4 ⟨rfl, gn⟩
      have HS2 : Keep (Has w4 w.heap.size d.cells 26 ∧ w.grownBy w4 none) := ⟨HS1.out.1.kept gn (by simp), HS1.out.2.trans gn⟩
      clear gn
      refine hK.out _ _ HS2.out (fun hHeld => ?_)
      clear hK K
      refine wpAnyH_take (i := 8) (oi := _) (v := ?_) rfl (by kernel_rfl) (by kernel_rfl) (by kernel_rfl) (fun _ _ _ h => h) (Or.inl ⟨by rfl, ?_⟩) (by assumption) ?_
      rotate_left
      · (intro w hSw; go_simp; first | done | (with_reducible rfl))
      simp only [Act.put, List.getElem_toArray, List.getElem_cons_succ, List.getElem_cons_zero, List.setIfInBounds_toArray, List.set_cons_zero, List.set_cons_succ]
      refine wpAnyH_take (i := 9) (oi := _) (v := ?_) rfl (by kernel_rfl) (by kernel_rfl) (by kernel_rfl) (fun _ _ _ h => h) (Or.inl ⟨by rfl, ?_⟩) (by assumption) ?_
      rotate_left
      · (intro w hSw; go_simp; first | done | (with_reducible rfl))
      simp only [Act.put, List.getElem_toArray, List.getElem_cons_succ, List.getElem_cons_zero, List.setIfInBounds_toArray, List.set_cons_zero, List.set_cons_succ]
      refine wpAnyH_done (by kernel_rfl) ?_ _
      have k5 : w4.cell? ⟨w.heap.size, 0, none⟩ = some (.int .i64 6) := by rw [← HKK.out]; exact HS2.out.1.cellv 0 _ rfl
      have t5 : w4.cell? ⟨w.heap.size, 14, none⟩ = some (.string d.tag) := HS2.out.1.cellv 14 _ rfl
      have t6 : w4.cell? ⟨w.heap.size, 13, none⟩ = some (.string d.data) := HS2.out.1.cellv 13 _ rfl
      go_wp2_with fail
      go_ret2
      rw [HEX.out]
      first
        | exact ⟨rfl, HS2.out.2⟩
        | (rw [HA.out]; exact ⟨rfl, HS2.out.2⟩)
  · have he : enc d = ([], 73) := by
      rw [enc_is d hf, if_neg h0, if_neg (fun q => hc (by rw [hk] at q; exact q .tag (by simp [fieldsL])))]
    have HFI : Keep (∀ W, Calls Tryz.prog 40 #[.agg d.cells.toArray] W fun e w' => e = .returned (.bool false) ∧ W.grownBy w' none) := ⟨fun W => by have := hFI W; rw [decide_eq_false hc] at this; exact this⟩
    rw [he]
    have HKK := Keep.mk hk
    clear hFI he h0 hc hk hf hs
    unfold dv
    go_enter Tryz.func20, Tryz.ntmps20
    go_wp2_with (refine wpList_load_mid rfl 26 _ rfl _ _ rfl d.cells _ (HC.out.1).range hdu hdr info26 ?_)
    refine (HFI.out _).mono ?_
    rintro e' w1 ⟨rfl, gn⟩
    have HG : Keep (w.grownBy w1 none) := ⟨HC.out.2.trans gn⟩
    clear gn
    go_wp2_with fail
    go_ret2
    exact ⟨rfl, HG.out⟩
set_option maxHeartbeats 16000000 in
set_option maxRecDepth 100000 in
theorem renc_7 (d : Dg) (hf : d.fine) (hs : d.small) (w : World) (hk : d.kind = 7) :
    Calls Tryz.prog 20 #[dv d] w fun e w' => e = .returned (.tuple #[.string (ba (enc d).1), .int .i64 (enc d).2]) ∧ w.grownBy w' none := by
  obtain ⟨du, hdu, hdr⟩ := under26
  have h0 : ¬ fieldsL d.kind = [] := fieldsL_some (by omega)
  have hFI := fun W => rfits_7 d W hk
  obtain ⟨w0, hw0⟩ : ∃ q, w.alloc (.cells d.cells.toArray 26) = q := ⟨_, rfl⟩
  obtain ⟨h1, g1⟩ := alloc_has hw0
  have HC : Keep (Has w0 w.heap.size d.cells 26 ∧ w.grownBy w0 none) := ⟨h1, g1⟩
  have q1 : w.alloc (.cells #[.int .i64 d.kind, .string d.nonce, .int .u64 d.epoch, .string d.cookie, .string d.name, .int .u64 d.session, .int .i64 d.player, .string d.salt, .int .u64 d.seq, .int .i64 d.thr, .int .i64 d.turn, .bool d.fire, .bool d.boost, .string d.data, .string d.tag] 26) = w0 := hw0
  have c0 : w0.cell? ⟨w.heap.size, 0, none⟩ = some (.int .i64 7) := by rw [← hk]; exact h1.cellv 0 _ rfl
  clear hw0 h1 g1
  by_cases hc : d.tag.size = 32
  · have hfit : ∀ f ∈ fieldsL d.kind, fitF d f := by
      rw [hk]
      intro f hm
      simp only [fieldsL, reduceIte, Int.reduceEq, List.mem_cons, List.not_mem_nil, or_false] at hm
      rcases hm with rfl | rfl | rfl
      · exact hf.s
      · exact hf.q
      · exact hc
    have he : enc d = if 1200 < (headL d ++ bytesF d (fieldsL d.kind)).length then ([], 72) else (headL d ++ bytesF d (fieldsL d.kind), 0) := by rw [enc_is d hf, if_neg h0, if_pos hfit]
    have HFI : Keep (∀ W, Calls Tryz.prog 40 #[.agg d.cells.toArray] W fun e w' => e = .returned (.bool true) ∧ W.grownBy w' none) := ⟨fun W => by have := hFI W; rw [decide_eq_true hc] at this; exact this⟩
    clear hFI hfit h0
    obtain ⟨X1, hX1⟩ : ∃ x, ba [(7 : UInt8)] = x := ⟨_, rfl⟩
    have hcv : ∀ W : World, (convert 39 9 (.slice (some ⟨W.heap.size, 0, none⟩) 1 1)).run Tryz.prog (W.alloc (.cells #[.int .u8 7] 5)) = .ok (.string X1) (W.alloc (.cells #[.int .u8 7] 5)) := fun W => by rw [← hX1]; exact cvt_new 7 7 rfl W
    obtain ⟨L1, hL1⟩ : ∃ x, ba (be 8 d.session) = x := ⟨_, rfl⟩
    obtain ⟨L2, hL2⟩ : ∃ x, ba (be 8 d.seq) = x := ⟨_, rfl⟩
    obtain ⟨A0, hA0⟩ : ∃ x, mgB ++ X1 = x := ⟨_, rfl⟩
    obtain ⟨A1, hA1⟩ : ∃ x, A0 ++ L1 = x := ⟨_, rfl⟩
    obtain ⟨A2, hA2⟩ : ∃ x, A1 ++ L2 = x := ⟨_, rfl⟩
    obtain ⟨A3, hA3⟩ : ∃ x, A2 ++ d.tag = x := ⟨_, rfl⟩
    have z0 : A0.size = 4 := by rw [← hA0, ByteArray.size_append, ← hX1]; rfl
    have zL1 : L1.size = 8 := by rw [← hL1, ba_size, be_len]
    have zL2 : L2.size = 8 := by rw [← hL2, ba_size, be_len]
    have z1 : A1.size = A0.size + L1.size := by rw [← hA1, ByteArray.size_append]
    have z2 : A2.size = A1.size + L2.size := by rw [← hA2, ByteArray.size_append]
    have z3 : A3.size = A2.size + d.tag.size := by rw [← hA3, ByteArray.size_append]
    have y_tag := hs.t
    have b0 : ∀ W, (Op.stringOp .add { data := #[74, 48, 49] } X1).run Tryz.prog W = .ok (.string A0) W := fun W => by rw [← hA0]; exact addS mgB X1 (by rw [← hX1]; decide) W
    have b1 : ∀ W, (Op.stringOp .add A0 L1).run Tryz.prog W = .ok (.string A1) W := fun W => by rw [← hA1]; exact addS A0 L1 (by omega) W
    have b2 : ∀ W, (Op.stringOp .add A1 L2).run Tryz.prog W = .ok (.string A2) W := fun W => by rw [← hA2]; exact addS A1 L2 (by omega) W
    have b3 : ∀ W, (Op.stringOp .add A2 d.tag).run Tryz.prog W = .ok (.string A3) W := fun W => by rw [← hA3]; exact addS A2 d.tag (by omega) W
    have hsl : headL d ++ bytesF d (fieldsL d.kind) = sl A3 := by
      rw [← hA3, ← hA2, ← hA1, ← hA0, ← hL1, ← hL2, ← hX1]
      rw [sl_app, sl_app, sl_app, sl_app, hk]
      rw [show sl (ba [(7 : UInt8)]) = [7] from sl_mk _, show sl (ba (be 8 d.session)) = be 8 d.session from sl_mk _, show sl (ba (be 8 d.seq)) = be 8 d.seq from sl_mk _]
      simp only [fieldsL, bytesF, List.map_cons, List.map_nil, List.flatten_cons, List.flatten_nil, reduceIte, Int.reduceEq, lyB, List.append_assoc, List.append_nil, headL, hk]
      rfl
    rw [hsl, sl_len] at he
    have HE := Keep.mk he
    have HA : Keep (ba (sl A3) = A3) := ⟨sl_back A3⟩
    have HR1 : Keep (∀ W, Calls Tryz.prog 41 #[.int .u64 d.session] W fun e w' => e = .returned (.string L1) ∧ W.grownBy w' none) := ⟨fun W => by rw [← hL1]; exact rlen_c d.session W hf.s⟩
    have HR2 : Keep (∀ W, Calls Tryz.prog 41 #[.int .u64 d.seq] W fun e w' => e = .returned (.string L2) ∧ W.grownBy w' none) := ⟨fun W => by rw [← hL2]; exact rlen_c d.seq W hf.q⟩
    have HZ : Keep (A3.size ≤ 9223372036854775807) := ⟨by omega⟩
    clear he hsl hX1 hL1 hL2 hA0 hA1 hA2 hA3 z0 z1 z2 z3 zL1 zL2 y_tag hc hf hs
    have HKK := Keep.mk hk
    clear hk
    unfold dv
    rcases Nat.lt_or_ge 1200 A3.size with hl | hl
    case' inl => have hd1 : decide ((1200 : Int) < (A3.size : Int)) = true := decide_eq_true (by omega)
    case' inr => have hd1 : decide ((1200 : Int) < (A3.size : Int)) = false := decide_eq_false (by omega)
    case' inl => have hd2 : (1200 : Int) < (A3.size : Int) := by omega
    case' inr => have hd2 : ¬ (1200 : Int) < (A3.size : Int) := by omega
    case' inl => have hex : enc d = ([], 72) := by rw [HE.out, if_pos hl]
    case' inr => have hex : enc d = (sl A3, 0) := by rw [HE.out, if_neg (by omega)]
    all_goals
      have HEX := Keep.mk hex
      clear hex HE
      go_enter Tryz.func20, Tryz.ntmps20
      go_wp2_with (refine wpList_load_mid rfl 26 _ rfl _ _ rfl d.cells _ (HC.out.1).range hdu hdr info26 ?_)
      refine (HFI.out _).mono ?_
      rintro e' w1 ⟨rfl, gn⟩
      have HC1 : Keep (Has w1 w.heap.size d.cells 26 ∧ w.grownBy w1 none) := ⟨(HC.out.1).kept gn (by simp), (HC.out.2).trans gn⟩
      clear gn
      have k0 : w1.cell? ⟨w.heap.size, 0, none⟩ = some (.int .i64 7) := by rw [← HKK.out]; exact HC1.out.1.cellv 0 _ rfl
      obtain ⟨w2, hw2⟩ : ∃ q, w1.alloc (.cells #[.int .u8 7] 5) = q := ⟨_, rfl⟩
      have HC2 : Keep (Has w2 w.heap.size d.cells 26 ∧ w.grownBy w2 none) := ⟨by rw [← hw2]; exact HC1.out.1.alloc _, by rw [← hw2]; exact HC1.out.2.trans (World.grownBy_alloc _ _ _)⟩
      have hcv1 := hcv w1
      rw [hw2] at hcv1
      have n2 : w2.cell? ⟨w.heap.size, 1, none⟩ = some (.string d.nonce) := HC2.out.1.cellv 1 _ rfl
      have k2 : w2.cell? ⟨w.heap.size, 0, none⟩ = some (.int .i64 7) := by rw [← HKK.out]; exact HC2.out.1.cellv 0 _ rfl
      go_wp2_with fail
      clear hcv1 hw2 k0 c0 q1 HC1
      have HH : Keep (Has w2.drew w.heap.size d.cells 26 ∧ w.grownBy w2.drew none) := ⟨HC2.out.1.kept (gr_drew _ none) (by simp), HC2.out.2.trans (gr_drew _ _)⟩
      refine wp_region_held_drew (S := fun w' => Has w' w.heap.size d.cells 26 ∧ w.grownBy w' none) (by kernel_rfl) HH.out (fun hHeld => ?_)
      refine wpAnyH_take (i := 0) (oi := _) (v := ?_) rfl (by kernel_rfl) (by kernel_rfl) (by kernel_rfl) (fun _ _ _ h => h) (Or.inl ⟨by rfl, ?_⟩) (by assumption) ?_
      rotate_left
      · (intro w hSw; go_simp; first | done | (with_reducible rfl))
      simp only [Act.put, List.getElem_toArray, List.getElem_cons_zero, List.setIfInBounds_toArray, List.set_cons_zero, List.set_cons_succ]
      refine wpAnyH_take (i := 1) (oi := _) (v := ?_) rfl (by kernel_rfl) (by kernel_rfl) (by kernel_rfl) (fun _ _ _ h => h) (Or.inl ⟨by rfl, ?_⟩) (by assumption) ?_
      rotate_left
      · (intro w hSw; go_simp; first | done | (with_reducible rfl))
      simp only [Act.put, List.getElem_toArray, List.getElem_cons_succ, List.getElem_cons_zero, List.setIfInBounds_toArray, List.set_cons_zero, List.set_cons_succ]
      refine wpAnyH_take (i := 2) (oi := _) (v := ?_) rfl (by kernel_rfl) (by kernel_rfl) (by kernel_rfl) (fun _ _ _ h => h) (Or.inl ⟨by rfl, ?_⟩) (by assumption) ?_
      rotate_left
      · (intro w hSw; have x1 := hSw.1.cellv 5 _ rfl; clear hSw; go_simp; first | done | (with_reducible rfl))
      simp only [Act.put, List.getElem_toArray, List.getElem_cons_succ, List.getElem_cons_zero, List.setIfInBounds_toArray, List.set_cons_zero, List.set_cons_succ]
      refine wpAnyH_take (i := 5) (oi := _) (v := ?_) rfl (by kernel_rfl) (by kernel_rfl) (by kernel_rfl) (fun _ _ _ h => h) (Or.inl ⟨by rfl, ?_⟩) (by assumption) ?_
      rotate_left
      · (intro w hSw; go_simp; first | done | (with_reducible rfl))
      simp only [Act.put, List.getElem_toArray, List.getElem_cons_succ, List.getElem_cons_zero, List.setIfInBounds_toArray, List.set_cons_zero, List.set_cons_succ]
      refine wpAnyH_take (i := 6) (oi := _) (v := ?_) rfl (by kernel_rfl) (by kernel_rfl) (by kernel_rfl) (fun _ _ _ h => h) (Or.inl ⟨by rfl, ?_⟩) (by assumption) ?_
      rotate_left
      · (intro w hSw; have x1 := hSw.1.cellv 8 _ rfl; clear hSw; go_simp; first | done | (with_reducible rfl))
      simp only [Act.put, List.getElem_toArray, List.getElem_cons_succ, List.getElem_cons_zero, List.setIfInBounds_toArray, List.set_cons_zero, List.set_cons_succ]
      refine wpAnyH_ready (rs := [3]) (by kernel_rfl) (by simp) ?_
      refine AllReadyH.cons rfl (fun K hK => ?_) AllReadyH.nil
      go_simp
      refine (HR1.out _).mono ?_
      rintro e' w3 ⟨rfl, gn⟩
      have HS1 : Keep (Has w3 w.heap.size d.cells 26 ∧ w.grownBy w3 none) := ⟨HH.out.1.kept gn (by simp), HH.out.2.trans gn⟩
      clear gn
      refine hK.out _ _ HS1.out (fun hHeld => ?_)
      clear hK K
      refine wpAnyH_take (i := 4) (oi := _) (v := ?_) rfl (by kernel_rfl) (by kernel_rfl) (by kernel_rfl) (fun _ _ _ h => h) (Or.inl ⟨by rfl, ?_⟩) (by assumption) ?_
      rotate_left
      · (intro w hSw; go_simp; first | done | (with_reducible rfl))
      simp only [Act.put, List.getElem_toArray, List.getElem_cons_succ, List.getElem_cons_zero, List.setIfInBounds_toArray, List.set_cons_zero, List.set_cons_succ]
      refine wpAnyH_ready (rs := [7]) (by kernel_rfl) (by simp) ?_
      refine AllReadyH.cons rfl (fun K hK => ?_) AllReadyH.nil
      go_simp
      refine (HR2.out _).mono ?_
      rintro e' w4 ⟨rfl, gn⟩
      have HS2 : Keep (Has w4 w.heap.size d.cells 26 ∧ w.grownBy w4 none) := ⟨HS1.out.1.kept gn (by simp), HS1.out.2.trans gn⟩
      clear gn
      refine hK.out _ _ HS2.out (fun hHeld => ?_)
      clear hK K
      refine wpAnyH_take (i := 8) (oi := _) (v := ?_) rfl (by kernel_rfl) (by kernel_rfl) (by kernel_rfl) (fun _ _ _ h => h) (Or.inl ⟨by rfl, ?_⟩) (by assumption) ?_
      rotate_left
      · (intro w hSw; go_simp; first | done | (with_reducible rfl))
      simp only [Act.put, List.getElem_toArray, List.getElem_cons_succ, List.getElem_cons_zero, List.setIfInBounds_toArray, List.set_cons_zero, List.set_cons_succ]
      refine wpAnyH_take (i := 9) (oi := _) (v := ?_) rfl (by kernel_rfl) (by kernel_rfl) (by kernel_rfl) (fun _ _ _ h => h) (Or.inl ⟨by rfl, ?_⟩) (by assumption) ?_
      rotate_left
      · (intro w hSw; go_simp; first | done | (with_reducible rfl))
      simp only [Act.put, List.getElem_toArray, List.getElem_cons_succ, List.getElem_cons_zero, List.setIfInBounds_toArray, List.set_cons_zero, List.set_cons_succ]
      refine wpAnyH_done (by kernel_rfl) ?_ _
      have k5 : w4.cell? ⟨w.heap.size, 0, none⟩ = some (.int .i64 7) := by rw [← HKK.out]; exact HS2.out.1.cellv 0 _ rfl
      have t5 : w4.cell? ⟨w.heap.size, 14, none⟩ = some (.string d.tag) := HS2.out.1.cellv 14 _ rfl
      have t6 : w4.cell? ⟨w.heap.size, 13, none⟩ = some (.string d.data) := HS2.out.1.cellv 13 _ rfl
      go_wp2_with fail
      go_ret2
      rw [HEX.out]
      first
        | exact ⟨rfl, HS2.out.2⟩
        | (rw [HA.out]; exact ⟨rfl, HS2.out.2⟩)
  · have he : enc d = ([], 73) := by
      rw [enc_is d hf, if_neg h0, if_neg (fun q => hc (by rw [hk] at q; exact q .tag (by simp [fieldsL])))]
    have HFI : Keep (∀ W, Calls Tryz.prog 40 #[.agg d.cells.toArray] W fun e w' => e = .returned (.bool false) ∧ W.grownBy w' none) := ⟨fun W => by have := hFI W; rw [decide_eq_false hc] at this; exact this⟩
    rw [he]
    have HKK := Keep.mk hk
    clear hFI he h0 hc hk hf hs
    unfold dv
    go_enter Tryz.func20, Tryz.ntmps20
    go_wp2_with (refine wpList_load_mid rfl 26 _ rfl _ _ rfl d.cells _ (HC.out.1).range hdu hdr info26 ?_)
    refine (HFI.out _).mono ?_
    rintro e' w1 ⟨rfl, gn⟩
    have HG : Keep (w.grownBy w1 none) := ⟨HC.out.2.trans gn⟩
    clear gn
    go_wp2_with fail
    go_ret2
    exact ⟨rfl, HG.out⟩
end Go.Proofs.YtiphnlfbgbemfaaGreatDoor.Pk

/- the reference's Encode -/
namespace Go.Proofs.YtiphnlfbgbemfaaGreatDoor.Pk
open Go Go.RowKit
set_option maxHeartbeats 16000000 in
set_option maxRecDepth 100000 in
theorem renc_2 (d : Dg) (hf : d.fine) (hs : d.small) (w : World) (hk : d.kind = 2) :
    Calls Tryz.prog 20 #[dv d] w fun e w' => e = .returned (.tuple #[.string (ba (enc d).1), .int .i64 (enc d).2]) ∧ w.grownBy w' none := by
  obtain ⟨du, hdu, hdr⟩ := under26
  have h0 : ¬ fieldsL d.kind = [] := fieldsL_some (by omega)
  have hFI := fun W => rfits_2 d W hk
  obtain ⟨w0, hw0⟩ : ∃ q, w.alloc (.cells d.cells.toArray 26) = q := ⟨_, rfl⟩
  obtain ⟨h1, g1⟩ := alloc_has hw0
  have HC : Keep (Has w0 w.heap.size d.cells 26 ∧ w.grownBy w0 none) := ⟨h1, g1⟩
  have q1 : w.alloc (.cells #[.int .i64 d.kind, .string d.nonce, .int .u64 d.epoch, .string d.cookie, .string d.name, .int .u64 d.session, .int .i64 d.player, .string d.salt, .int .u64 d.seq, .int .i64 d.thr, .int .i64 d.turn, .bool d.fire, .bool d.boost, .string d.data, .string d.tag] 26) = w0 := hw0
  have c0 : w0.cell? ⟨w.heap.size, 0, none⟩ = some (.int .i64 2) := by rw [← hk]; exact h1.cellv 0 _ rfl
  clear hw0 h1 g1
  by_cases hc : d.nonce.size = 16 ∧ d.cookie.size = 32
  · have hfit : ∀ f ∈ fieldsL d.kind, fitF d f := by
      rw [hk]
      intro f hm
      simp only [fieldsL, reduceIte, Int.reduceEq, List.mem_cons, List.not_mem_nil, or_false] at hm
      rcases hm with rfl | rfl | rfl
      · exact hc.1
      · exact hf.e
      · exact hc.2
    have he : enc d = if 1200 < (headL d ++ bytesF d (fieldsL d.kind)).length then ([], 72) else (headL d ++ bytesF d (fieldsL d.kind), 0) := by rw [enc_is d hf, if_neg h0, if_pos hfit]
    have HFI : Keep (∀ W, Calls Tryz.prog 40 #[.agg d.cells.toArray] W fun e w' => e = .returned (.bool true) ∧ W.grownBy w' none) := ⟨fun W => by have := hFI W; rw [decide_eq_true hc] at this; exact this⟩
    clear hFI hfit h0
    obtain ⟨X1, hX1⟩ : ∃ x, ba [(2 : UInt8)] = x := ⟨_, rfl⟩
    have hcv : ∀ W : World, (convert 39 9 (.slice (some ⟨W.heap.size, 0, none⟩) 1 1)).run Tryz.prog (W.alloc (.cells #[.int .u8 2] 5)) = .ok (.string X1) (W.alloc (.cells #[.int .u8 2] 5)) := fun W => by rw [← hX1]; exact cvt_new 2 2 rfl W
    obtain ⟨L1, hL1⟩ : ∃ x, ba (be 8 d.epoch) = x := ⟨_, rfl⟩
    obtain ⟨A0, hA0⟩ : ∃ x, mgB ++ X1 = x := ⟨_, rfl⟩
    obtain ⟨A1, hA1⟩ : ∃ x, A0 ++ d.nonce = x := ⟨_, rfl⟩
    obtain ⟨A2, hA2⟩ : ∃ x, A1 ++ L1 = x := ⟨_, rfl⟩
    obtain ⟨A3, hA3⟩ : ∃ x, A2 ++ d.cookie = x := ⟨_, rfl⟩
    have z0 : A0.size = 4 := by rw [← hA0, ByteArray.size_append, ← hX1]; rfl
    have zL1 : L1.size = 8 := by rw [← hL1, ba_size, be_len]
    have z1 : A1.size = A0.size + d.nonce.size := by rw [← hA1, ByteArray.size_append]
    have z2 : A2.size = A1.size + L1.size := by rw [← hA2, ByteArray.size_append]
    have z3 : A3.size = A2.size + d.cookie.size := by rw [← hA3, ByteArray.size_append]
    have y_nonce := hs.n
    have y_cookie := hs.c
    have b0 : ∀ W, (Op.stringOp .add { data := #[74, 48, 49] } X1).run Tryz.prog W = .ok (.string A0) W := fun W => by rw [← hA0]; exact addS mgB X1 (by rw [← hX1]; decide) W
    have b1 : ∀ W, (Op.stringOp .add A0 d.nonce).run Tryz.prog W = .ok (.string A1) W := fun W => by rw [← hA1]; exact addS A0 d.nonce (by omega) W
    have b2 : ∀ W, (Op.stringOp .add A1 L1).run Tryz.prog W = .ok (.string A2) W := fun W => by rw [← hA2]; exact addS A1 L1 (by omega) W
    have b3 : ∀ W, (Op.stringOp .add A2 d.cookie).run Tryz.prog W = .ok (.string A3) W := fun W => by rw [← hA3]; exact addS A2 d.cookie (by omega) W
    have hsl : headL d ++ bytesF d (fieldsL d.kind) = sl A3 := by
      rw [← hA3, ← hA2, ← hA1, ← hA0, ← hL1, ← hX1]
      rw [sl_app, sl_app, sl_app, sl_app, hk]
      rw [show sl (ba [(2 : UInt8)]) = [2] from sl_mk _, show sl (ba (be 8 d.epoch)) = be 8 d.epoch from sl_mk _]
      simp only [fieldsL, bytesF, List.map_cons, List.map_nil, List.flatten_cons, List.flatten_nil, reduceIte, Int.reduceEq, lyB, List.append_assoc, List.append_nil, headL, hk]
      rfl
    rw [hsl, sl_len] at he
    have HE := Keep.mk he
    have HA : Keep (ba (sl A3) = A3) := ⟨sl_back A3⟩
    have HR1 : Keep (∀ W, Calls Tryz.prog 41 #[.int .u64 d.epoch] W fun e w' => e = .returned (.string L1) ∧ W.grownBy w' none) := ⟨fun W => by rw [← hL1]; exact rlen_c d.epoch W hf.e⟩
    have HZ : Keep (A3.size ≤ 9223372036854775807) := ⟨by omega⟩
    clear he hsl hX1 hL1 hA0 hA1 hA2 hA3 z0 z1 z2 z3 zL1 y_nonce y_cookie hc hf hs
    have HKK := Keep.mk hk
    clear hk
    unfold dv
    rcases Nat.lt_or_ge 1200 A3.size with hl | hl
    case' inl => have hd1 : decide ((1200 : Int) < (A3.size : Int)) = true := decide_eq_true (by omega)
    case' inr => have hd1 : decide ((1200 : Int) < (A3.size : Int)) = false := decide_eq_false (by omega)
    case' inl => have hd2 : (1200 : Int) < (A3.size : Int) := by omega
    case' inr => have hd2 : ¬ (1200 : Int) < (A3.size : Int) := by omega
    case' inl => have hex : enc d = ([], 72) := by rw [HE.out, if_pos hl]
    case' inr => have hex : enc d = (sl A3, 0) := by rw [HE.out, if_neg (by omega)]
    all_goals
      have HEX := Keep.mk hex
      clear hex HE
      go_enter Tryz.func20, Tryz.ntmps20
      go_wp2_with (refine wpList_load_mid rfl 26 _ rfl _ _ rfl d.cells _ (HC.out.1).range hdu hdr info26 ?_)
      refine (HFI.out _).mono ?_
      rintro e' w1 ⟨rfl, gn⟩
      have HC1 : Keep (Has w1 w.heap.size d.cells 26 ∧ w.grownBy w1 none) := ⟨(HC.out.1).kept gn (by simp), (HC.out.2).trans gn⟩
      clear gn
      have k0 : w1.cell? ⟨w.heap.size, 0, none⟩ = some (.int .i64 2) := by rw [← HKK.out]; exact HC1.out.1.cellv 0 _ rfl
      obtain ⟨w2, hw2⟩ : ∃ q, w1.alloc (.cells #[.int .u8 2] 5) = q := ⟨_, rfl⟩
      have HC2 : Keep (Has w2 w.heap.size d.cells 26 ∧ w.grownBy w2 none) := ⟨by rw [← hw2]; exact HC1.out.1.alloc _, by rw [← hw2]; exact HC1.out.2.trans (World.grownBy_alloc _ _ _)⟩
      have hcv1 := hcv w1
      rw [hw2] at hcv1
      have n2 : w2.cell? ⟨w.heap.size, 1, none⟩ = some (.string d.nonce) := HC2.out.1.cellv 1 _ rfl
      have k2 : w2.cell? ⟨w.heap.size, 0, none⟩ = some (.int .i64 2) := by rw [← HKK.out]; exact HC2.out.1.cellv 0 _ rfl
      go_wp2_with fail
      clear hcv1 hw2 k0 c0 q1 HC1
      have HH : Keep (Has w2.drew w.heap.size d.cells 26 ∧ w.grownBy w2.drew none) := ⟨HC2.out.1.kept (gr_drew _ none) (by simp), HC2.out.2.trans (gr_drew _ _)⟩
      refine wp_region_held_drew (S := fun w' => Has w' w.heap.size d.cells 26 ∧ w.grownBy w' none) (by kernel_rfl) HH.out (fun hHeld => ?_)
      refine wpAnyH_take (i := 0) (oi := _) (v := ?_) rfl (by kernel_rfl) (by kernel_rfl) (by kernel_rfl) (fun _ _ _ h => h) (Or.inl ⟨by rfl, ?_⟩) (by assumption) ?_
      rotate_left
      · (intro w hSw; go_simp; first | done | (with_reducible rfl))
      simp only [Act.put, List.getElem_toArray, List.getElem_cons_zero, List.setIfInBounds_toArray, List.set_cons_zero, List.set_cons_succ]
      refine wpAnyH_take (i := 1) (oi := _) (v := ?_) rfl (by kernel_rfl) (by kernel_rfl) (by kernel_rfl) (fun _ _ _ h => h) (Or.inl ⟨by rfl, ?_⟩) (by assumption) ?_
      rotate_left
      · (intro w hSw; go_simp; first | done | (with_reducible rfl))
      simp only [Act.put, List.getElem_toArray, List.getElem_cons_succ, List.getElem_cons_zero, List.setIfInBounds_toArray, List.set_cons_zero, List.set_cons_succ]
      refine wpAnyH_take (i := 2) (oi := _) (v := ?_) rfl (by kernel_rfl) (by kernel_rfl) (by kernel_rfl) (fun _ _ _ h => h) (Or.inl ⟨by rfl, ?_⟩) (by assumption) ?_
      rotate_left
      · (intro w hSw; have x1 := hSw.1.cellv 2 _ rfl; clear hSw; go_simp; first | done | (with_reducible rfl))
      simp only [Act.put, List.getElem_toArray, List.getElem_cons_succ, List.getElem_cons_zero, List.setIfInBounds_toArray, List.set_cons_zero, List.set_cons_succ]
      refine wpAnyH_take (i := 5) (oi := _) (v := ?_) rfl (by kernel_rfl) (by kernel_rfl) (by kernel_rfl) (fun _ _ _ h => h) (Or.inl ⟨by rfl, ?_⟩) (by assumption) ?_
      rotate_left
      · (intro w hSw; go_simp; first | done | (with_reducible rfl))
      simp only [Act.put, List.getElem_toArray, List.getElem_cons_succ, List.getElem_cons_zero, List.setIfInBounds_toArray, List.set_cons_zero, List.set_cons_succ]
      refine wpAnyH_take (i := 6) (oi := _) (v := ?_) rfl (by kernel_rfl) (by kernel_rfl) (by kernel_rfl) (fun _ _ _ h => h) (Or.inl ⟨by rfl, ?_⟩) (by assumption) ?_
      rotate_left
      · (intro w hSw; have x1 := hSw.1.cellv 3 _ rfl; clear hSw; go_simp; first | done | (with_reducible rfl))
      simp only [Act.put, List.getElem_toArray, List.getElem_cons_succ, List.getElem_cons_zero, List.setIfInBounds_toArray, List.set_cons_zero, List.set_cons_succ]
      refine wpAnyH_ready (rs := [3]) (by kernel_rfl) (by simp) ?_
      refine AllReadyH.cons rfl (fun K hK => ?_) AllReadyH.nil
      go_simp
      refine (HR1.out _).mono ?_
      rintro e' w4 ⟨rfl, gn⟩
      have HS2 : Keep (Has w4 w.heap.size d.cells 26 ∧ w.grownBy w4 none) := ⟨HH.out.1.kept gn (by simp), HH.out.2.trans gn⟩
      clear gn
      refine hK.out _ _ HS2.out (fun hHeld => ?_)
      clear hK K
      refine wpAnyH_take (i := 4) (oi := _) (v := ?_) rfl (by kernel_rfl) (by kernel_rfl) (by kernel_rfl) (fun _ _ _ h => h) (Or.inl ⟨by rfl, ?_⟩) (by assumption) ?_
      rotate_left
      · (intro w hSw; go_simp; first | done | (with_reducible rfl))
      simp only [Act.put, List.getElem_toArray, List.getElem_cons_succ, List.getElem_cons_zero, List.setIfInBounds_toArray, List.set_cons_zero, List.set_cons_succ]
      refine wpAnyH_take (i := 7) (oi := _) (v := ?_) rfl (by kernel_rfl) (by kernel_rfl) (by kernel_rfl) (fun _ _ _ h => h) (Or.inl ⟨by rfl, ?_⟩) (by assumption) ?_
      rotate_left
      · (intro w hSw; go_simp; first | done | (with_reducible rfl))
      simp only [Act.put, List.getElem_toArray, List.getElem_cons_succ, List.getElem_cons_zero, List.setIfInBounds_toArray, List.set_cons_zero, List.set_cons_succ]
      refine wpAnyH_take (i := 8) (oi := _) (v := ?_) rfl (by kernel_rfl) (by kernel_rfl) (by kernel_rfl) (fun _ _ _ h => h) (Or.inl ⟨by rfl, ?_⟩) (by assumption) ?_
      rotate_left
      · (intro w hSw; go_simp; first | done | (with_reducible rfl))
      simp only [Act.put, List.getElem_toArray, List.getElem_cons_succ, List.getElem_cons_zero, List.setIfInBounds_toArray, List.set_cons_zero, List.set_cons_succ]
      refine wpAnyH_done (by kernel_rfl) ?_ _
      have k5 : w4.cell? ⟨w.heap.size, 0, none⟩ = some (.int .i64 2) := by rw [← HKK.out]; exact HS2.out.1.cellv 0 _ rfl
      have t5 : w4.cell? ⟨w.heap.size, 14, none⟩ = some (.string d.tag) := HS2.out.1.cellv 14 _ rfl
      have t6 : w4.cell? ⟨w.heap.size, 13, none⟩ = some (.string d.data) := HS2.out.1.cellv 13 _ rfl
      go_wp2_with fail
      go_ret2
      rw [HEX.out]
      first
        | exact ⟨rfl, HS2.out.2⟩
        | (rw [HA.out]; exact ⟨rfl, HS2.out.2⟩)
  · have he : enc d = ([], 73) := by
      rw [enc_is d hf, if_neg h0, if_neg (fun q => hc (by rw [hk] at q; exact ⟨q .nonce (by simp [fieldsL]), q .cookie (by simp [fieldsL])⟩))]
    have HFI : Keep (∀ W, Calls Tryz.prog 40 #[.agg d.cells.toArray] W fun e w' => e = .returned (.bool false) ∧ W.grownBy w' none) := ⟨fun W => by have := hFI W; rw [decide_eq_false hc] at this; exact this⟩
    rw [he]
    have HKK := Keep.mk hk
    clear hFI he h0 hc hk hf hs
    unfold dv
    go_enter Tryz.func20, Tryz.ntmps20
    go_wp2_with (refine wpList_load_mid rfl 26 _ rfl _ _ rfl d.cells _ (HC.out.1).range hdu hdr info26 ?_)
    refine (HFI.out _).mono ?_
    rintro e' w1 ⟨rfl, gn⟩
    have HG : Keep (w.grownBy w1 none) := ⟨HC.out.2.trans gn⟩
    clear gn
    go_wp2_with fail
    go_ret2
    exact ⟨rfl, HG.out⟩
end Go.Proofs.YtiphnlfbgbemfaaGreatDoor.Pk

/- the reference's Encode -/
namespace Go.Proofs.YtiphnlfbgbemfaaGreatDoor.Pk
open Go Go.RowKit
set_option maxHeartbeats 16000000 in
set_option maxRecDepth 100000 in
theorem renc_4 (d : Dg) (hf : d.fine) (hs : d.small) (w : World) (hk : d.kind = 4) :
    Calls Tryz.prog 20 #[dv d] w fun e w' => e = .returned (.tuple #[.string (ba (enc d).1), .int .i64 (enc d).2]) ∧ w.grownBy w' none := by
  obtain ⟨du, hdu, hdr⟩ := under26
  have h0 : ¬ fieldsL d.kind = [] := fieldsL_some (by omega)
  have hFI := fun W => rfits_4 d W hk
  obtain ⟨w0, hw0⟩ : ∃ q, w.alloc (.cells d.cells.toArray 26) = q := ⟨_, rfl⟩
  obtain ⟨h1, g1⟩ := alloc_has hw0
  have HC : Keep (Has w0 w.heap.size d.cells 26 ∧ w.grownBy w0 none) := ⟨h1, g1⟩
  have q1 : w.alloc (.cells #[.int .i64 d.kind, .string d.nonce, .int .u64 d.epoch, .string d.cookie, .string d.name, .int .u64 d.session, .int .i64 d.player, .string d.salt, .int .u64 d.seq, .int .i64 d.thr, .int .i64 d.turn, .bool d.fire, .bool d.boost, .string d.data, .string d.tag] 26) = w0 := hw0
  have c0 : w0.cell? ⟨w.heap.size, 0, none⟩ = some (.int .i64 4) := by rw [← hk]; exact h1.cellv 0 _ rfl
  clear hw0 h1 g1
  by_cases hc : d.nonce.size = 16 ∧ d.salt.size = 16 ∧ 0 ≤ d.player ∧ d.player ≤ 255 ∧ d.tag.size = 32
  · have hfit : ∀ f ∈ fieldsL d.kind, fitF d f := by
      rw [hk]
      intro f hm
      simp only [fieldsL, reduceIte, Int.reduceEq, List.mem_cons, List.not_mem_nil, or_false] at hm
      rcases hm with rfl | rfl | rfl | rfl | rfl
      · exact hc.1
      · exact hf.s
      · exact (fitsU1 _ hf.p).2 ⟨hc.2.2.1, hc.2.2.2.1⟩
      · exact hc.2.1
      · exact hc.2.2.2.2
    have he : enc d = if 1200 < (headL d ++ bytesF d (fieldsL d.kind)).length then ([], 72) else (headL d ++ bytesF d (fieldsL d.kind), 0) := by rw [enc_is d hf, if_neg h0, if_pos hfit]
    have HFI : Keep (∀ W, Calls Tryz.prog 40 #[.agg d.cells.toArray] W fun e w' => e = .returned (.bool true) ∧ W.grownBy w' none) := ⟨fun W => by have := hFI W; rw [decide_eq_true hc] at this; exact this⟩
    clear hFI hfit h0
    obtain ⟨X1, hX1⟩ : ∃ x, ba [(4 : UInt8)] = x := ⟨_, rfl⟩
    have hcv : ∀ W : World, (convert 39 9 (.slice (some ⟨W.heap.size, 0, none⟩) 1 1)).run Tryz.prog (W.alloc (.cells #[.int .u8 4] 5)) = .ok (.string X1) (W.alloc (.cells #[.int .u8 4] 5)) := fun W => by rw [← hX1]; exact cvt_new 4 4 rfl W
    obtain ⟨L1, hL1⟩ : ∃ x, ba (be 8 d.session) = x := ⟨_, rfl⟩
    obtain ⟨Pb, hPb⟩ : ∃ x, ba [UInt8.ofNat d.player.toNat] = x := ⟨_, rfl⟩
    obtain ⟨A0, hA0⟩ : ∃ x, mgB ++ X1 = x := ⟨_, rfl⟩
    obtain ⟨A1, hA1⟩ : ∃ x, A0 ++ d.nonce = x := ⟨_, rfl⟩
    obtain ⟨A2, hA2⟩ : ∃ x, A1 ++ L1 = x := ⟨_, rfl⟩
    obtain ⟨A3, hA3⟩ : ∃ x, A2 ++ Pb = x := ⟨_, rfl⟩
    obtain ⟨A4, hA4⟩ : ∃ x, A3 ++ d.salt = x := ⟨_, rfl⟩
    obtain ⟨A5, hA5⟩ : ∃ x, A4 ++ d.tag = x := ⟨_, rfl⟩
    have z0 : A0.size = 4 := by rw [← hA0, ByteArray.size_append, ← hX1]; rfl
    have zL1 : L1.size = 8 := by rw [← hL1, ba_size, be_len]
    have zPb : Pb.size = 1 := by rw [← hPb, ba_size]; rfl
    have z1 : A1.size = A0.size + d.nonce.size := by rw [← hA1, ByteArray.size_append]
    have z2 : A2.size = A1.size + L1.size := by rw [← hA2, ByteArray.size_append]
    have z3 : A3.size = A2.size + Pb.size := by rw [← hA3, ByteArray.size_append]
    have z4 : A4.size = A3.size + d.salt.size := by rw [← hA4, ByteArray.size_append]
    have z5 : A5.size = A4.size + d.tag.size := by rw [← hA5, ByteArray.size_append]
    have y_nonce := hs.n
    have y_salt := hs.s
    have y_tag := hs.t
    have b0 : ∀ W, (Op.stringOp .add { data := #[74, 48, 49] } X1).run Tryz.prog W = .ok (.string A0) W := fun W => by rw [← hA0]; exact addS mgB X1 (by rw [← hX1]; decide) W
    have b1 : ∀ W, (Op.stringOp .add A0 d.nonce).run Tryz.prog W = .ok (.string A1) W := fun W => by rw [← hA1]; exact addS A0 d.nonce (by omega) W
    have b2 : ∀ W, (Op.stringOp .add A1 L1).run Tryz.prog W = .ok (.string A2) W := fun W => by rw [← hA2]; exact addS A1 L1 (by omega) W
    have b3 : ∀ W, (Op.stringOp .add A2 Pb).run Tryz.prog W = .ok (.string A3) W := fun W => by rw [← hA3]; exact addS A2 Pb (by omega) W
    have b4 : ∀ W, (Op.stringOp .add A3 d.salt).run Tryz.prog W = .ok (.string A4) W := fun W => by rw [← hA4]; exact addS A3 d.salt (by omega) W
    have b5 : ∀ W, (Op.stringOp .add A4 d.tag).run Tryz.prog W = .ok (.string A5) W := fun W => by rw [← hA5]; exact addS A4 d.tag (by omega) W
    have hsl : headL d ++ bytesF d (fieldsL d.kind) = sl A5 := by
      rw [← hA5, ← hA4, ← hA3, ← hA2, ← hA1, ← hA0, ← hL1, ← hPb, ← hX1]
      rw [sl_app, sl_app, sl_app, sl_app, sl_app, sl_app, hk]
      rw [show sl (ba [(4 : UInt8)]) = [4] from sl_mk _, show sl (ba (be 8 d.session)) = be 8 d.session from sl_mk _, show sl (ba [UInt8.ofNat d.player.toNat]) = [UInt8.ofNat d.player.toNat] from sl_mk _]
      simp only [fieldsL, bytesF, List.map_cons, List.map_nil, List.flatten_cons, List.flatten_nil, reduceIte, Int.reduceEq, lyB, List.append_assoc, List.append_nil, headL, hk]
      rw [be1 d.player ⟨hc.2.2.1, hc.2.2.2.1⟩]
      rfl
    rw [hsl, sl_len] at he
    have HE := Keep.mk he
    have HA : Keep (ba (sl A5) = A5) := ⟨sl_back A5⟩
    have HR1 : Keep (∀ W, Calls Tryz.prog 41 #[.int .u64 d.session] W fun e w' => e = .returned (.string L1) ∧ W.grownBy w' none) := ⟨fun W => by rw [← hL1]; exact rlen_c d.session W hf.s⟩
    have hzp : d.player = ((UInt8.ofNat d.player.toNat).toNat : Int) := by have := hc.2.2; simp; omega
    have wzp : IntKind.u8.wrap d.player = d.player := by have := hc.2.2; simp [IntKind.wrap, show IntKind.u8.bits = 8 from rfl, show IntKind.u8.signed = false from rfl]; omega
    have HCB : Keep (∀ (W : World) (b : Nat), Has W b [.int .u8 d.player] 5 → (convert 39 9 (.slice (some ⟨b, 0, none⟩) 1 1)).run Tryz.prog W = .ok (.string Pb) W) := ⟨fun W b h => by rw [← hPb]; exact cvt_has _ _ hzp b W h⟩
    clear hzp
    have HZ : Keep (A5.size ≤ 9223372036854775807) := ⟨by omega⟩
    clear he hsl hX1 hL1 hPb hA0 hA1 hA2 hA3 hA4 hA5 z0 z1 z2 z3 z4 z5 zL1 zPb y_nonce y_salt y_tag hc hf hs
    have HKK := Keep.mk hk
    clear hk
    unfold dv
    rcases Nat.lt_or_ge 1200 A5.size with hl | hl
    case' inl => have hd1 : decide ((1200 : Int) < (A5.size : Int)) = true := decide_eq_true (by omega)
    case' inr => have hd1 : decide ((1200 : Int) < (A5.size : Int)) = false := decide_eq_false (by omega)
    case' inl => have hd2 : (1200 : Int) < (A5.size : Int) := by omega
    case' inr => have hd2 : ¬ (1200 : Int) < (A5.size : Int) := by omega
    case' inl => have hex : enc d = ([], 72) := by rw [HE.out, if_pos hl]
    case' inr => have hex : enc d = (sl A5, 0) := by rw [HE.out, if_neg (by omega)]
    all_goals
      have HEX := Keep.mk hex
      clear hex HE
      go_enter Tryz.func20, Tryz.ntmps20
      go_wp2_with (refine wpList_load_mid rfl 26 _ rfl _ _ rfl d.cells _ (HC.out.1).range hdu hdr info26 ?_)
      refine (HFI.out _).mono ?_
      rintro e' w1 ⟨rfl, gn⟩
      have HC1 : Keep (Has w1 w.heap.size d.cells 26 ∧ w.grownBy w1 none) := ⟨(HC.out.1).kept gn (by simp), (HC.out.2).trans gn⟩
      clear gn
      have k0 : w1.cell? ⟨w.heap.size, 0, none⟩ = some (.int .i64 4) := by rw [← HKK.out]; exact HC1.out.1.cellv 0 _ rfl
      obtain ⟨w2, hw2⟩ : ∃ q, w1.alloc (.cells #[.int .u8 4] 5) = q := ⟨_, rfl⟩
      have HC2 : Keep (Has w2 w.heap.size d.cells 26 ∧ w.grownBy w2 none) := ⟨by rw [← hw2]; exact HC1.out.1.alloc _, by rw [← hw2]; exact HC1.out.2.trans (World.grownBy_alloc _ _ _)⟩
      have hcv1 := hcv w1
      rw [hw2] at hcv1
      have n2 : w2.cell? ⟨w.heap.size, 1, none⟩ = some (.string d.nonce) := HC2.out.1.cellv 1 _ rfl
      have k2 : w2.cell? ⟨w.heap.size, 0, none⟩ = some (.int .i64 4) := by rw [← HKK.out]; exact HC2.out.1.cellv 0 _ rfl
      go_wp2_with fail
      clear hcv1 hw2 k0 c0 q1 HC1
      have HH : Keep (Has w2.drew w.heap.size d.cells 26 ∧ w.grownBy w2.drew none) := ⟨HC2.out.1.kept (gr_drew _ none) (by simp), HC2.out.2.trans (gr_drew _ _)⟩
      refine wp_region_held_drew (S := fun w' => Has w' w.heap.size d.cells 26 ∧ w.grownBy w' none) (by kernel_rfl) HH.out (fun hHeld => ?_)
      generalize w2.drew = wd at *
      refine wpAnyH_take (i := 0) (oi := _) (v := ?_) rfl (by kernel_rfl) (by kernel_rfl) (by kernel_rfl) (fun _ _ _ h => h) (Or.inl ⟨by rfl, ?_⟩) (by assumption) ?_
      rotate_left
      · (intro w hSw; go_simp; first | done | (with_reducible rfl))
      simp only [Act.put, List.getElem_toArray, List.getElem_cons_zero, List.setIfInBounds_toArray, List.set_cons_zero, List.set_cons_succ]
      refine wpAnyH_take (i := 1) (oi := _) (v := ?_) rfl (by kernel_rfl) (by kernel_rfl) (by kernel_rfl) (fun _ _ _ h => h) (Or.inl ⟨by rfl, ?_⟩) (by assumption) ?_
      rotate_left
      · (intro w hSw; go_simp; first | done | (with_reducible rfl))
      simp only [Act.put, List.getElem_toArray, List.getElem_cons_succ, List.getElem_cons_zero, List.setIfInBounds_toArray, List.set_cons_zero, List.set_cons_succ]
      refine wpAnyH_take (i := 2) (oi := _) (v := ?_) rfl (by kernel_rfl) (by kernel_rfl) (by kernel_rfl) (fun _ _ _ h => h) (Or.inl ⟨by rfl, ?_⟩) (by assumption) ?_
      rotate_left
      · (intro w hSw; have x1 := hSw.1.cellv 5 _ rfl; clear hSw; go_simp; first | done | (with_reducible rfl))
      simp only [Act.put, List.getElem_toArray, List.getElem_cons_succ, List.getElem_cons_zero, List.setIfInBounds_toArray, List.set_cons_zero, List.set_cons_succ]
      refine wpAnyH_take (i := 5) (oi := _) (v := ?_) rfl (by kernel_rfl) (by kernel_rfl) (by kernel_rfl) (fun _ _ _ h => h) (Or.inl ⟨by rfl, ?_⟩) (by assumption) ?_
      rotate_left
      · (intro w hSw; go_simp; first | done | (with_reducible rfl))
      simp only [Act.put, List.getElem_toArray, List.getElem_cons_succ, List.getElem_cons_zero, List.setIfInBounds_toArray, List.set_cons_zero, List.set_cons_succ]
      refine wpAnyH_take (i := 6) (oi := _) (v := ?_) rfl (by kernel_rfl) (by kernel_rfl) (by kernel_rfl) (fun _ _ _ h => h) (Or.inl ⟨by rfl, ?_⟩) (by assumption) ?_
      rotate_left
      · (intro w hSw; have x1 := hSw.1.cellv 6 _ rfl; clear hSw; go_simp; first | done | (with_reducible rfl))
      simp only [Act.put, List.getElem_toArray, List.getElem_cons_succ, List.getElem_cons_zero, List.setIfInBounds_toArray, List.set_cons_zero, List.set_cons_succ]
      refine wpAnyH_take (i := 7) (oi := _) (v := ?_) rfl (by kernel_rfl) (by kernel_rfl) (by kernel_rfl) (fun _ _ _ h => h) (Or.inl ⟨by rfl, ?_⟩) (by assumption) ?_
      rotate_left
      · (intro w hSw; go_simp; first | done | (with_reducible rfl))
      simp only [Act.put, List.getElem_toArray, List.getElem_cons_succ, List.getElem_cons_zero, List.setIfInBounds_toArray, List.set_cons_zero, List.set_cons_succ]
      refine wpAnyH_take (i := 11) (oi := _) (v := ?_) rfl (by kernel_rfl) (by kernel_rfl) (by kernel_rfl) (fun _ _ _ h => h) (Or.inl ⟨by rfl, ?_⟩) (by assumption) ?_
      rotate_left
      · (intro w hSw; go_simp; first | done | (with_reducible rfl))
      simp only [Act.put, List.getElem_toArray, List.getElem_cons_succ, List.getElem_cons_zero, List.setIfInBounds_toArray, List.set_cons_zero, List.set_cons_succ]
      refine wpAnyH_take (i := 12) (oi := _) (v := ?_) rfl (by kernel_rfl) (by kernel_rfl) (by kernel_rfl) (fun _ _ _ h => h) (Or.inl ⟨by rfl, ?_⟩) (by assumption) ?_
      rotate_left
      · (intro w hSw; have x1 := hSw.1.cellv 7 _ rfl; clear hSw; go_simp; first | done | (with_reducible rfl))
      simp only [Act.put, List.getElem_toArray, List.getElem_cons_succ, List.getElem_cons_zero, List.setIfInBounds_toArray, List.set_cons_zero, List.set_cons_succ]
      refine wpAnyH_ready (rs := [3, 8]) (by kernel_rfl) (by simp) ?_
      refine AllReadyH.cons rfl (fun K hK => ?_) (AllReadyH.cons rfl (fun K hK => ?_) AllReadyH.nil)
      · go_simp
        refine (HR1.out _).mono ?_
        rintro e' w3 ⟨rfl, gn⟩
        have HS1 : Keep (Has w3 w.heap.size d.cells 26 ∧ w.grownBy w3 none) := ⟨HH.out.1.kept gn (by simp), HH.out.2.trans gn⟩
        refine hK.out _ _ HS1.out (fun hHeld => ?_)
        clear hK K
        clear gn
        refine wpAnyH_take (i := 4) (oi := _) (v := ?_) rfl (by kernel_rfl) (by kernel_rfl) (by kernel_rfl) (fun _ _ _ h => h) (Or.inl ⟨by rfl, ?_⟩) (by assumption) ?_
        rotate_left
        · (intro w hSw; go_simp; first | done | (with_reducible rfl))
        simp only [Act.put, List.getElem_toArray, List.getElem_cons_succ, List.getElem_cons_zero, List.setIfInBounds_toArray, List.set_cons_zero, List.set_cons_succ]
        refine wpAnyH_ready (rs := [8]) (by kernel_rfl) (by simp) ?_
        refine AllReadyH.cons rfl (fun K hK => ?_) AllReadyH.nil
        go_simp
        obtain ⟨w4, hw4⟩ : ∃ q, w3.alloc (.cells #[.int .u8 d.player] 5) = q := ⟨_, rfl⟩
        have HS2 : Keep (Has w4 w.heap.size d.cells 26 ∧ w.grownBy w4 none) := ⟨by rw [← hw4]; exact HS1.out.1.alloc _, by rw [← hw4]; exact HS1.out.2.trans (World.grownBy_alloc _ _ _)⟩
        have hbl : Has w4 w3.heap.size [.int .u8 d.player] 5 := by rw [← hw4]; exact Has.newA w3 _ 5
        obtain ⟨bb, hbb⟩ : ∃ q, w3.heap.size = q := ⟨_, rfl⟩
        rw [hbb] at hbl
        rw [hw4, hbb]
        refine hK.out _ _ HS2.out (fun hHeld => ?_)
        clear hK K
        have hcx := HCB.out w4 bb hbl
        refine wpAnyH_ready (rs := [9]) (by kernel_rfl) (by simp) ?_
        refine AllReadyH.cons rfl (fun K hK => ?_) AllReadyH.nil
        go_simp
        refine hK.out _ _ HS2.out (fun hHeld => ?_)
        clear hK K
        clear hcx hbl hw4 hbb
        refine wpAnyH_take (i := 10) (oi := _) (v := ?_) rfl (by kernel_rfl) (by kernel_rfl) (by kernel_rfl) (fun _ _ _ h => h) (Or.inl ⟨by rfl, ?_⟩) (by assumption) ?_
        rotate_left
        · (intro w hSw; go_simp; first | done | (with_reducible rfl))
        simp only [Act.put, List.getElem_toArray, List.getElem_cons_succ, List.getElem_cons_zero, List.setIfInBounds_toArray, List.set_cons_zero, List.set_cons_succ]
        refine wpAnyH_take (i := 13) (oi := _) (v := ?_) rfl (by kernel_rfl) (by kernel_rfl) (by kernel_rfl) (fun _ _ _ h => h) (Or.inl ⟨by rfl, ?_⟩) (by assumption) ?_
        rotate_left
        · (intro w hSw; go_simp; first | done | (with_reducible rfl))
        simp only [Act.put, List.getElem_toArray, List.getElem_cons_succ, List.getElem_cons_zero, List.setIfInBounds_toArray, List.set_cons_zero, List.set_cons_succ]
        refine wpAnyH_take (i := 14) (oi := _) (v := ?_) rfl (by kernel_rfl) (by kernel_rfl) (by kernel_rfl) (fun _ _ _ h => h) (Or.inl ⟨by rfl, ?_⟩) (by assumption) ?_
        rotate_left
        · (intro w hSw; go_simp; first | done | (with_reducible rfl))
        simp only [Act.put, List.getElem_toArray, List.getElem_cons_succ, List.getElem_cons_zero, List.setIfInBounds_toArray, List.set_cons_zero, List.set_cons_succ]
        refine wpAnyH_done (by kernel_rfl) ?_ _
        have k5 : w4.cell? ⟨w.heap.size, 0, none⟩ = some (.int .i64 4) := by rw [← HKK.out]; exact HS2.out.1.cellv 0 _ rfl
        have t5 : w4.cell? ⟨w.heap.size, 14, none⟩ = some (.string d.tag) := HS2.out.1.cellv 14 _ rfl
        have t6 : w4.cell? ⟨w.heap.size, 13, none⟩ = some (.string d.data) := HS2.out.1.cellv 13 _ rfl
        go_wp2_with fail
        go_ret2
        rw [HEX.out]
        first
          | exact ⟨rfl, HS2.out.2⟩
          | (rw [HA.out]; exact ⟨rfl, HS2.out.2⟩)
      · go_simp
        obtain ⟨w3, hw3⟩ : ∃ q, wd.alloc (.cells #[.int .u8 d.player] 5) = q := ⟨_, rfl⟩
        have HS1 : Keep (Has w3 w.heap.size d.cells 26 ∧ w.grownBy w3 none) := ⟨by rw [← hw3]; exact HH.out.1.alloc _, by rw [← hw3]; exact HH.out.2.trans (World.grownBy_alloc _ _ _)⟩
        have hbl : Has w3 wd.heap.size [.int .u8 d.player] 5 := by rw [← hw3]; exact Has.newA wd _ 5
        obtain ⟨bb, hbb⟩ : ∃ q, wd.heap.size = q := ⟨_, rfl⟩
        rw [hbb] at hbl
        rw [hw3, hbb]
        refine hK.out _ _ HS1.out (fun hHeld => ?_)
        clear hK K
        refine wpAnyH_ready (rs := [3, 9]) (by kernel_rfl) (by simp) ?_
        refine AllReadyH.cons rfl (fun K hK => ?_) (AllReadyH.cons rfl (fun K hK => ?_) AllReadyH.nil)
        · go_simp
          refine (HR1.out _).mono ?_
          rintro e' w4 ⟨rfl, gn⟩
          have HS2 : Keep (Has w4 w.heap.size d.cells 26 ∧ w.grownBy w4 none) := ⟨HS1.out.1.kept gn (by simp), HS1.out.2.trans gn⟩
          have hcx := HCB.out w4 bb (hbl.kept gn (by simp))
          refine hK.out _ _ HS2.out (fun hHeld => ?_)
          clear hK K
          clear gn
          refine wpAnyH_take (i := 4) (oi := _) (v := ?_) rfl (by kernel_rfl) (by kernel_rfl) (by kernel_rfl) (fun _ _ _ h => h) (Or.inl ⟨by rfl, ?_⟩) (by assumption) ?_
          rotate_left
          · (intro w hSw; go_simp; first | done | (with_reducible rfl))
          simp only [Act.put, List.getElem_toArray, List.getElem_cons_succ, List.getElem_cons_zero, List.setIfInBounds_toArray, List.set_cons_zero, List.set_cons_succ]
          refine wpAnyH_ready (rs := [9]) (by kernel_rfl) (by simp) ?_
          refine AllReadyH.cons rfl (fun K hK => ?_) AllReadyH.nil
          go_simp
          refine hK.out _ _ HS2.out (fun hHeld => ?_)
          clear hK K
          clear hcx hbl hw3 hbb
          refine wpAnyH_take (i := 10) (oi := _) (v := ?_) rfl (by kernel_rfl) (by kernel_rfl) (by kernel_rfl) (fun _ _ _ h => h) (Or.inl ⟨by rfl, ?_⟩) (by assumption) ?_
          rotate_left
          · (intro w hSw; go_simp; first | done | (with_reducible rfl))
          simp only [Act.put, List.getElem_toArray, List.getElem_cons_succ, List.getElem_cons_zero, List.setIfInBounds_toArray, List.set_cons_zero, List.set_cons_succ]
          refine wpAnyH_take (i := 13) (oi := _) (v := ?_) rfl (by kernel_rfl) (by kernel_rfl) (by kernel_rfl) (fun _ _ _ h => h) (Or.inl ⟨by rfl, ?_⟩) (by assumption) ?_
          rotate_left
          · (intro w hSw; go_simp; first | done | (with_reducible rfl))
          simp only [Act.put, List.getElem_toArray, List.getElem_cons_succ, List.getElem_cons_zero, List.setIfInBounds_toArray, List.set_cons_zero, List.set_cons_succ]
          refine wpAnyH_take (i := 14) (oi := _) (v := ?_) rfl (by kernel_rfl) (by kernel_rfl) (by kernel_rfl) (fun _ _ _ h => h) (Or.inl ⟨by rfl, ?_⟩) (by assumption) ?_
          rotate_left
          · (intro w hSw; go_simp; first | done | (with_reducible rfl))
          simp only [Act.put, List.getElem_toArray, List.getElem_cons_succ, List.getElem_cons_zero, List.setIfInBounds_toArray, List.set_cons_zero, List.set_cons_succ]
          refine wpAnyH_done (by kernel_rfl) ?_ _
          have k5 : w4.cell? ⟨w.heap.size, 0, none⟩ = some (.int .i64 4) := by rw [← HKK.out]; exact HS2.out.1.cellv 0 _ rfl
          have t5 : w4.cell? ⟨w.heap.size, 14, none⟩ = some (.string d.tag) := HS2.out.1.cellv 14 _ rfl
          have t6 : w4.cell? ⟨w.heap.size, 13, none⟩ = some (.string d.data) := HS2.out.1.cellv 13 _ rfl
          go_wp2_with fail
          go_ret2
          rw [HEX.out]
          first
            | exact ⟨rfl, HS2.out.2⟩
            | (rw [HA.out]; exact ⟨rfl, HS2.out.2⟩)
        · have hcx := HCB.out w3 bb hbl
          go_simp
          refine hK.out _ _ HS1.out (fun hHeld => ?_)
          clear hK K
          clear hcx
          refine wpAnyH_ready (rs := [3]) (by kernel_rfl) (by simp) ?_
          refine AllReadyH.cons rfl (fun K hK => ?_) AllReadyH.nil
          go_simp
          refine (HR1.out _).mono ?_
          rintro e' w4 ⟨rfl, gn⟩
          have HS2 : Keep (Has w4 w.heap.size d.cells 26 ∧ w.grownBy w4 none) := ⟨HS1.out.1.kept gn (by simp), HS1.out.2.trans gn⟩
          refine hK.out _ _ HS2.out (fun hHeld => ?_)
          clear hK K
          clear gn hbl hw3 hbb
          refine wpAnyH_take (i := 4) (oi := _) (v := ?_) rfl (by kernel_rfl) (by kernel_rfl) (by kernel_rfl) (fun _ _ _ h => h) (Or.inl ⟨by rfl, ?_⟩) (by assumption) ?_
          rotate_left
          · (intro w hSw; go_simp; first | done | (with_reducible rfl))
          simp only [Act.put, List.getElem_toArray, List.getElem_cons_succ, List.getElem_cons_zero, List.setIfInBounds_toArray, List.set_cons_zero, List.set_cons_succ]
          refine wpAnyH_take (i := 10) (oi := _) (v := ?_) rfl (by kernel_rfl) (by kernel_rfl) (by kernel_rfl) (fun _ _ _ h => h) (Or.inl ⟨by rfl, ?_⟩) (by assumption) ?_
          rotate_left
          · (intro w hSw; go_simp; first | done | (with_reducible rfl))
          simp only [Act.put, List.getElem_toArray, List.getElem_cons_succ, List.getElem_cons_zero, List.setIfInBounds_toArray, List.set_cons_zero, List.set_cons_succ]
          refine wpAnyH_take (i := 13) (oi := _) (v := ?_) rfl (by kernel_rfl) (by kernel_rfl) (by kernel_rfl) (fun _ _ _ h => h) (Or.inl ⟨by rfl, ?_⟩) (by assumption) ?_
          rotate_left
          · (intro w hSw; go_simp; first | done | (with_reducible rfl))
          simp only [Act.put, List.getElem_toArray, List.getElem_cons_succ, List.getElem_cons_zero, List.setIfInBounds_toArray, List.set_cons_zero, List.set_cons_succ]
          refine wpAnyH_take (i := 14) (oi := _) (v := ?_) rfl (by kernel_rfl) (by kernel_rfl) (by kernel_rfl) (fun _ _ _ h => h) (Or.inl ⟨by rfl, ?_⟩) (by assumption) ?_
          rotate_left
          · (intro w hSw; go_simp; first | done | (with_reducible rfl))
          simp only [Act.put, List.getElem_toArray, List.getElem_cons_succ, List.getElem_cons_zero, List.setIfInBounds_toArray, List.set_cons_zero, List.set_cons_succ]
          refine wpAnyH_done (by kernel_rfl) ?_ _
          have k5 : w4.cell? ⟨w.heap.size, 0, none⟩ = some (.int .i64 4) := by rw [← HKK.out]; exact HS2.out.1.cellv 0 _ rfl
          have t5 : w4.cell? ⟨w.heap.size, 14, none⟩ = some (.string d.tag) := HS2.out.1.cellv 14 _ rfl
          have t6 : w4.cell? ⟨w.heap.size, 13, none⟩ = some (.string d.data) := HS2.out.1.cellv 13 _ rfl
          go_wp2_with fail
          go_ret2
          rw [HEX.out]
          first
            | exact ⟨rfl, HS2.out.2⟩
            | (rw [HA.out]; exact ⟨rfl, HS2.out.2⟩)
  · have he : enc d = ([], 73) := by
      rw [enc_is d hf, if_neg h0, if_neg (fun q => hc (by rw [hk] at q; exact ⟨q .nonce (by simp [fieldsL]), q .salt (by simp [fieldsL]), ((fitsU1 _ hf.p).1 (q .player (by simp [fieldsL]))).1, ((fitsU1 _ hf.p).1 (q .player (by simp [fieldsL]))).2, q .tag (by simp [fieldsL])⟩))]
    have HFI : Keep (∀ W, Calls Tryz.prog 40 #[.agg d.cells.toArray] W fun e w' => e = .returned (.bool false) ∧ W.grownBy w' none) := ⟨fun W => by have := hFI W; rw [decide_eq_false hc] at this; exact this⟩
    rw [he]
    have HKK := Keep.mk hk
    clear hFI he h0 hc hk hf hs
    unfold dv
    go_enter Tryz.func20, Tryz.ntmps20
    go_wp2_with (refine wpList_load_mid rfl 26 _ rfl _ _ rfl d.cells _ (HC.out.1).range hdu hdr info26 ?_)
    refine (HFI.out _).mono ?_
    rintro e' w1 ⟨rfl, gn⟩
    have HG : Keep (w.grownBy w1 none) := ⟨HC.out.2.trans gn⟩
    clear gn
    go_wp2_with fail
    go_ret2
    exact ⟨rfl, HG.out⟩
end Go.Proofs.YtiphnlfbgbemfaaGreatDoor.Pk

