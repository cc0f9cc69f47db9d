import Derived.Test.YtkdjcknikhgfkaaGreatDoorFH1
import Derived.Test.YtkdjcknikhgfkaaGreatDoorFA1
/- what is laid is taken -/
namespace Go.Proofs.YtkdjcknikhgfkaaGreatDoor.Pk
open Go Go.RowKit

set_option maxRecDepth 100000 in
theorem need_app (a R : List UInt8) (n : Int) (h : n = (a.length : Int)) : need (a ++ R) n = some (a, R) := by
  subst h
  rw [need, if_neg (by simp; omega), Int.toNat_natCast, List.take_left, List.drop_left]
set_option maxRecDepth 100000 in
theorem val_be8 (x : Nat) (h : x < 18446744073709551616) : val (be 8 x) = x := by
  rw [val_be]; exact Nat.mod_eq_of_lt h
set_option maxRecDepth 100000 in
theorem val_be1 (x : Nat) (h : x < 256) : val (be 1 x) = x := by
  rw [val_be]; exact Nat.mod_eq_of_lt (by simpa using h)
set_option maxRecDepth 100000 in
theorem tk_there (d : Dg) (f : Fd) (e : Dg) (R : List UInt8) (r : Bool) (h : fitF d f) (hp : f = .player → -9223372036854775808 ≤ d.player ∧ d.player < 9223372036854775808) (hv : f = .view → R.length = 32) : tk f (e, lyB d f ++ R, r) = some (cp d f e, R, r) := by
  have sb : ∀ s : ByteArray, ba (sl s) = s := fun s => sl_back s
  cases f <;> simp only [fitF] at h <;> simp only [tk, lyB, cp]
  case nonce => rw [need_app _ _ _ (by rw [sl_len, h]; rfl)]; simp only [Option.map_some, sb]
  case salt => rw [need_app _ _ _ (by rw [sl_len, h]; rfl)]; simp only [Option.map_some, sb]
  case cookie => rw [need_app _ _ _ (by rw [sl_len, h]; rfl)]; simp only [Option.map_some, sb]
  case tag => rw [need_app _ _ _ (by rw [sl_len, h]; rfl)]; simp only [Option.map_some, sb]
  case epoch => rw [need_app _ _ _ (by rw [be_len]; rfl)]; simp only [Option.map_some, val_be8 _ h]
  case session => rw [need_app _ _ _ (by rw [be_len]; rfl)]; simp only [Option.map_some, val_be8 _ h]
  case seq => rw [need_app _ _ _ (by rw [be_len]; rfl)]; simp only [Option.map_some, val_be8 _ h]
  case thr => rw [need_app _ _ _ (by rw [be_len]; rfl)]; simp only [Option.map_some]; rw [show sval (be 1 (u64 d.thr)) = d.thr from sval_be d.thr 1 h]
  case turn => rw [need_app _ _ _ (by rw [be_len]; rfl)]; simp only [Option.map_some]; rw [show sval (be 1 (u64 d.turn)) = d.turn from sval_be d.turn 1 h]
  case player =>
    rw [need_app _ _ _ (by rw [be_len]; rfl)]
    have h2 : u64 d.player < 256 := by have := h.2; simpa using this
    simp only [Option.map_some, val_be1 _ h2]
    have : ((u64 d.player : Nat) : Int) = d.player := by
      have := hp rfl
      unfold u64 at h2 ⊢
      omega
    rw [this]
  case flags =>
    rw [need_app _ _ _ (by rw [be_len]; rfl)]
    simp only [Option.map_some, val_be1 _ (flagsN_lt d)]
    cases hfi : d.fire <;> cases hbo : d.boost <;> simp [flagsN, hfi, hbo]
  case name =>
    have e1 : need (UInt8.ofNat d.name.size :: sl d.name ++ R) 1 = some ([UInt8.ofNat d.name.size], sl d.name ++ R) := need_app [UInt8.ofNat d.name.size] (sl d.name ++ R) 1 rfl
    rw [e1]
    simp only [Option.bind_some]
    have e2 : val [UInt8.ofNat d.name.size] = d.name.size := by simp [val]; omega
    rw [e2, need_app _ _ _ (by rw [sl_len])]
    simp only [Option.map_some, sb]
  case view =>
    rw [need_app _ _ _ (by rw [List.length_append, hv rfl]; omega)]
    simp only [Option.map_some, sb]
  case zeros =>
    rw [need_app _ _ _ (by decide)]
    simp
set_option maxRecDepth 100000 in
theorem takes_there (d : Dg) (hf : d.fine) (h : ∀ f ∈ fieldsL d.kind, fitF d f) (e : Dg) : takes (fieldsL d.kind) (e, bytesF d (fieldsL d.kind), false) = some (cps d (fieldsL d.kind) e, [], false) := by
  by_cases hk : d.kind < 1 ∨ 7 < d.kind
  · rw [fieldsL_nil hk]; rfl
  · have hks : d.kind = 1 ∨ d.kind = 2 ∨ d.kind = 3 ∨ d.kind = 4 ∨ d.kind = 5 ∨ d.kind = 6 ∨ d.kind = 7 := by omega
    have ht : ∀ (f : Fd) (x : Dg) (R : List UInt8), f ∈ fieldsL d.kind → (f = .view → R.length = 32) → tk f (x, lyB d f ++ R, false) = some (cp d f x, R, false) := fun f x R hm hv => tk_there d f x R false (h f hm) (fun _ => hf.p) hv
    rcases hks with hk | hk | hk | hk | hk | hk | hk
    all_goals rw [hk] at h ht ⊢
    all_goals simp only [fieldsL, bytesF, List.map_cons, List.map_nil, List.flatten_cons, List.flatten_nil, takes, cps, reduceIte, Int.reduceEq] at h ht ⊢
    all_goals (repeat (rw [ht _ _ _ (by simp) (by first | (intro e; cases e; done) | (intro _; rw [List.append_nil]; exact (sl_len _).trans (h .tag (by simp))))]; simp only [Option.bind_some]))
set_option maxRecDepth 100000 in
theorem kind_head (d : Dg) (hk : 1 ≤ d.kind ∧ d.kind ≤ 7) (X : List UInt8) : kindL (headL d ++ X) = d.kind ∧ (headL d ++ X).take 3 = magic ∧ (headL d ++ X).drop 4 = X := by
  obtain ⟨k, hkk⟩ : ∃ k : Nat, d.kind = (k : Int) := ⟨d.kind.toNat, by omega⟩
  have e : headL d = [74, 48, 49, UInt8.ofNat k] := by
    unfold headL u64
    rw [hkk, show ((k : Int) % 18446744073709551616).toNat % 256 = k by omega]
    rfl
  rw [e]
  refine ⟨?_, rfl, rfl⟩
  rw [kindL, if_neg (by simp; rfl)]
  show (((UInt8.ofNat k).toNat : Nat) : Int) = _
  rw [hkk]
  simp
  omega
/-- what is written is taken apart to the same -/
theorem dec_enc (d : Dg) (hf : d.fine) (h : (enc d).2 = 0) : dec (enc d).1 = (onlyD d, 0) := by
  rw [enc_is d hf] at h ⊢
  by_cases h0 : fieldsL d.kind = []
  · rw [if_pos h0] at h; cases h
  · rw [if_neg h0] at h ⊢
    by_cases hft : ∀ f ∈ fieldsL d.kind, fitF d f
    · rw [if_pos hft] at h ⊢
      by_cases hl : 1200 < (headL d ++ bytesF d (fieldsL d.kind)).length
      · rw [if_pos hl] at h; cases h
      · rw [if_neg hl]
        have hk : 1 ≤ d.kind ∧ d.kind ≤ 7 := by
          refine Classical.byContradiction (fun hc => h0 (fieldsL_nil (by omega)))
        obtain ⟨e1, e2, e3⟩ := kind_head d hk (bytesF d (fieldsL d.kind))
        dsimp only
        rw [dec, if_neg hl, if_neg (by simp [e2]), e1, if_neg h0, e3, takes_there d hf hft]
        simp [ended, onlyD]
    · rw [if_neg hft] at h; cases h
set_option maxRecDepth 100000 in
theorem enc_codes (d : Dg) (hf : d.fine) : ((enc d).2 = 0 ∨ ((enc d).1 = [] ∧ 71 ≤ (enc d).2 ∧ (enc d).2 ≤ 73)) := by
  rw [enc_is d hf]
  split
  · right; exact ⟨rfl, by decide, by decide⟩
  · split
    · split
      · right; exact ⟨rfl, by decide, by decide⟩
      · left; rfl
    · right; exact ⟨rfl, by decide, by decide⟩
end Go.Proofs.YtkdjcknikhgfkaaGreatDoor.Pk
