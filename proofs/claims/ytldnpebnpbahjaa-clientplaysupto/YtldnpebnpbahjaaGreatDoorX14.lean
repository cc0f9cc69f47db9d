import Derived.Test.YtldnpebnpbahjaaGreatDoorX8
import Derived.Test.YtldnpebnpbahjaaGreatDoorX12
import Derived.Laws.StructEq
import Derived.Deep.DeepCutAuto
set_option maxRecDepth 100000
set_option maxHeartbeats 16000000
namespace Go.Proofs.YtldnpebnpbahjaaGreatDoor.Pk
open Go Go.RowKit
theorem sval_be (i size : Int) (h : fitsS i size) : sval (be size.toNat (u64 i)) = i := by
  obtain ⟨⟨h1, h2⟩, h3⟩ := h; unfold sval; rw [val_be, be_len]; have h8 : size = 1 ∨ size = 2 ∨ size = 3 ∨ size = 4 ∨ size = 5 ∨ size = 6 ∨ size = 7 ∨ size = 8 := by omega
  obtain ⟨n, hn⟩ : ∃ n, u64 i = n := ⟨_, rfl⟩; have hn' : (n : Int) = i % 18446744073709551616 := by rw [← hn]; unfold u64; omega
  rw [hn]; clear hn h1 h2; rcases h8 with rfl | rfl | rfl | rfl | rfl | rfl | rfl | rfl
  · have h4 : -((256 : Nat) : Int) ≤ 2 * i ∧ 2 * i < ((256 : Nat) : Int) := h3; show (if 2 * (n % 256) < 256 then ((n % 256 : Nat) : Int) else ((n % 256 : Nat) : Int) - ((256 : Nat) : Int)) = i; split <;> omega
  · have h4 : -((65536 : Nat) : Int) ≤ 2 * i ∧ 2 * i < ((65536 : Nat) : Int) := h3; show (if 2 * (n % 65536) < 65536 then ((n % 65536 : Nat) : Int) else ((n % 65536 : Nat) : Int) - ((65536 : Nat) : Int)) = i; split <;> omega
  · have h4 : -((16777216 : Nat) : Int) ≤ 2 * i ∧ 2 * i < ((16777216 : Nat) : Int) := h3; show (if 2 * (n % 16777216) < 16777216 then ((n % 16777216 : Nat) : Int) else ((n % 16777216 : Nat) : Int) - ((16777216 : Nat) : Int)) = i; split <;> omega
  · have h4 : -((4294967296 : Nat) : Int) ≤ 2 * i ∧ 2 * i < ((4294967296 : Nat) : Int) := h3; show (if 2 * (n % 4294967296) < 4294967296 then ((n % 4294967296 : Nat) : Int) else ((n % 4294967296 : Nat) : Int) - ((4294967296 : Nat) : Int)) = i; split <;> omega
  · have h4 : -((1099511627776 : Nat) : Int) ≤ 2 * i ∧ 2 * i < ((1099511627776 : Nat) : Int) := h3; show (if 2 * (n % 1099511627776) < 1099511627776 then ((n % 1099511627776 : Nat) : Int) else ((n % 1099511627776 : Nat) : Int) - ((1099511627776 : Nat) : Int)) = i; split <;> omega
  · have h4 : -((281474976710656 : Nat) : Int) ≤ 2 * i ∧ 2 * i < ((281474976710656 : Nat) : Int) := h3; show (if 2 * (n % 281474976710656) < 281474976710656 then ((n % 281474976710656 : Nat) : Int) else ((n % 281474976710656 : Nat) : Int) - ((281474976710656 : Nat) : Int)) = i; split <;> omega
  · have h4 : -((72057594037927936 : Nat) : Int) ≤ 2 * i ∧ 2 * i < ((72057594037927936 : Nat) : Int) := h3; show (if 2 * (n % 72057594037927936) < 72057594037927936 then ((n % 72057594037927936 : Nat) : Int) else ((n % 72057594037927936 : Nat) : Int) - ((72057594037927936 : Nat) : Int)) = i; split <;> omega
  · have h4 : -((18446744073709551616 : Nat) : Int) ≤ 2 * i ∧ 2 * i < ((18446744073709551616 : Nat) : Int) := h3; show (if 2 * (n % 18446744073709551616) < 18446744073709551616 then ((n % 18446744073709551616 : Nat) : Int) else ((n % 18446744073709551616 : Nat) : Int) - ((18446744073709551616 : Nat) : Int)) = i; split <;> omega
theorem be_sval (l : List UInt8) (h : l.length ≤ 8) (h1 : 1 ≤ l.length) : be l.length (u64 (sval l)) = l := by
  have hv := val_lt l
  have e : u64 (sval l) % 256 ^ l.length = val l % 256 ^ l.length := by
    unfold sval u64; obtain ⟨n, hn⟩ : ∃ n, val l = n := ⟨_, rfl⟩; obtain ⟨k, hk⟩ : ∃ k, l.length = k := ⟨_, rfl⟩; rw [hn, hk] at hv; rw [hn, hk]; (have h9 : k = 1 ∨ k = 2 ∨ k = 3 ∨ k = 4 ∨ k = 5 ∨ k = 6 ∨ k = 7 ∨ k = 8 := by omega); clear hn hk h h1; rcases h9 with rfl | rfl | rfl | rfl | rfl | rfl | rfl | rfl
    · have hv' : n < 256 := hv; show ((if 2 * n < 256 then (n : Int) else (n : Int) - ((256 : Nat) : Int)) % 18446744073709551616).toNat % 256 = n % 256; split <;> omega
    · have hv' : n < 65536 := hv; show ((if 2 * n < 65536 then (n : Int) else (n : Int) - ((65536 : Nat) : Int)) % 18446744073709551616).toNat % 65536 = n % 65536; split <;> omega
    · have hv' : n < 16777216 := hv; show ((if 2 * n < 16777216 then (n : Int) else (n : Int) - ((16777216 : Nat) : Int)) % 18446744073709551616).toNat % 16777216 = n % 16777216; split <;> omega
    · have hv' : n < 4294967296 := hv; show ((if 2 * n < 4294967296 then (n : Int) else (n : Int) - ((4294967296 : Nat) : Int)) % 18446744073709551616).toNat % 4294967296 = n % 4294967296; split <;> omega
    · have hv' : n < 1099511627776 := hv; show ((if 2 * n < 1099511627776 then (n : Int) else (n : Int) - ((1099511627776 : Nat) : Int)) % 18446744073709551616).toNat % 1099511627776 = n % 1099511627776; split <;> omega
    · have hv' : n < 281474976710656 := hv; show ((if 2 * n < 281474976710656 then (n : Int) else (n : Int) - ((281474976710656 : Nat) : Int)) % 18446744073709551616).toNat % 281474976710656 = n % 281474976710656; split <;> omega
    · have hv' : n < 72057594037927936 := hv; show ((if 2 * n < 72057594037927936 then (n : Int) else (n : Int) - ((72057594037927936 : Nat) : Int)) % 18446744073709551616).toNat % 72057594037927936 = n % 72057594037927936; split <;> omega
    · have hv' : n < 18446744073709551616 := hv; show ((if 2 * n < 18446744073709551616 then (n : Int) else (n : Int) - ((18446744073709551616 : Nat) : Int)) % 18446744073709551616).toNat % 18446744073709551616 = n % 18446744073709551616; split <;> omega
  rw [← be_mod _ _ l.length (Nat.le_refl _), e, be_mod _ _ _ (Nat.le_refl _), be_val]
theorem fits_sval (l : List UInt8) : -(256 ^ l.length : Nat) ≤ 2 * sval l ∧ 2 * sval l < (256 ^ l.length : Nat) := by
  have hv := val_lt l; unfold sval; split <;> omega
def cp (d : Dg) : Fd → Dg → Dg
  | .nonce, e => { e with nonce := d.nonce }
  | .salt, e => { e with salt := d.salt }
  | .cookie, e => { e with cookie := d.cookie }
  | .tag, e => { e with tag := d.tag }
  | .epoch, e => { e with epoch := d.epoch }
  | .session, e => { e with session := d.session }
  | .seq, e => { e with seq := d.seq }
  | .thr, e => { e with thr := d.thr }
  | .turn, e => { e with turn := d.turn }
  | .player, e => { e with player := d.player }
  | .flags, e => { e with fire := d.fire, boost := d.boost }
  | .name, e => { e with name := d.name }
  | .view, e => { e with data := d.data }
  | .zeros, e => e
def cps (d : Dg) : List Fd → Dg → Dg
  | [], e => e
  | f :: fs, e => cps d fs (cp d f e)
def onlyD (d : Dg) : Dg := cps d (fieldsL d.kind) (Dg.zero d.kind)
def fitF (d : Dg) : Fd → Prop
  | .nonce => d.nonce.size = 16
  | .salt => d.salt.size = 16
  | .cookie => d.cookie.size = 32
  | .tag => d.tag.size = 32
  | .epoch => d.epoch < 18446744073709551616
  | .session => d.session < 18446744073709551616
  | .seq => d.seq < 18446744073709551616
  | .thr => fitsS d.thr 1
  | .turn => fitsS d.turn 1
  | .player => fitsU (u64 d.player) 1
  | .flags => True
  | .name => d.name.size ≤ 255
  | .view => True
  | .zeros => True
def lyB (d : Dg) : Fd → List UInt8
  | .nonce => sl d.nonce
  | .salt => sl d.salt
  | .cookie => sl d.cookie
  | .tag => sl d.tag
  | .epoch => be 8 d.epoch
  | .session => be 8 d.session
  | .seq => be 8 d.seq
  | .thr => be 1 (u64 d.thr)
  | .turn => be 1 (u64 d.turn)
  | .player => be 1 (u64 d.player)
  | .flags => be 1 (flagsN d)
  | .name => UInt8.ofNat d.name.size :: sl d.name
  | .view => sl d.data
  | .zeros => zero76
theorem fits8 (x : Nat) (h : x < 18446744073709551616) : fitsU x 8 := ⟨by decide, h⟩
theorem flagsN_lt (d : Dg) : flagsN d < 256 := by unfold flagsN; split <;> split <;> omega
theorem ly_fit (d : Dg) (f : Fd) (P : List UInt8) (r : Bool) (h : fitF d f) : ly d f (some P, r) = (some (P ++ lyB d f), r) := by
  cases f <;> simp only [fitF] at h <;> simp only [ly, lyB, wBytes, wNum, wSig, wText, Option.map_some]
  case nonce => simp [h]
  case salt => simp [h]
  case cookie => simp [h]
  case tag => simp [h]
  case epoch => rw [if_pos (fits8 _ h)]; rfl
  case session => rw [if_pos (fits8 _ h)]; rfl
  case seq => rw [if_pos (fits8 _ h)]; rfl
  case thr => rw [if_pos h]; rfl
  case turn => rw [if_pos h]; rfl
  case player => rw [if_pos h]; rfl
  case flags => rw [if_pos ⟨by decide, flagsN_lt d⟩]; rfl
  case name => rw [if_pos (by rw [sl_len]; exact h), sl_len]
theorem ly_miss (d : Dg) (f : Fd) (P : List UInt8) (hf : d.fine) (h : ¬ fitF d f) : (ly d f (some P, false)).1 = none ∨ (ly d f (some P, false)).2 = true := by
  cases f <;> simp only [fitF] at h <;> simp only [ly, wBytes, wNum, wSig, wText]
  case nonce => right; simp [h]
  case salt => right; simp [h]
  case cookie => right; simp [h]
  case tag => right; simp [h]
  case epoch => exact absurd hf.e h
  case session => exact absurd hf.s h
  case seq => exact absurd hf.q h
  case thr => left; rw [if_neg h]
  case turn => left; rw [if_neg h]
  case player => left; rw [if_neg h]
  case flags => exact absurd trivial h
  case name => left; rw [if_neg (by rw [sl_len]; exact h)]
  case view => exact absurd trivial h
  case zeros => exact absurd trivial h
def bad (s : LS) : Prop := s.1 = none ∨ s.2 = true
theorem ly_bad (d : Dg) (f : Fd) (s : LS) (h : bad s) : bad (ly d f s) := by
  obtain ⟨st, r⟩ := s; rcases h with h | h
  · simp only at h; subst h; cases f <;> simp [ly, bad, wBytes, wNum, wSig, wText]
  · simp only at h; subst h; cases f <;> simp [ly, bad]
theorem lays_bad (d : Dg) : ∀ (fs : List Fd) (s : LS), bad s → bad (lays d fs s)
  | [], _, h => h
  | f :: fs, s, h => lays_bad d fs (ly d f s) (ly_bad d f s h)
theorem finish_bad (s : LS) (h : bad s) : finish s = ([], 73) := by
  obtain ⟨st, r⟩ := s; cases st with
  | none => rfl
  | some L =>
    rcases h with h | h
    · cases h
    · simp only at h; subst h; rfl
def bytesF (d : Dg) (fs : List Fd) : List UInt8 := (fs.map (lyB d)).flatten
theorem lays_fit (d : Dg) : ∀ (fs : List Fd) (P : List UInt8), (∀ f ∈ fs, fitF d f) → lays d fs (some P, false) = (some (P ++ bytesF d fs), false)
  | [], P, _ => by simp [lays, bytesF]
  | f :: fs, P, h => by
    show lays d fs (ly d f (some P, false)) = _; rw [ly_fit d f P false (h f (by simp)), lays_fit d fs _ (fun g hg => h g (by simp [hg]))]; simp [bytesF]
theorem lays_miss (d : Dg) (hf : d.fine) : ∀ (fs : List Fd) (P : List UInt8) (f : Fd), f ∈ fs → ¬ fitF d f → bad (lays d fs (some P, false))
  | [], P, f, h, _ => by cases h
  | g :: fs, P, f, h, hn => by
    show bad (lays d fs (ly d g (some P, false))); by_cases hg : fitF d g
    · rw [ly_fit d g P false hg]
      have : f ∈ fs := by
        rcases List.mem_cons.1 h with e | e
        · subst e; exact absurd hg hn
        · exact e
      exact lays_miss d hf fs _ f this hn
    · exact lays_bad d fs _ (ly_miss d g P hf hg)
theorem enc_is (d : Dg) (hf : d.fine) : enc d = if fieldsL d.kind = [] then ([], 71) else @ite _ (∀ f ∈ fieldsL d.kind, fitF d f) (Classical.propDecidable _) (if 1200 < (headL d ++ bytesF d (fieldsL d.kind)).length then ([], 72) else (headL d ++ bytesF d (fieldsL d.kind), 0)) ([], 73) := by
  unfold enc; by_cases h0 : fieldsL d.kind = []
  · rw [if_pos h0, if_pos h0]
  · rw [if_neg h0, if_neg h0]; by_cases h : ∀ f ∈ fieldsL d.kind, fitF d f
    · rw [if_pos h, lays_fit d _ _ h]; simp [finish]
    · rw [if_neg h]
      have : ∃ f, f ∈ fieldsL d.kind ∧ ¬ fitF d f := by
        refine Classical.byContradiction (fun hc => h (fun f hm => Classical.byContradiction (fun hn => hc ⟨f, hm, hn⟩)))
      obtain ⟨f, hm, hn⟩ := this; exact finish_bad _ (lays_miss d hf _ _ f hm hn)
theorem need_app (a R : List UInt8) (n : Int) (h : n = (a.length : Int)) : need (a ++ R) n = some (a, R) := by
  subst h; rw [need, if_neg (by simp; omega), Int.toNat_natCast, List.take_left, List.drop_left]
theorem val_be8 (x : Nat) (h : x < 18446744073709551616) : val (be 8 x) = x := by
  rw [val_be]; exact Nat.mod_eq_of_lt h
theorem val_be1 (x : Nat) (h : x < 256) : val (be 1 x) = x := by
  rw [val_be]; exact Nat.mod_eq_of_lt (by simpa using h)
theorem tk_there (d : Dg) (f : Fd) (e : Dg) (R : List UInt8) (r : Bool) (h : fitF d f) (hp : f = .player → -9223372036854775808 ≤ d.player ∧ d.player < 9223372036854775808) (hv : f = .view → R.length = 32) : tk f (e, lyB d f ++ R, r) = some (cp d f e, R, r) := by
  have sb : ∀ s : ByteArray, ba (sl s) = s := fun s => sl_back s
  cases f <;> simp only [fitF] at h <;> simp only [tk, lyB, cp]
  case nonce => rw [need_app _ _ _ (by rw [sl_len, h]; rfl)]; simp only [Option.map_some, sb]
  case salt => rw [need_app _ _ _ (by rw [sl_len, h]; rfl)]; simp only [Option.map_some, sb]
  case cookie => rw [need_app _ _ _ (by rw [sl_len, h]; rfl)]; simp only [Option.map_some, sb]
  case tag => rw [need_app _ _ _ (by rw [sl_len, h]; rfl)]; simp only [Option.map_some, sb]
  case epoch => rw [need_app _ _ _ (by rw [be_len]; rfl)]; simp only [Option.map_some, val_be8 _ h]
  case session => rw [need_app _ _ _ (by rw [be_len]; rfl)]; simp only [Option.map_some, val_be8 _ h]
  case seq => rw [need_app _ _ _ (by rw [be_len]; rfl)]; simp only [Option.map_some, val_be8 _ h]
  case thr => rw [need_app _ _ _ (by rw [be_len]; rfl)]; simp only [Option.map_some]; rw [show sval (be 1 (u64 d.thr)) = d.thr from sval_be d.thr 1 h]
  case turn => rw [need_app _ _ _ (by rw [be_len]; rfl)]; simp only [Option.map_some]; rw [show sval (be 1 (u64 d.turn)) = d.turn from sval_be d.turn 1 h]
  case player =>
    rw [need_app _ _ _ (by rw [be_len]; rfl)]; have h2 : u64 d.player < 256 := by have := h.2; simpa using this
    simp only [Option.map_some, val_be1 _ h2]
    have : ((u64 d.player : Nat) : Int) = d.player := by
      have := hp rfl; unfold u64 at h2 ⊢; omega
    rw [this]
  case flags =>
    rw [need_app _ _ _ (by rw [be_len]; rfl)]; simp only [Option.map_some, val_be1 _ (flagsN_lt d)]; cases hfi : d.fire <;> cases hbo : d.boost <;> simp [flagsN, hfi, hbo]
  case name =>
    have e1 : need (UInt8.ofNat d.name.size :: sl d.name ++ R) 1 = some ([UInt8.ofNat d.name.size], sl d.name ++ R) := need_app [UInt8.ofNat d.name.size] (sl d.name ++ R) 1 rfl; rw [e1]; simp only [Option.bind_some]; (have e2 : val [UInt8.ofNat d.name.size] = d.name.size := by simp [val]; omega); rw [e2, need_app _ _ _ (by rw [sl_len])]; simp only [Option.map_some, sb]
  case view =>
    rw [need_app _ _ _ (by rw [List.length_append, hv rfl]; omega)]; simp only [Option.map_some, sb]
  case zeros =>
    rw [need_app _ _ _ (by decide)]; simp
theorem takes_there (d : Dg) (hf : d.fine) (h : ∀ f ∈ fieldsL d.kind, fitF d f) (e : Dg) : takes (fieldsL d.kind) (e, bytesF d (fieldsL d.kind), false) = some (cps d (fieldsL d.kind) e, [], false) := by
  by_cases hk : d.kind < 1 ∨ 7 < d.kind
  · rw [fieldsL_nil hk]; rfl
  · (have hks : d.kind = 1 ∨ d.kind = 2 ∨ d.kind = 3 ∨ d.kind = 4 ∨ d.kind = 5 ∨ d.kind = 6 ∨ d.kind = 7 := by omega); (have ht : ∀ (f : Fd) (x : Dg) (R : List UInt8), f ∈ fieldsL d.kind → (f = .view → R.length = 32) → tk f (x, lyB d f ++ R, false) = some (cp d f x, R, false) := fun f x R hm hv => tk_there d f x R false (h f hm) (fun _ => hf.p) hv); rcases hks with hk | hk | hk | hk | hk | hk | hk
    all_goals rw [hk] at h ht ⊢
    all_goals simp only [fieldsL, bytesF, List.map_cons, List.map_nil, List.flatten_cons, List.flatten_nil, takes, cps, reduceIte, Int.reduceEq] at h ht ⊢
    all_goals (repeat (rw [ht _ _ _ (by simp) (by first | (intro e; cases e; done) | (intro _; rw [List.append_nil]; exact (sl_len _).trans (h .tag (by simp))))]; simp only [Option.bind_some]))
theorem kind_head (d : Dg) (hk : 1 ≤ d.kind ∧ d.kind ≤ 7) (X : List UInt8) : kindL (headL d ++ X) = d.kind ∧ (headL d ++ X).take 3 = magic ∧ (headL d ++ X).drop 4 = X := by
  obtain ⟨k, hkk⟩ : ∃ k : Nat, d.kind = (k : Int) := ⟨d.kind.toNat, by omega⟩
  have e : headL d = [74, 48, 49, UInt8.ofNat k] := by
    unfold headL u64; rw [hkk, show ((k : Int) % 18446744073709551616).toNat % 256 = k by omega]; rfl
  rw [e]; refine ⟨?_, rfl, rfl⟩; rw [kindL, if_neg (by simp; rfl)]; show (((UInt8.ofNat k).toNat : Nat) : Int) = _; rw [hkk]; simp; omega
theorem dec_enc (d : Dg) (hf : d.fine) (h : (enc d).2 = 0) : dec (enc d).1 = (onlyD d, 0) := by
  rw [enc_is d hf] at h ⊢; by_cases h0 : fieldsL d.kind = []
  · rw [if_pos h0] at h; cases h
  · rw [if_neg h0] at h ⊢; by_cases hft : ∀ f ∈ fieldsL d.kind, fitF d f
    · rw [if_pos hft] at h ⊢; by_cases hl : 1200 < (headL d ++ bytesF d (fieldsL d.kind)).length
      · rw [if_pos hl] at h; cases h
      · rw [if_neg hl]
        have hk : 1 ≤ d.kind ∧ d.kind ≤ 7 := by
          refine Classical.byContradiction (fun hc => h0 (fieldsL_nil (by omega)))
        obtain ⟨e1, e2, e3⟩ := kind_head d hk (bytesF d (fieldsL d.kind)); dsimp only; rw [dec, if_neg hl, if_neg (by simp [e2]), e1, if_neg h0, e3, takes_there d hf hft]; simp [ended, onlyD]
    · rw [if_neg hft] at h; cases h
theorem fields_tag {k : Int} (h : 3 ≤ k ∧ k ≤ 7) : ∃ fs, fieldsL k = fs ++ [.tag] ∧ ∀ f ∈ fs, f ≠ .tag := by
  have hk : k = 3 ∨ k = 4 ∨ k = 5 ∨ k = 6 ∨ k = 7 := by omega
  rcases hk with rfl | rfl | rfl | rfl | rfl
  · exact ⟨[.nonce, .epoch, .cookie, .name], rfl, by simp⟩
  · exact ⟨[.nonce, .session, .player, .salt], rfl, by simp⟩
  · exact ⟨[.session, .seq, .thr, .turn, .flags], rfl, by simp⟩
  · exact ⟨[.session, .seq, .view], rfl, by simp⟩
  · exact ⟨[.session, .seq], rfl, by simp⟩
def Dg.wear (d : Dg) (x : ByteArray) : Dg := { d with tag := x }
theorem lyB_wear (d : Dg) (x : ByteArray) (f : Fd) (h : f ≠ .tag) : lyB (d.wear x) f = lyB d f := by
  cases f <;> first | rfl | exact absurd rfl h
theorem fitF_wear (d : Dg) (x : ByteArray) (f : Fd) (h : f ≠ .tag) : fitF (d.wear x) f = fitF d f := by
  cases f <;> first | rfl | exact absurd rfl h
theorem bytes_wear (d : Dg) (x : ByteArray) (fs : List Fd) (h : ∀ f ∈ fs, f ≠ .tag) : bytesF (d.wear x) (fs ++ [.tag]) = bytesF d fs ++ sl x := by
  unfold bytesF; rw [List.map_append, List.flatten_append]
  congr 1
  · congr 1
    exact List.map_congr_left (fun f hf => lyB_wear d x f (h f hf))
  · simp only [List.map_cons, List.map_nil, List.flatten_cons, List.flatten_nil, List.append_nil]; rfl
theorem Dg.wear_fine {d : Dg} (h : d.fine) (x : ByteArray) : (d.wear x).fine := ⟨h.k, h.e, h.s, h.p, h.q, h.h, h.t⟩
theorem enc_wear (d : Dg) (hf : d.fine) (hk : 3 ≤ d.kind ∧ d.kind ≤ 7) : ∃ X : List UInt8, 4 ≤ X.length ∧ (∀ y : List UInt8, kindL (X ++ y) = d.kind) ∧
    ∀ x : ByteArray, x.size = 32 → enc (d.wear x) = @ite _ (∀ f ∈ fieldsL d.kind, f ≠ .tag → fitF d f) (Classical.propDecidable _) (if 1200 < X.length + 32 then ([], 72) else (X ++ sl x, 0)) ([], 73) := by
  obtain ⟨fs, hfs, hnt⟩ := fields_tag hk; refine ⟨headL d ++ bytesF d fs, by simp [headL, magic], fun y => by rw [List.append_assoc]; exact (kind_head d (by omega) _).1, fun x hx => ?_⟩; rw [enc_is _ (Dg.wear_fine hf x)]; have hkk : (d.wear x).kind = d.kind := rfl; have hh : headL (d.wear x) = headL d := rfl; rw [hkk, hh, if_neg (fieldsL_some (by omega))]; have e : bytesF (d.wear x) (fieldsL d.kind) = bytesF d fs ++ sl x := by rw [hfs]; exact bytes_wear d x fs hnt
  have hl : (headL d ++ (bytesF d fs ++ sl x)).length = (headL d ++ bytesF d fs).length + 32 := by
    rw [← List.append_assoc, List.length_append, sl_len, hx]
  have hq : (∀ f ∈ fieldsL d.kind, fitF (d.wear x) f) ↔ (∀ f ∈ fieldsL d.kind, f ≠ .tag → fitF d f) := by
    constructor
    · intro h f hm hne; rw [← fitF_wear d x f hne]; exact h f hm
    · intro h f hm; by_cases hne : f = .tag
      · subst hne; exact hx
      · rw [fitF_wear d x f hne]; exact h f hm hne
  rw [e, hl]; by_cases h : ∀ f ∈ fieldsL d.kind, f ≠ .tag → fitF d f
  · rw [if_pos (hq.2 h), if_pos h, List.append_assoc]
  · rw [if_neg (fun c => h (hq.1 c)), if_neg h]
theorem zero32_size : zero32.size = 32 := by decide
theorem seal_yes (d : Dg) (key : ByteArray) (hf : d.fine) (h : (sealD d key).2 = 0) : ∃ body : ByteArray, bodyB (sealD d key).1 = body ∧ (sealD d key).1 = body ++ hmacB key body ∧ enc (d.wear (hmacB key body)) = (sl (sealD d key).1, 0) ∧ (3 ≤ d.kind ∧ d.kind ≤ 7) ∧ 4 ≤ body.size ∧ body.size + 32 ≤ 1200 := by
  by_cases hk : 3 ≤ d.kind ∧ d.kind ≤ 7
  · obtain ⟨X, hX4, hXk, hX⟩ := enc_wear d hf hk; have hb : enc d.bare = _ := hX zero32 zero32_size; (have hs : sealD d key = if (enc d.bare).2 = 0 then (bodyB (ba (enc d.bare).1) ++ hmacB key (bodyB (ba (enc d.bare).1)), 0) else (nob, (enc d.bare).2) := by rw [sealD, if_pos hk]); by_cases hft : ∀ f ∈ fieldsL d.kind, f ≠ .tag → fitF d f
    · rw [if_pos hft] at hb; by_cases hl : 1200 < X.length + 32
      · rw [if_pos hl] at hb; rw [hs, hb] at h; rw [if_neg (by decide)] at h; cases h
      · rw [if_neg hl] at hb
        have hbody : ∀ y : List UInt8, y.length = 32 → bodyB (ba (X ++ y)) = ba X := fun y hy => by
          rw [bodyB, show sl (ba (X ++ y)) = X ++ y from sl_mk _, bodyL, if_neg, List.length_append, hy, Nat.add_sub_cancel, List.take_left]; rw [hXk, List.length_append, hy]; omega
        have hb0 : bodyB (ba (X ++ sl zero32)) = ba X := hbody _ (by rw [sl_len]; exact zero32_size); rw [hb, if_pos rfl] at hs; dsimp only at hs; rw [hb0] at hs
        have hsl : ba X ++ hmacB key (ba X) = ba (X ++ sl (hmacB key (ba X))) := by
          apply sl_inj; rw [sl_app, show sl (ba X) = X from sl_mk _, show sl (ba (X ++ sl (hmacB key (ba X)))) = X ++ sl (hmacB key (ba X)) from sl_mk _]
        refine ⟨ba X, ?_, by rw [hs], ?_, hk, by rw [ba_size]; exact hX4, by rw [ba_size]; omega⟩
        · rw [hs]; dsimp only; rw [hsl]; exact hbody _ (by rw [sl_len, hmacB_size])
        · rw [hX _ (hmacB_size _ _), if_pos hft, if_neg hl, hs]; dsimp only; rw [hsl, show sl (ba (X ++ sl (hmacB key (ba X)))) = X ++ sl (hmacB key (ba X)) from sl_mk _]
    · rw [if_neg hft] at hb; rw [hs, hb] at h; rw [if_neg (by decide)] at h; cases h
  · rw [sealD, if_neg hk] at h; cases h
theorem cps_kind (d : Dg) : ∀ (fs : List Fd) (e : Dg), (cps d fs e).kind = e.kind
  | [], _ => rfl
  | f :: fs, e => by
    rw [cps, cps_kind d fs]; cases f <;> rfl
theorem need_cut {L a b : List UInt8} {n : Int} (h : need L n = some (a, b)) : L = a ++ b ∧ (a.length : Int) = n := by
  obtain ⟨h0, h1, h2⟩ := need_some h; injection h2 with h2 h3
  subst h2 h3; exact ⟨(List.take_append_drop _ _).symm, by rw [List.length_take]; omega⟩
theorem sl_ba (l : List UInt8) : sl (ba l) = l := sl_mk l
theorem tk_back {f : Fd} {e e' : Dg} {L L' : List UInt8} {r : Bool} (h : tk f (e, L, r) = some (e', L', false)) : r = false ∧ L = lyB e' f ++ L' ∧ fitF e' f ∧ e' = cp e' f e := by
  cases f <;> simp only [tk] at h
  case nonce =>
    obtain ⟨⟨a, b⟩, h1, h2⟩ := Option.map_eq_some_iff.1 h; obtain ⟨h3, h4⟩ := need_cut h1; simp only [Prod.mk.injEq] at h2; obtain ⟨rfl, rfl, rfl⟩ := h2; exact ⟨rfl, by simp only [lyB, sl_ba]; exact h3, by simp only [fitF, ba_size]; omega, rfl⟩
  case salt =>
    obtain ⟨⟨a, b⟩, h1, h2⟩ := Option.map_eq_some_iff.1 h; obtain ⟨h3, h4⟩ := need_cut h1; simp only [Prod.mk.injEq] at h2; obtain ⟨rfl, rfl, rfl⟩ := h2; exact ⟨rfl, by simp only [lyB, sl_ba]; exact h3, by simp only [fitF, ba_size]; omega, rfl⟩
  case cookie =>
    obtain ⟨⟨a, b⟩, h1, h2⟩ := Option.map_eq_some_iff.1 h; obtain ⟨h3, h4⟩ := need_cut h1; simp only [Prod.mk.injEq] at h2; obtain ⟨rfl, rfl, rfl⟩ := h2; exact ⟨rfl, by simp only [lyB, sl_ba]; exact h3, by simp only [fitF, ba_size]; omega, rfl⟩
  case tag =>
    obtain ⟨⟨a, b⟩, h1, h2⟩ := Option.map_eq_some_iff.1 h; obtain ⟨h3, h4⟩ := need_cut h1; simp only [Prod.mk.injEq] at h2; obtain ⟨rfl, rfl, rfl⟩ := h2; exact ⟨rfl, by simp only [lyB, sl_ba]; exact h3, by simp only [fitF, ba_size]; omega, rfl⟩
  case view =>
    obtain ⟨⟨a, b⟩, h1, h2⟩ := Option.map_eq_some_iff.1 h; obtain ⟨h3, h4⟩ := need_cut h1; simp only [Prod.mk.injEq] at h2; obtain ⟨rfl, rfl, rfl⟩ := h2; exact ⟨rfl, by simp only [lyB, sl_ba]; exact h3, trivial, rfl⟩
  case epoch =>
    obtain ⟨⟨a, b⟩, h1, h2⟩ := Option.map_eq_some_iff.1 h; obtain ⟨h3, h4⟩ := need_cut h1; simp only [Prod.mk.injEq] at h2; obtain ⟨rfl, rfl, rfl⟩ := h2; (have h8 : a.length = 8 := by omega); have hv := val_lt a; have hb := be_val a; rw [h8] at hv hb; exact ⟨rfl, by simp only [lyB, hb]; exact h3, by simp only [fitF]; simpa using hv, rfl⟩
  case session =>
    obtain ⟨⟨a, b⟩, h1, h2⟩ := Option.map_eq_some_iff.1 h; obtain ⟨h3, h4⟩ := need_cut h1; simp only [Prod.mk.injEq] at h2; obtain ⟨rfl, rfl, rfl⟩ := h2; (have h8 : a.length = 8 := by omega); have hv := val_lt a; have hb := be_val a; rw [h8] at hv hb; exact ⟨rfl, by simp only [lyB, hb]; exact h3, by simp only [fitF]; simpa using hv, rfl⟩
  case seq =>
    obtain ⟨⟨a, b⟩, h1, h2⟩ := Option.map_eq_some_iff.1 h; obtain ⟨h3, h4⟩ := need_cut h1; simp only [Prod.mk.injEq] at h2; obtain ⟨rfl, rfl, rfl⟩ := h2; (have h8 : a.length = 8 := by omega); have hv := val_lt a; have hb := be_val a; rw [h8] at hv hb; exact ⟨rfl, by simp only [lyB, hb]; exact h3, by simp only [fitF]; simpa using hv, rfl⟩
  case thr =>
    obtain ⟨⟨a, b⟩, h1, h2⟩ := Option.map_eq_some_iff.1 h; obtain ⟨h3, h4⟩ := need_cut h1; simp only [Prod.mk.injEq] at h2; obtain ⟨rfl, rfl, rfl⟩ := h2; (have h8 : a.length = 1 := by omega); have hv := fits_sval a; have hb := be_sval a (by omega) (by omega); rw [h8] at hv hb; exact ⟨rfl, by simp only [lyB, hb]; exact h3, ⟨by decide, hv⟩, rfl⟩
  case turn =>
    obtain ⟨⟨a, b⟩, h1, h2⟩ := Option.map_eq_some_iff.1 h; obtain ⟨h3, h4⟩ := need_cut h1; simp only [Prod.mk.injEq] at h2; obtain ⟨rfl, rfl, rfl⟩ := h2; (have h8 : a.length = 1 := by omega); have hv := fits_sval a; have hb := be_sval a (by omega) (by omega); rw [h8] at hv hb; exact ⟨rfl, by simp only [lyB, hb]; exact h3, ⟨by decide, hv⟩, rfl⟩
  case player =>
    obtain ⟨⟨a, b⟩, h1, h2⟩ := Option.map_eq_some_iff.1 h; obtain ⟨h3, h4⟩ := need_cut h1; simp only [Prod.mk.injEq] at h2; obtain ⟨rfl, rfl, rfl⟩ := h2; (have h8 : a.length = 1 := by omega); have hv := val_lt a; have hb := be_val a; rw [h8] at hv hb; (have hv2 : val a < 256 := by simpa using hv); (have hu : u64 ((val a : Nat) : Int) = val a := by unfold u64; omega); exact ⟨rfl, by simp only [lyB, hu, hb]; exact h3, by simp only [fitF, hu]; exact ⟨by decide, by simpa using hv⟩, rfl⟩
  case flags =>
    obtain ⟨⟨a, b⟩, h1, h2⟩ := Option.map_eq_some_iff.1 h; obtain ⟨h3, h4⟩ := need_cut h1; simp only [Prod.mk.injEq] at h2; obtain ⟨rfl, rfl, h5⟩ := h2; (have h8 : a.length = 1 := by omega); have hb := be_val a; rw [h8] at hb
    obtain ⟨hr, hle⟩ : r = false ∧ val a ≤ 3 := by
      (cases r <;> simp at h5 ⊢); exact h5
    refine ⟨hr, ?_, trivial, rfl⟩
    have hf : flagsN { e with fire := decide (val a % 2 = 1), boost := decide (val a / 2 % 2 = 1) } = val a := by
      unfold flagsN; (have hc : val a = 0 ∨ val a = 1 ∨ val a = 2 ∨ val a = 3 := by omega); rcases hc with q | q | q | q <;> rw [q] <;> rfl
    simp only [lyB, hf, hb]; exact h3
  case name =>
    obtain ⟨⟨a, b⟩, h1, h2⟩ := Option.bind_eq_some_iff.1 h; obtain ⟨⟨a2, b2⟩, h6, h7⟩ := Option.map_eq_some_iff.1 h2; obtain ⟨h3, h4⟩ := need_cut h1; simp only at h6; obtain ⟨h8, h9⟩ := need_cut h6; simp only [Prod.mk.injEq] at h7; obtain ⟨rfl, rfl, rfl⟩ := h7
    obtain ⟨x, rfl⟩ : ∃ x, a = [x] := by
      match a, h4 with
      | [x], _ => exact ⟨x, rfl⟩
      | [], h4 => simp at h4
      | _ :: _ :: _, h4 => simp at h4; omega
    (have hvx : val [x] = x.toNat := by simp [val]); rw [hvx] at h9; have hx := UInt8.toNat_lt x; (have hsz : (ba a2).size = x.toNat := by rw [ba_size]; omega); refine ⟨rfl, ?_, by simp only [fitF, hsz]; omega, rfl⟩; simp only [lyB, sl_ba, hsz]; rw [h3, h8]; simp
  case zeros =>
    obtain ⟨⟨a, b⟩, h1, h2⟩ := Option.map_eq_some_iff.1 h; obtain ⟨h3, h4⟩ := need_cut h1; simp only [Prod.mk.injEq] at h2; obtain ⟨rfl, rfl, h5⟩ := h2
    obtain ⟨hr, hz⟩ : r = false ∧ a = zero76 := by
      (cases r <;> simp at h5 ⊢); exact h5
    subst hz; exact ⟨hr, by simp only [lyB]; exact h3, trivial, rfl⟩
theorem apartF {f g : Fd} (h : g ≠ f) (d e : Dg) : lyB (cp d g e) f = lyB e f ∧ (fitF (cp d g e) f ↔ fitF e f) ∧ ∀ y, cp (cp d g e) f y = cp e f y := by
  cases f <;> cases g <;> first | exact absurd rfl h | exact ⟨rfl, Iff.rfl, fun _ => rfl⟩
theorem apartFs {f : Fd} (d : Dg) : ∀ (fs : List Fd) (e : Dg), (∀ g ∈ fs, g ≠ f) → lyB (cps d fs e) f = lyB e f ∧ (fitF (cps d fs e) f ↔ fitF e f) ∧ ∀ y, cp (cps d fs e) f y = cp e f y
  | [], _, _ => ⟨rfl, Iff.rfl, fun _ => rfl⟩
  | g :: fs, e, h => by
    obtain ⟨a1, a2, a3⟩ := apartFs d fs (cp d g e) (fun x hx => h x (by simp [hx])); obtain ⟨b1, b2, b3⟩ := apartF (h g (by simp)) d e; exact ⟨a1.trans b1, a2.trans b2, fun y => (a3 y).trans (b3 y)⟩
theorem tk_r {f : Fd} {e e' : Dg} {L L' : List UInt8} {r' : Bool} (h : tk f (e, L, true) = some (e', L', r')) : r' = true := by
  cases f <;> simp only [tk] at h
  case name =>
    obtain ⟨⟨a, b⟩, h1, h2⟩ := Option.bind_eq_some_iff.1 h; obtain ⟨⟨a2, b2⟩, h6, h7⟩ := Option.map_eq_some_iff.1 h2; simp only [Prod.mk.injEq] at h7; exact h7.2.2.symm
  all_goals
    obtain ⟨⟨a, b⟩, h1, h2⟩ := Option.map_eq_some_iff.1 h; simp only [Prod.mk.injEq, Bool.true_or] at h2; exact h2.2.2.symm
theorem takes_r : ∀ {fs : List Fd} {e e' : Dg} {L L' : List UInt8} {r' : Bool}, takes fs (e, L, true) = some (e', L', r') → r' = true
  | [], _, _, _, _, _, h => by simp only [takes, Option.some.injEq, Prod.mk.injEq] at h; exact h.2.2.symm
  | f :: fs, e, e', L, L', r', h => by
    rw [takes] at h; obtain ⟨⟨e1, L1, r1⟩, h1, h2⟩ := Option.bind_eq_some_iff.1 h; have := tk_r h1; subst this; exact takes_r h2
theorem takes_back : ∀ {fs : List Fd} {e x : Dg} {L : List UInt8} {r : Bool}, fs.Nodup → takes fs (e, L, r) = some (x, [], false) → L = bytesF x fs ∧ (∀ f ∈ fs, fitF x f) ∧ x = cps x fs e
  | [], e, x, L, r, _, h => by
    simp only [takes, Option.some.injEq, Prod.mk.injEq] at h; obtain ⟨rfl, rfl, _⟩ := h; exact ⟨rfl, fun f hf => (by cases hf), rfl⟩
  | f :: fs, e, x, L, r, hnd, h => by
    rw [takes] at h; obtain ⟨⟨e1, L1, r1⟩, h1, h2⟩ := Option.bind_eq_some_iff.1 h
    have hr1 : r1 = false := by
      cases r1
      · rfl
      · cases takes_r h2
    subst hr1; obtain ⟨_, hL, hfit, hcp⟩ := tk_back h1; obtain ⟨hn1, hn2⟩ := List.nodup_cons.1 hnd; obtain ⟨i1, i2, i3⟩ := takes_back hn2 h2; obtain ⟨a1, a2, a3⟩ := apartFs (f := f) x fs e1 (fun g hg e => hn1 (e ▸ hg)); rw [← i3] at a1 a2 a3; refine ⟨?_, fun g hg => ?_, ?_⟩
    · show L = lyB x f ++ bytesF x fs; rw [hL, i1, a1]
    · rcases List.mem_cons.1 hg with q | q
      · subst q; exact a2.2 hfit
      · exact i2 g q
    · show x = cps x fs (cp x f e); rw [a3 e, ← hcp]; exact i3
structure Okd (d : Dg) : Prop where
  f : d.fine
  n : d.nonce.size ≤ 1200
  c : d.cookie.size ≤ 1200
  m : d.name.size ≤ 1200
  s : d.salt.size ≤ 1200
  dt : d.data.size ≤ 1200
  t : d.tag.size ≤ 1200
theorem vlt8 {a : List UInt8} (h : (a.length : Int) = 8) : val a < 18446744073709551616 := by
  have hv := val_lt a; rw [show a.length = 8 by omega] at hv
  simpa using hv
theorem vlt1 {a : List UInt8} (h : (a.length : Int) = 1) : val a < 256 := by
  have hv := val_lt a; rw [show a.length = 1 by omega] at hv
  simpa using hv
theorem sval1 {a : List UInt8} (h : (a.length : Int) = 1) : -128 ≤ sval a ∧ sval a < 128 := by
  have hv := fits_sval a; rw [show a.length = 1 by omega] at hv; have e : ((256 ^ 1 : Nat) : Int) = 256 := by decide
  rw [e] at hv; omega
theorem tk_ok {f : Fd} {e e' : Dg} {L L' : List UInt8} {r r' : Bool} (h : tk f (e, L, r) = some (e', L', r')) (o : Okd e) (hl : L.length ≤ 1200) : Okd e' ∧ L'.length ≤ 1200 := by
  obtain ⟨⟨fk, fe, fs, fp, fq, fh, ft⟩, o2, o3, o4, o5, o6, o7⟩ := o; cases f <;> simp only [tk] at h
  case name =>
    obtain ⟨⟨a, b⟩, h1, h2⟩ := Option.bind_eq_some_iff.1 h; obtain ⟨⟨a2, b2⟩, h6, h7⟩ := Option.map_eq_some_iff.1 h2; obtain ⟨h3, h4⟩ := need_cut h1; simp only at h6; obtain ⟨h8, h9⟩ := need_cut h6; simp only [Prod.mk.injEq] at h7; obtain ⟨rfl, rfl, rfl⟩ := h7; (have hL : L.length = a.length + (a2.length + b2.length) := by rw [h3, h8, List.length_append, List.length_append]); exact ⟨⟨⟨fk, fe, fs, fp, fq, fh, ft⟩, o2, o3, by simp only [ba_size]; omega, o5, o6, o7⟩, by omega⟩
  all_goals
    obtain ⟨⟨a, b⟩, h1, h2⟩ := Option.map_eq_some_iff.1 h; obtain ⟨h3, h4⟩ := need_cut h1; simp only [Prod.mk.injEq] at h2; obtain ⟨rfl, rfl, _⟩ := h2; have hL : L.length = a.length + b.length := by rw [h3, List.length_append]
  case nonce => exact ⟨⟨⟨fk, fe, fs, fp, fq, fh, ft⟩, by simp only [ba_size]; omega, o3, o4, o5, o6, o7⟩, by omega⟩
  case cookie => exact ⟨⟨⟨fk, fe, fs, fp, fq, fh, ft⟩, o2, by simp only [ba_size]; omega, o4, o5, o6, o7⟩, by omega⟩
  case salt => exact ⟨⟨⟨fk, fe, fs, fp, fq, fh, ft⟩, o2, o3, o4, by simp only [ba_size]; omega, o6, o7⟩, by omega⟩
  case view => exact ⟨⟨⟨fk, fe, fs, fp, fq, fh, ft⟩, o2, o3, o4, o5, by simp only [ba_size]; omega, o7⟩, by omega⟩
  case tag => exact ⟨⟨⟨fk, fe, fs, fp, fq, fh, ft⟩, o2, o3, o4, o5, o6, by simp only [ba_size]; omega⟩, by omega⟩
  case epoch => exact ⟨⟨⟨fk, vlt8 h4, fs, fp, fq, fh, ft⟩, o2, o3, o4, o5, o6, o7⟩, by omega⟩
  case session => exact ⟨⟨⟨fk, fe, vlt8 h4, fp, fq, fh, ft⟩, o2, o3, o4, o5, o6, o7⟩, by omega⟩
  case seq => exact ⟨⟨⟨fk, fe, fs, fp, vlt8 h4, fh, ft⟩, o2, o3, o4, o5, o6, o7⟩, by omega⟩
  case thr => exact ⟨⟨⟨fk, fe, fs, fp, fq, by have := sval1 h4; simp only; omega, ft⟩, o2, o3, o4, o5, o6, o7⟩, by omega⟩
  case turn => exact ⟨⟨⟨fk, fe, fs, fp, fq, fh, by have := sval1 h4; simp only; omega⟩, o2, o3, o4, o5, o6, o7⟩, by omega⟩
  case player => exact ⟨⟨⟨fk, fe, fs, by have := vlt1 h4; simp only; omega, fq, fh, ft⟩, o2, o3, o4, o5, o6, o7⟩, by omega⟩
  case flags => exact ⟨⟨⟨fk, fe, fs, fp, fq, fh, ft⟩, o2, o3, o4, o5, o6, o7⟩, by omega⟩
  case zeros => exact ⟨⟨⟨fk, fe, fs, fp, fq, fh, ft⟩, o2, o3, o4, o5, o6, o7⟩, by omega⟩
theorem takes_ok : ∀ {fs : List Fd} {e e' : Dg} {L L' : List UInt8} {r r' : Bool}, takes fs (e, L, r) = some (e', L', r') → Okd e → L.length ≤ 1200 → Okd e'
  | [], _, _, _, _, _, _, h, o, _ => by simp only [takes, Option.some.injEq, Prod.mk.injEq] at h; rw [← h.1]; exact o
  | f :: fs, e, e', L, L', r, r', h, o, hl => by
    rw [takes] at h; obtain ⟨⟨e1, L1, r1⟩, h1, h2⟩ := Option.bind_eq_some_iff.1 h; obtain ⟨o1, l1⟩ := tk_ok h1 o hl; exact takes_ok h2 o1 l1
theorem zero_ok {k : Int} (h : -9223372036854775808 ≤ k ∧ k < 9223372036854775808) : Okd (Dg.zero k) := by
  have n0 : nob.size ≤ 1200 := by decide
  have z0 : (0 : Nat) < 18446744073709551616 := by decide
  have i0 : (-9223372036854775808 : Int) ≤ 0 ∧ (0 : Int) < 9223372036854775808 := by decide
  exact ⟨⟨h, z0, z0, i0, z0, i0, i0⟩, n0, n0, n0, n0, n0, n0⟩
theorem fields_nodup (k : Int) : (fieldsL k).Nodup := by
  unfold fieldsL; split
  · simp
  split
  · simp
  split
  · simp
  split
  · simp
  split
  · simp
  split
  · simp
  split
  · simp
  · simp
theorem ended_zero {o : Option TS} (h : (ended o).2 = 0) : ∃ d, o = some (d, [], false) ∧ ended o = (d, 0) := by
  match o, h with
  | none, h => cases h
  | some (d, L, r), h =>
    simp only [ended] at h ⊢; by_cases hL : 0 < L.length
    · rw [if_pos hL] at h; cases h
    · rw [if_neg hL] at h ⊢; cases r
      · have : L = [] := by cases L with
          | nil => rfl
          | cons x L => simp at hL
        subst this; exact ⟨d, rfl, rfl⟩
      · cases h
theorem mem_len {f : Fd} {fs : List Fd} (x : Dg) (h : f ∈ fs) : (lyB x f).length ≤ (bytesF x fs).length := by
  induction fs with
  | nil => cases h
  | cons g fs ih =>
    show _ ≤ (lyB x g ++ bytesF x fs).length; rw [List.length_append]; rcases List.mem_cons.1 h with q | q
    · subst q; omega
    · have := ih q; omega
theorem dec_back {s : List UInt8} (h : (dec s).2 = 0) : enc (dec s).1 = (s, 0) ∧ onlyD (dec s).1 = (dec s).1 ∧ Okd (dec s).1 ∧ (bodyL s = [] ↔ (dec s).1.kind ≤ 2) ∧ (1 ≤ (dec s).1.kind ∧ (dec s).1.kind ≤ 7) := by
  unfold dec at h ⊢; by_cases h12 : 1200 < s.length
  · rw [if_pos h12] at h; cases h
  rw [if_neg h12] at h ⊢; by_cases hm : s.take 3 ≠ magic
  · rw [if_pos hm] at h; cases h
  rw [if_neg hm] at h ⊢; by_cases hf : fieldsL (kindL s) = []
  · rw [if_pos hf] at h; cases h
  rw [if_neg hf] at h ⊢; obtain ⟨x, hx, he⟩ := ended_zero h; rw [he]; dsimp only; obtain ⟨b1, b2, b3⟩ := takes_back (fields_nodup _) hx; have hkk : 1 ≤ kindL s ∧ kindL s ≤ 7 := Classical.byContradiction (fun hc => hf (fieldsL_nil (by omega)))
  have hk : x.kind = kindL s := by
    have := congrArg Dg.kind b3; rw [cps_kind] at this; exact this
  have hok : Okd x := takes_ok hx (zero_ok (by omega)) (by rw [List.length_drop]; omega); have hm' : s.take 3 = magic := Classical.byContradiction hm
  have h4 : ¬ (s.length < 4 ∨ s.take 3 ≠ magic) := by
    rintro (q | q)
    · (have hk0 : kindL s = 0 := by rw [kindL, if_pos (.inl q)]); omega
    · exact hm q
  have hkb : kindL s = ((s.getD 3 0).toNat : Int) := by rw [kindL, if_neg h4]
  have hl4 : 4 ≤ s.length := by omega
  have hs : s = headL x ++ bytesF x (fieldsL x.kind) := by
    have e0 : headL x = s.take 4 := by
      have e1 : s.take 4 = s.take 3 ++ [s.getD 3 0] := by
        rw [List.take_succ_eq_append_getElem (by omega)]; simp [List.getD, List.getElem?_eq_getElem (show 3 < s.length by omega)]
      rw [e1, hm', headL, hk, hkb]; have hb := UInt8.toNat_lt (s.getD 3 0); (have e2 : u64 ((s.getD 3 0).toNat : Int) % 256 = (s.getD 3 0).toNat := by unfold u64; omega); rw [e2]; simp
    rw [e0, hk, ← b1, List.take_append_drop]
  refine ⟨?_, ?_, hok, ?_, by rw [hk]; exact hkk⟩
  · rw [enc, hk, if_neg hf, lays_fit x _ _ b2]; rw [hk] at hs; rw [← hs]; simp only [finish]; rw [if_neg (by simp), if_neg h12]
  · rw [onlyD, hk]; exact b3.symm
  · rw [hk, bodyL]; by_cases hk3 : 3 ≤ kindL s
    · have htag : .tag ∈ fieldsL (kindL s) := by
        obtain ⟨fs, e, _⟩ := fields_tag (k := kindL s) (by omega); rw [e]; simp
      have h32 : (lyB x .tag).length = 32 := by
        have := b2 .tag htag; simp only [lyB, sl_len]; exact this
      have hlen := mem_len x htag; rw [← b1, h32, List.length_drop] at hlen; rw [if_neg (by omega)]; constructor
      · intro q; have := congrArg List.length q; rw [List.length_take] at this; simp at this; omega
      · intro q; omega
    · rw [if_pos (.inr (by omega))]; exact ⟨fun _ => by omega, fun _ => rfl⟩
theorem dec_codes (s : List UInt8) : (dec s).2 = 0 ∨ ((dec s).1 = Dg.zero 0 ∧ 70 ≤ (dec s).2 ∧ (dec s).2 ≤ 73) := by
  unfold dec; split
  · right; exact ⟨rfl, by decide, by decide⟩
  split
  · right; exact ⟨rfl, by decide, by decide⟩
  split
  · right; exact ⟨rfl, by decide, by decide⟩
  · cases takes (fieldsL (kindL s)) (Dg.zero (kindL s), s.drop 4, false) with
    | none => right; exact ⟨rfl, by decide, by decide⟩
    | some t =>
      obtain ⟨d, L, r⟩ := t; simp only [ended]; split
      · right; exact ⟨rfl, by decide, by decide⟩
      · cases r
        · left; rfl
        · right; rw [if_pos rfl]; exact ⟨rfl, by decide, by decide⟩
theorem kindL_app {B : List UInt8} (h : 4 ≤ B.length) (t : List UInt8) : kindL (B ++ t) = kindL B := by
  unfold kindL; have e1 : (B ++ t).take 3 = B.take 3 := List.take_append_of_le_length (by omega); have e2 : (B ++ t).getD 3 0 = B.getD 3 0 := by simp [List.getD, List.getElem?_append_left (show 3 < B.length by omega)]
  rw [e1, e2]; by_cases hm : B.take 3 = magic
  · rw [if_neg (by rw [List.length_append]; simp [hm]; omega), if_neg (by simp [hm]; omega)]
  · rw [if_pos (.inr hm), if_pos (.inr hm)]
theorem body_cut {B t : List UInt8} (h4 : 4 ≤ B.length) (ht : t.length = 32) (hk : 3 ≤ kindL B ∧ kindL B ≤ 7) : bodyB (ba (B ++ t)) = ba B := by
  rw [bodyB, show sl (ba (B ++ t)) = B ++ t from sl_mk _, bodyL, if_neg, List.length_append, ht, Nat.add_sub_cancel, List.take_left]; rw [kindL_app h4, List.length_append, ht]; omega
theorem ba_inj2 {a b : List UInt8} (h : ba a = ba b) : a = b := by
  have := congrArg sl h; rw [show sl (ba a) = a from sl_mk _, show sl (ba b) = b from sl_mk _] at this; exact this
theorem sealed_cut {B t : List UInt8} (h4 : 4 ≤ B.length) (ht : t.length = 32) (hk : 3 ≤ kindL B ∧ kindL B ≤ 7) (k : ByteArray) : sealed (ba (B ++ t)) k = decide (ba t = hmacB k (ba B)) := by
  unfold sealed; rw [body_cut h4 ht hk]
  have e : (ba (B ++ t)).extract (ba B).size (ba (B ++ t)).size = ba t := by
    apply sl_inj; rw [show sl ((ba (B ++ t)).extract (ba B).size (ba (B ++ t)).size) = (sl (ba (B ++ t))).drop (ba B).size from sl_extract _ _, show sl (ba (B ++ t)) = B ++ t from sl_mk _, show (ba B).size = B.length from ba_size _, List.drop_left]; exact (sl_mk _).symm
  rw [e]
  have hne : ba B ≠ nob := fun q => by
    have := ba_inj2 (b := []) q; subst this; simp at h4
  by_cases hq : ba t = hmacB k (ba B)
  · rw [decide_eq_true ⟨hne, hq⟩, decide_eq_true hq]
  · rw [decide_eq_false (fun c => hq c.2), decide_eq_false hq]
theorem enc_big {d : Dg} (hf : d.fine) (hk : 3 ≤ d.kind ∧ d.kind ≤ 7) (h : (enc d).2 = 0) : 52 ≤ (enc d).1.length := by
  rw [enc_is d hf] at h ⊢; have h0 : ¬ fieldsL d.kind = [] := fieldsL_some (by omega); rw [if_neg h0] at h ⊢; by_cases hft : ∀ f ∈ fieldsL d.kind, fitF d f
  · rw [if_pos hft] at h ⊢; by_cases hl : 1200 < (headL d ++ bytesF d (fieldsL d.kind)).length
    · rw [if_pos hl] at h; cases h
    · rw [if_neg hl]; dsimp only; (have hh : (headL d).length = 4 := by simp [headL, magic]); rw [List.length_append, hh]; (have hks : d.kind = 3 ∨ d.kind = 4 ∨ d.kind = 5 ∨ d.kind = 6 ∨ d.kind = 7 := by omega); clear hl h h0 hf; rcases hks with hk | hk | hk | hk | hk
      · rw [hk] at hft ⊢; have a1 := hft .nonce (by simp [fieldsL]); have a2 := hft .tag (by simp [fieldsL]); simp only [fitF] at a1 a2; simp only [fieldsL, bytesF, List.map_cons, List.map_nil, List.flatten_cons, List.flatten_nil, reduceIte, Int.reduceEq, lyB, List.length_append, sl_len, be_len, List.length_cons, List.length_nil]; omega
      · rw [hk] at hft ⊢; have a1 := hft .nonce (by simp [fieldsL]); have a2 := hft .tag (by simp [fieldsL]); simp only [fitF] at a1 a2; simp only [fieldsL, bytesF, List.map_cons, List.map_nil, List.flatten_cons, List.flatten_nil, reduceIte, Int.reduceEq, lyB, List.length_append, sl_len, be_len, List.length_nil]; omega
      all_goals
        rw [hk] at hft ⊢; have a2 := hft .tag (by simp [fieldsL]); simp only [fitF] at a2; simp only [fieldsL, bytesF, List.map_cons, List.map_nil, List.flatten_cons, List.flatten_nil, reduceIte, Int.reduceEq, lyB, List.length_append, sl_len, be_len, List.length_nil]; omega
  · rw [if_neg hft] at h; cases h
theorem seal_all (d : Dg) (key : ByteArray) (hf : d.fine) (h : (sealD d key).2 = 0) : ∃ B t : List UInt8, (sealD d key).1 = ba (B ++ t) ∧ bodyB (ba (B ++ t)) = ba B ∧ hmacB key (ba B) = ba t ∧ t.length = 32 ∧ 20 ≤ B.length ∧ B.length + 32 ≤ 1200 ∧ (3 ≤ kindL B ∧ kindL B ≤ 7) ∧ dec (B ++ t) = (onlyD (d.wear (ba t)), 0) ∧ (1 ≤ d.kind ∧ d.kind ≤ 7) ∧ sealed (ba (B ++ t)) key = true := by
  obtain ⟨body, h1, h2, h3, h4, h5, h6⟩ := seal_yes d key hf h; have hd := dec_enc (d.wear (hmacB key body)) (Dg.wear_fine hf _) (by rw [h3]); have hbig := enc_big (d := d.wear (hmacB key body)) (Dg.wear_fine hf _) h4 (by rw [h3]); rw [h3] at hd hbig; dsimp only at hd hbig; have hm := hmacB_size key body; have e1 : ba (sl body) = body := sl_back body; have e2 : ba (sl (hmacB key body)) = hmacB key body := sl_back _
  have e3 : (sealD d key).1 = ba (sl body ++ sl (hmacB key body)) := by
    apply sl_inj; rw [h2, sl_app]; exact (sl_mk _).symm
  have l1 : (sl body).length = body.size := sl_len _; have l2 : (sl (hmacB key body)).length = 32 := by rw [sl_len, hm]
  rw [e3, show sl (ba (sl body ++ sl (hmacB key body))) = sl body ++ sl (hmacB key body) from sl_mk _] at hd hbig; rw [List.length_append, l2] at hbig
  have hkb : 3 ≤ kindL (sl body) ∧ kindL (sl body) ≤ 7 := by
    have hbe := dec_back (s := sl body ++ sl (hmacB key body)) (by rw [hd]); rw [hd] at hbe
    have hne : bodyL (sl body ++ sl (hmacB key body)) ≠ [] := by
      intro q; rw [e3] at h1; rw [bodyB, show sl (ba (sl body ++ sl (hmacB key body))) = sl body ++ sl (hmacB key body) from sl_mk _, q] at h1; have := congrArg ByteArray.size h1; rw [ba_size] at this; simp at this; omega
    rw [bodyL] at hne; (have hc : ¬ ((sl body ++ sl (hmacB key body)).length < 36 ∨ ¬ (3 ≤ kindL (sl body ++ sl (hmacB key body)) ∧ kindL (sl body ++ sl (hmacB key body)) ≤ 7)) := fun c => hne (if_pos c)); rw [kindL_app (by omega)] at hc; omega
  refine ⟨sl body, sl (hmacB key body), e3, body_cut (by omega) l2 hkb, by rw [e1, e2], l2, by omega, by omega, hkb, by rw [hd, e2], by omega, ?_⟩; rw [sealed_cut (by omega) l2 hkb, e1, e2]; exact decide_eq_true rfl
open Go.Proofs.Tryz
theorem alloc_has {w w0 : World} {D : List Value} (h : w.alloc (.cells D.toArray 34) = w0) : Has w0 w.heap.size D 34 ∧ w.grownBy w0 none := by
  rw [← h]; exact ⟨Has.new w _ 34, gAl _ _ _⟩
theorem dg_one (d : Dg) : d.cells.toArray.all (·.oneCell') = true := by simp [Dg.cells, Value.oneCell']
theorem dg_info (d : Dg) : (prog.info? 34).map (·.size) = some d.cells.toArray.size := by show _ = some 15; kernel_rfl
theorem store_dg {ops : Array Oper} {rest : List Oper} {op : Oper} {a : Act} {Q : Exit → Act → World → Prop} (w3 : World) (d : Dg) {A : Array Value} (hgd : op.guard = none) {x y : Operand} (ho : op.op = .store 34 x y)
    (hx : a.eval x = .pointer (some ⟨w3.heap.size, 0, none⟩)) (hy : a.eval y = .agg d.cells.toArray) (hA : A.size = 15)
    (h : ∀ w6, Has w6 w3.heap.size d.cells 34 → w3.grownBy w6 none → wpList prog ops Q rest (a.put op.dst undef) w6) : wpList prog ops Q (op :: rest) a (w3.alloc (.cells A 34)) := by
  have e : A.toList.length = 15 := by rw [Array.length_toList]; exact hA
  have hn := Has.newA w3 A 34; refine wpList_store_mid hgd 34 x y ho w3.heap.size 0 d.cells.toArray hx hy (hn.there 0 15 (by rw [e]; exact Nat.le_refl _)) (dg_info d) (dg_one d) ?_; exact h _ (hn.setAll d.cells (by rw [e]; rfl)) (gr_new (gAl _ _ _) (gr_sets _ _ _ _) (Nat.le_refl _))
theorem gr_two (w : World) (a b : Obj) : w.grownBy ((w.alloc a).alloc b) none := (gAl _ _ _).trans (gAl _ _ _)
theorem rfits_1 (d : Dg) (w : World) (hk : d.kind = 1) :
    CRt 108 #[dv d] w (.bool (decide (d.nonce.size = 16))) := by
  unfold dv; rw [hk]; generalize d.nonce = nonce; generalize d.epoch = epoch; generalize d.cookie = cookie; generalize d.name = name; generalize d.session = session; generalize d.player = player; generalize d.salt = salt; generalize d.seq = seq; generalize d.thr = thr; generalize d.turn = turn; generalize d.fire = fire; generalize d.boost = boost; generalize d.data = data; generalize d.tag = tag; clear hk; by_cases c0 : nonce.size = 16
  case neg =>
    rw [decide_eq_false (show ¬ (nonce.size = 16) from fun q => c0 (by omega))]; (have s_nonce : ((nonce.size : Int) != 16) = true := by simp; omega); have s2_nonce : decide ((nonce.size : Int) = 16) = false := decide_eq_false (by omega); (have s3_nonce : ((nonce.size : Int) == 16) = false := by simp; omega); go_enter func108, ntmps108; go_wp2_with fail; go_ret; exact ⟨rfl, gr_two w _ _⟩
  rw [decide_eq_true (show nonce.size = 16 from by omega)]; have s_nonce : (nonce.size : Int) = 16 := by omega
  go_enter func108, ntmps108; go_wp2_with fail; go_ret; exact ⟨rfl, gr_two w _ _⟩
theorem rfits_2 (d : Dg) (w : World) (hk : d.kind = 2) :
    CRt 108 #[dv d] w (.bool (decide (d.nonce.size = 16 ∧ d.cookie.size = 32))) := by
  unfold dv; rw [hk]; generalize d.nonce = nonce; generalize d.epoch = epoch; generalize d.cookie = cookie; generalize d.name = name; generalize d.session = session; generalize d.player = player; generalize d.salt = salt; generalize d.seq = seq; generalize d.thr = thr; generalize d.turn = turn; generalize d.fire = fire; generalize d.boost = boost; generalize d.data = data; generalize d.tag = tag; clear hk; by_cases c0 : nonce.size = 16
  case neg =>
    rw [decide_eq_false (show ¬ (nonce.size = 16 ∧ cookie.size = 32) from fun q => c0 (by omega))]; (have s_nonce : ((nonce.size : Int) != 16) = true := by simp; omega); have s2_nonce : decide ((nonce.size : Int) = 16) = false := decide_eq_false (by omega); (have s3_nonce : ((nonce.size : Int) == 16) = false := by simp; omega); go_enter func108, ntmps108; go_wp2_with fail; go_ret; exact ⟨rfl, gr_two w _ _⟩
  by_cases c1 : cookie.size = 32
  case neg =>
    rw [decide_eq_false (show ¬ (nonce.size = 16 ∧ cookie.size = 32) from fun q => c1 (by omega))]; (have s_nonce : (nonce.size : Int) = 16 := by omega); (have s_cookie : ((cookie.size : Int) != 32) = true := by simp; omega); have s2_cookie : decide ((cookie.size : Int) = 32) = false := decide_eq_false (by omega); (have s3_cookie : ((cookie.size : Int) == 32) = false := by simp; omega); go_enter func108, ntmps108; go_wp2_with fail; go_ret; exact ⟨rfl, gr_two w _ _⟩
  rw [decide_eq_true (show nonce.size = 16 ∧ cookie.size = 32 from by omega)]; have s_nonce : (nonce.size : Int) = 16 := by omega
  have s_cookie : (cookie.size : Int) = 32 := by omega
  go_enter func108, ntmps108; go_wp2_with fail; go_ret; exact ⟨rfl, gr_two w _ _⟩
theorem rfits_3 (d : Dg) (w : World) (hk : d.kind = 3) :
    CRt 108 #[dv d] w (.bool (decide (d.nonce.size = 16 ∧ d.cookie.size = 32 ∧ d.name.size ≤ 255 ∧ d.tag.size = 32))) := by
  unfold dv; rw [hk]; generalize d.nonce = nonce; generalize d.epoch = epoch; generalize d.cookie = cookie; generalize d.name = name; generalize d.session = session; generalize d.player = player; generalize d.salt = salt; generalize d.seq = seq; generalize d.thr = thr; generalize d.turn = turn; generalize d.fire = fire; generalize d.boost = boost; generalize d.data = data; generalize d.tag = tag; clear hk; by_cases c0 : nonce.size = 16
  case neg =>
    rw [decide_eq_false (show ¬ (nonce.size = 16 ∧ cookie.size = 32 ∧ name.size ≤ 255 ∧ tag.size = 32) from fun q => c0 (by omega))]; (have s_nonce : ((nonce.size : Int) != 16) = true := by simp; omega); have s2_nonce : decide ((nonce.size : Int) = 16) = false := decide_eq_false (by omega); (have s3_nonce : ((nonce.size : Int) == 16) = false := by simp; omega); go_enter func108, ntmps108; go_wp2_with fail; go_ret; exact ⟨rfl, gr_two w _ _⟩
  by_cases c1 : cookie.size = 32
  case neg =>
    rw [decide_eq_false (show ¬ (nonce.size = 16 ∧ cookie.size = 32 ∧ name.size ≤ 255 ∧ tag.size = 32) from fun q => c1 (by omega))]; (have s_nonce : (nonce.size : Int) = 16 := by omega); (have s_cookie : ((cookie.size : Int) != 32) = true := by simp; omega); have s2_cookie : decide ((cookie.size : Int) = 32) = false := decide_eq_false (by omega); (have s3_cookie : ((cookie.size : Int) == 32) = false := by simp; omega); go_enter func108, ntmps108; go_wp2_with fail; go_ret; exact ⟨rfl, gr_two w _ _⟩
  by_cases c2 : name.size ≤ 255
  case neg =>
    rw [decide_eq_false (show ¬ (nonce.size = 16 ∧ cookie.size = 32 ∧ name.size ≤ 255 ∧ tag.size = 32) from fun q => c2 (by omega))]; (have s_nonce : (nonce.size : Int) = 16 := by omega); (have s_cookie : (cookie.size : Int) = 32 := by omega); (have s_name : 255 < (name.size : Int) := by omega); have s2_name : decide (255 < (name.size : Int)) = true := decide_eq_true (by omega); go_enter func108, ntmps108; go_wp2_with fail; go_ret; exact ⟨rfl, gr_two w _ _⟩
  by_cases c3 : tag.size = 32
  case neg =>
    rw [decide_eq_false (show ¬ (nonce.size = 16 ∧ cookie.size = 32 ∧ name.size ≤ 255 ∧ tag.size = 32) from fun q => c3 (by omega))]; (have s_nonce : (nonce.size : Int) = 16 := by omega); (have s_cookie : (cookie.size : Int) = 32 := by omega); (have s_name : ¬ 255 < (name.size : Int) := by omega); have s2_name : decide (255 < (name.size : Int)) = false := decide_eq_false (by omega); (have s_tag : ((tag.size : Int) != 32) = true := by simp; omega); have s2_tag : decide ((tag.size : Int) = 32) = false := decide_eq_false (by omega); (have s3_tag : ((tag.size : Int) == 32) = false := by simp; omega); go_enter func108, ntmps108; go_wp2_with fail; go_ret; exact ⟨rfl, gr_two w _ _⟩
  rw [decide_eq_true (show nonce.size = 16 ∧ cookie.size = 32 ∧ name.size ≤ 255 ∧ tag.size = 32 from by omega)]; have s_nonce : (nonce.size : Int) = 16 := by omega
  have s_cookie : (cookie.size : Int) = 32 := by omega
  have s_name : ¬ 255 < (name.size : Int) := by omega
  have s2_name : decide (255 < (name.size : Int)) = false := decide_eq_false (by omega); have s_tag : (tag.size : Int) = 32 := by omega
  go_enter func108, ntmps108; go_wp2_with fail; go_ret; exact ⟨rfl, gr_two w _ _⟩
theorem rfits_4 (d : Dg) (w : World) (hk : d.kind = 4) :
    CRt 108 #[dv d] w (.bool (decide (d.nonce.size = 16 ∧ d.salt.size = 16 ∧ 0 ≤ d.player ∧ d.player ≤ 255 ∧ d.tag.size = 32))) := by
  unfold dv; rw [hk]; generalize d.nonce = nonce; generalize d.epoch = epoch; generalize d.cookie = cookie; generalize d.name = name; generalize d.session = session; generalize d.player = player; generalize d.salt = salt; generalize d.seq = seq; generalize d.thr = thr; generalize d.turn = turn; generalize d.fire = fire; generalize d.boost = boost; generalize d.data = data; generalize d.tag = tag; clear hk; by_cases c0 : nonce.size = 16
  case neg =>
    rw [decide_eq_false (show ¬ (nonce.size = 16 ∧ salt.size = 16 ∧ 0 ≤ player ∧ player ≤ 255 ∧ tag.size = 32) from fun q => c0 (by omega))]; (have s_nonce : ((nonce.size : Int) != 16) = true := by simp; omega); have s2_nonce : decide ((nonce.size : Int) = 16) = false := decide_eq_false (by omega); (have s3_nonce : ((nonce.size : Int) == 16) = false := by simp; omega); go_enter func108, ntmps108; go_wp2_with fail; go_ret; exact ⟨rfl, gr_two w _ _⟩
  by_cases c1 : salt.size = 16
  case neg =>
    rw [decide_eq_false (show ¬ (nonce.size = 16 ∧ salt.size = 16 ∧ 0 ≤ player ∧ player ≤ 255 ∧ tag.size = 32) from fun q => c1 (by omega))]; (have s_nonce : (nonce.size : Int) = 16 := by omega); (have s_salt : ((salt.size : Int) != 16) = true := by simp; omega); have s2_salt : decide ((salt.size : Int) = 16) = false := decide_eq_false (by omega); (have s3_salt : ((salt.size : Int) == 16) = false := by simp; omega); go_enter func108, ntmps108; go_wp2_with fail; go_ret; exact ⟨rfl, gr_two w _ _⟩
  by_cases c2 : 0 ≤ player
  case neg =>
    rw [decide_eq_false (show ¬ (nonce.size = 16 ∧ salt.size = 16 ∧ 0 ≤ player ∧ player ≤ 255 ∧ tag.size = 32) from fun q => c2 (by omega))]; (have s_nonce : (nonce.size : Int) = 16 := by omega); (have s_salt : (salt.size : Int) = 16 := by omega); (have l_player : player < 0 := by omega); go_enter func108, ntmps108; go_wp2_with fail; go_ret; exact ⟨rfl, gr_two w _ _⟩
  by_cases c3 : player ≤ 255
  case neg =>
    rw [decide_eq_false (show ¬ (nonce.size = 16 ∧ salt.size = 16 ∧ 0 ≤ player ∧ player ≤ 255 ∧ tag.size = 32) from fun q => c3 (by omega))]; (have s_nonce : (nonce.size : Int) = 16 := by omega); (have s_salt : (salt.size : Int) = 16 := by omega); (have l_player : ¬ player < 0 := by omega); (have h_player : 255 < player := by omega); go_enter func108, ntmps108; go_wp2_with fail; go_ret; exact ⟨rfl, gr_two w _ _⟩
  by_cases c4 : tag.size = 32
  case neg =>
    rw [decide_eq_false (show ¬ (nonce.size = 16 ∧ salt.size = 16 ∧ 0 ≤ player ∧ player ≤ 255 ∧ tag.size = 32) from fun q => c4 (by omega))]; (have s_nonce : (nonce.size : Int) = 16 := by omega); (have s_salt : (salt.size : Int) = 16 := by omega); (have l_player : ¬ player < 0 := by omega); (have h_player : ¬ 255 < player := by omega); (have s_tag : ((tag.size : Int) != 32) = true := by simp; omega); have s2_tag : decide ((tag.size : Int) = 32) = false := decide_eq_false (by omega); (have s3_tag : ((tag.size : Int) == 32) = false := by simp; omega); go_enter func108, ntmps108; go_wp2_with fail; go_ret; exact ⟨rfl, gr_two w _ _⟩
  rw [decide_eq_true (show nonce.size = 16 ∧ salt.size = 16 ∧ 0 ≤ player ∧ player ≤ 255 ∧ tag.size = 32 from by omega)]; have s_nonce : (nonce.size : Int) = 16 := by omega
  have s_salt : (salt.size : Int) = 16 := by omega
  have l_player : ¬ player < 0 := by omega
  have h_player : ¬ 255 < player := by omega
  have s_tag : (tag.size : Int) = 32 := by omega
  go_enter func108, ntmps108; go_wp2_with fail; go_ret; exact ⟨rfl, gr_two w _ _⟩
theorem rfits_5 (d : Dg) (w : World) (hk : d.kind = 5) :
    CRt 108 #[dv d] w (.bool (decide (-128 ≤ d.thr ∧ d.thr ≤ 127 ∧ -128 ≤ d.turn ∧ d.turn ≤ 127 ∧ d.tag.size = 32))) := by
  unfold dv; rw [hk]; generalize d.nonce = nonce; generalize d.epoch = epoch; generalize d.cookie = cookie; generalize d.name = name; generalize d.session = session; generalize d.player = player; generalize d.salt = salt; generalize d.seq = seq; generalize d.thr = thr; generalize d.turn = turn; generalize d.fire = fire; generalize d.boost = boost; generalize d.data = data; generalize d.tag = tag; clear hk; by_cases c0 : -128 ≤ thr
  case neg =>
    rw [decide_eq_false (show ¬ (-128 ≤ thr ∧ thr ≤ 127 ∧ -128 ≤ turn ∧ turn ≤ 127 ∧ tag.size = 32) from fun q => c0 (by omega))]; (have l_thr : thr < -128 := by omega); go_enter func108, ntmps108; go_wp2_with fail; go_ret; exact ⟨rfl, gr_two w _ _⟩
  by_cases c1 : thr ≤ 127
  case neg =>
    rw [decide_eq_false (show ¬ (-128 ≤ thr ∧ thr ≤ 127 ∧ -128 ≤ turn ∧ turn ≤ 127 ∧ tag.size = 32) from fun q => c1 (by omega))]; (have l_thr : ¬ thr < -128 := by omega); (have h_thr : 127 < thr := by omega); go_enter func108, ntmps108; go_wp2_with fail; go_ret; exact ⟨rfl, gr_two w _ _⟩
  by_cases c2 : -128 ≤ turn
  case neg =>
    rw [decide_eq_false (show ¬ (-128 ≤ thr ∧ thr ≤ 127 ∧ -128 ≤ turn ∧ turn ≤ 127 ∧ tag.size = 32) from fun q => c2 (by omega))]; (have l_thr : ¬ thr < -128 := by omega); (have h_thr : ¬ 127 < thr := by omega); (have l_turn : turn < -128 := by omega); go_enter func108, ntmps108; go_wp2_with fail; go_ret; exact ⟨rfl, gr_two w _ _⟩
  by_cases c3 : turn ≤ 127
  case neg =>
    rw [decide_eq_false (show ¬ (-128 ≤ thr ∧ thr ≤ 127 ∧ -128 ≤ turn ∧ turn ≤ 127 ∧ tag.size = 32) from fun q => c3 (by omega))]; (have l_thr : ¬ thr < -128 := by omega); (have h_thr : ¬ 127 < thr := by omega); (have l_turn : ¬ turn < -128 := by omega); (have h_turn : 127 < turn := by omega); go_enter func108, ntmps108; go_wp2_with fail; go_ret; exact ⟨rfl, gr_two w _ _⟩
  by_cases c4 : tag.size = 32
  case neg =>
    rw [decide_eq_false (show ¬ (-128 ≤ thr ∧ thr ≤ 127 ∧ -128 ≤ turn ∧ turn ≤ 127 ∧ tag.size = 32) from fun q => c4 (by omega))]; (have l_thr : ¬ thr < -128 := by omega); (have h_thr : ¬ 127 < thr := by omega); (have l_turn : ¬ turn < -128 := by omega); (have h_turn : ¬ 127 < turn := by omega); (have s_tag : ((tag.size : Int) != 32) = true := by simp; omega); have s2_tag : decide ((tag.size : Int) = 32) = false := decide_eq_false (by omega); (have s3_tag : ((tag.size : Int) == 32) = false := by simp; omega); go_enter func108, ntmps108; go_wp2_with fail; go_ret; exact ⟨rfl, gr_two w _ _⟩
  rw [decide_eq_true (show -128 ≤ thr ∧ thr ≤ 127 ∧ -128 ≤ turn ∧ turn ≤ 127 ∧ tag.size = 32 from by omega)]; have l_thr : ¬ thr < -128 := by omega
  have h_thr : ¬ 127 < thr := by omega
  have l_turn : ¬ turn < -128 := by omega
  have h_turn : ¬ 127 < turn := by omega
  have s_tag : (tag.size : Int) = 32 := by omega
  go_enter func108, ntmps108; go_wp2_with fail; go_ret; exact ⟨rfl, gr_two w _ _⟩
theorem rfits_6 (d : Dg) (w : World) (hk : d.kind = 6) :
    CRt 108 #[dv d] w (.bool (decide (d.tag.size = 32))) := by
  unfold dv; rw [hk]; generalize d.nonce = nonce; generalize d.epoch = epoch; generalize d.cookie = cookie; generalize d.name = name; generalize d.session = session; generalize d.player = player; generalize d.salt = salt; generalize d.seq = seq; generalize d.thr = thr; generalize d.turn = turn; generalize d.fire = fire; generalize d.boost = boost; generalize d.data = data; generalize d.tag = tag; clear hk; by_cases c0 : tag.size = 32
  case neg =>
    rw [decide_eq_false (show ¬ (tag.size = 32) from fun q => c0 (by omega))]; (have s_tag : ((tag.size : Int) != 32) = true := by simp; omega); have s2_tag : decide ((tag.size : Int) = 32) = false := decide_eq_false (by omega); (have s3_tag : ((tag.size : Int) == 32) = false := by simp; omega); go_enter func108, ntmps108; go_wp2_with fail; go_ret; exact ⟨rfl, gr_two w _ _⟩
  rw [decide_eq_true (show tag.size = 32 from by omega)]; have s_tag : (tag.size : Int) = 32 := by omega
  go_enter func108, ntmps108; go_wp2_with fail; go_ret; exact ⟨rfl, gr_two w _ _⟩
theorem rfits_7 (d : Dg) (w : World) (hk : d.kind = 7) :
    CRt 108 #[dv d] w (.bool (decide (d.tag.size = 32))) := by
  unfold dv; rw [hk]; generalize d.nonce = nonce; generalize d.epoch = epoch; generalize d.cookie = cookie; generalize d.name = name; generalize d.session = session; generalize d.player = player; generalize d.salt = salt; generalize d.seq = seq; generalize d.thr = thr; generalize d.turn = turn; generalize d.fire = fire; generalize d.boost = boost; generalize d.data = data; generalize d.tag = tag; clear hk; by_cases c0 : tag.size = 32
  case neg =>
    rw [decide_eq_false (show ¬ (tag.size = 32) from fun q => c0 (by omega))]; (have s_tag : ((tag.size : Int) != 32) = true := by simp; omega); have s2_tag : decide ((tag.size : Int) = 32) = false := decide_eq_false (by omega); (have s3_tag : ((tag.size : Int) == 32) = false := by simp; omega); go_enter func108, ntmps108; go_wp2_with fail; go_ret; exact ⟨rfl, gr_two w _ _⟩
  rw [decide_eq_true (show tag.size = 32 from by omega)]; have s_tag : (tag.size : Int) = 32 := by omega
  go_enter func108, ntmps108; go_wp2_with fail; go_ret; exact ⟨rfl, gr_two w _ _⟩
theorem dec_three (s : List UInt8) (h : s = magic) : (dec s).2 = 71 := by subst h; rfl
theorem dec_two : (dec [74, 48]).2 = 70 := by rfl
theorem cvt_one (k : Nat) (hk : k ≤ 8) (b : Nat) (W : World) (h : Has W b [.int .u8 (k : Int)] 5) : (convert 60 9 (.slice (some ⟨b, 0, none⟩) 1 1)).run prog W = .ok (.string (ba [UInt8.ofNat k])) W := by
  have := cvt_cells W (some ⟨b, 0, none⟩) 1 [UInt8.ofNat k] (fun e => by cases e) (fun ad e j x hx => by
    obtain rfl := Option.some.inj e
    match j, hx with
    | 0, rfl =>
      rw [show ((⟨b, 0, none⟩ : Addr).add 0) = ⟨b, 0, none⟩ from rfl, h.cellv 0 _ rfl]
      simp; omega)
  exact this
end Go.Proofs.YtldnpebnpbahjaaGreatDoor.Pk
