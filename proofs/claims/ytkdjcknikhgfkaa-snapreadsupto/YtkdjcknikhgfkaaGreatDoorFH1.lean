import Derived.Test.YtkdjcknikhgfkaaGreatDoorFP
import Derived.Test.YtkdjcknikhgfkaaGreatDoorFD1
/- there and back, over lists -/
namespace Go.Proofs.YtkdjcknikhgfkaaGreatDoor.Pk
open Go Go.RowKit

set_option maxRecDepth 100000 in
theorem sval_be (i size : Int) (h : fitsS i size) : sval (be size.toNat (u64 i)) = i := by
  obtain ⟨⟨h1, h2⟩, h3⟩ := h
  unfold sval
  rw [val_be, be_len]
  have h8 : size = 1 ∨ size = 2 ∨ size = 3 ∨ size = 4 ∨ size = 5 ∨ size = 6 ∨ size = 7 ∨ size = 8 := by omega
  obtain ⟨n, hn⟩ : ∃ n, u64 i = n := ⟨_, rfl⟩
  have hn' : (n : Int) = i % 18446744073709551616 := by rw [← hn]; unfold u64; omega
  rw [hn]
  clear hn h1 h2
  rcases h8 with rfl | rfl | rfl | rfl | rfl | rfl | rfl | rfl
  · have h4 : -((256 : Nat) : Int) ≤ 2 * i ∧ 2 * i < ((256 : Nat) : Int) := h3
    show (if 2 * (n % 256) < 256 then ((n % 256 : Nat) : Int) else ((n % 256 : Nat) : Int) - ((256 : Nat) : Int)) = i
    split <;> omega
  · have h4 : -((65536 : Nat) : Int) ≤ 2 * i ∧ 2 * i < ((65536 : Nat) : Int) := h3
    show (if 2 * (n % 65536) < 65536 then ((n % 65536 : Nat) : Int) else ((n % 65536 : Nat) : Int) - ((65536 : Nat) : Int)) = i
    split <;> omega
  · have h4 : -((16777216 : Nat) : Int) ≤ 2 * i ∧ 2 * i < ((16777216 : Nat) : Int) := h3
    show (if 2 * (n % 16777216) < 16777216 then ((n % 16777216 : Nat) : Int) else ((n % 16777216 : Nat) : Int) - ((16777216 : Nat) : Int)) = i
    split <;> omega
  · have h4 : -((4294967296 : Nat) : Int) ≤ 2 * i ∧ 2 * i < ((4294967296 : Nat) : Int) := h3
    show (if 2 * (n % 4294967296) < 4294967296 then ((n % 4294967296 : Nat) : Int) else ((n % 4294967296 : Nat) : Int) - ((4294967296 : Nat) : Int)) = i
    split <;> omega
  · have h4 : -((1099511627776 : Nat) : Int) ≤ 2 * i ∧ 2 * i < ((1099511627776 : Nat) : Int) := h3
    show (if 2 * (n % 1099511627776) < 1099511627776 then ((n % 1099511627776 : Nat) : Int) else ((n % 1099511627776 : Nat) : Int) - ((1099511627776 : Nat) : Int)) = i
    split <;> omega
  · have h4 : -((281474976710656 : Nat) : Int) ≤ 2 * i ∧ 2 * i < ((281474976710656 : Nat) : Int) := h3
    show (if 2 * (n % 281474976710656) < 281474976710656 then ((n % 281474976710656 : Nat) : Int) else ((n % 281474976710656 : Nat) : Int) - ((281474976710656 : Nat) : Int)) = i
    split <;> omega
  · have h4 : -((72057594037927936 : Nat) : Int) ≤ 2 * i ∧ 2 * i < ((72057594037927936 : Nat) : Int) := h3
    show (if 2 * (n % 72057594037927936) < 72057594037927936 then ((n % 72057594037927936 : Nat) : Int) else ((n % 72057594037927936 : Nat) : Int) - ((72057594037927936 : Nat) : Int)) = i
    split <;> omega
  · have h4 : -((18446744073709551616 : Nat) : Int) ≤ 2 * i ∧ 2 * i < ((18446744073709551616 : Nat) : Int) := h3
    show (if 2 * (n % 18446744073709551616) < 18446744073709551616 then ((n % 18446744073709551616 : Nat) : Int) else ((n % 18446744073709551616 : Nat) : Int) - ((18446744073709551616 : Nat) : Int)) = i
    split <;> omega
set_option maxRecDepth 100000 in
theorem be_sval (l : List UInt8) (h : l.length ≤ 8) (h1 : 1 ≤ l.length) : be l.length (u64 (sval l)) = l := by
  have hv := val_lt l
  have e : u64 (sval l) % 256 ^ l.length = val l % 256 ^ l.length := by
    unfold sval u64
    obtain ⟨n, hn⟩ : ∃ n, val l = n := ⟨_, rfl⟩
    obtain ⟨k, hk⟩ : ∃ k, l.length = k := ⟨_, rfl⟩
    rw [hn, hk] at hv
    rw [hn, hk]
    have h9 : k = 1 ∨ k = 2 ∨ k = 3 ∨ k = 4 ∨ k = 5 ∨ k = 6 ∨ k = 7 ∨ k = 8 := by omega
    clear hn hk h h1
    rcases h9 with rfl | rfl | rfl | rfl | rfl | rfl | rfl | rfl
    · have hv' : n < 256 := hv
      show ((if 2 * n < 256 then (n : Int) else (n : Int) - ((256 : Nat) : Int)) % 18446744073709551616).toNat % 256 = n % 256
      split <;> omega
    · have hv' : n < 65536 := hv
      show ((if 2 * n < 65536 then (n : Int) else (n : Int) - ((65536 : Nat) : Int)) % 18446744073709551616).toNat % 65536 = n % 65536
      split <;> omega
    · have hv' : n < 16777216 := hv
      show ((if 2 * n < 16777216 then (n : Int) else (n : Int) - ((16777216 : Nat) : Int)) % 18446744073709551616).toNat % 16777216 = n % 16777216
      split <;> omega
    · have hv' : n < 4294967296 := hv
      show ((if 2 * n < 4294967296 then (n : Int) else (n : Int) - ((4294967296 : Nat) : Int)) % 18446744073709551616).toNat % 4294967296 = n % 4294967296
      split <;> omega
    · have hv' : n < 1099511627776 := hv
      show ((if 2 * n < 1099511627776 then (n : Int) else (n : Int) - ((1099511627776 : Nat) : Int)) % 18446744073709551616).toNat % 1099511627776 = n % 1099511627776
      split <;> omega
    · have hv' : n < 281474976710656 := hv
      show ((if 2 * n < 281474976710656 then (n : Int) else (n : Int) - ((281474976710656 : Nat) : Int)) % 18446744073709551616).toNat % 281474976710656 = n % 281474976710656
      split <;> omega
    · have hv' : n < 72057594037927936 := hv
      show ((if 2 * n < 72057594037927936 then (n : Int) else (n : Int) - ((72057594037927936 : Nat) : Int)) % 18446744073709551616).toNat % 72057594037927936 = n % 72057594037927936
      split <;> omega
    · have hv' : n < 18446744073709551616 := hv
      show ((if 2 * n < 18446744073709551616 then (n : Int) else (n : Int) - ((18446744073709551616 : Nat) : Int)) % 18446744073709551616).toNat % 18446744073709551616 = n % 18446744073709551616
      split <;> omega
  rw [← be_mod _ _ l.length (Nat.le_refl _), e, be_mod _ _ _ (Nat.le_refl _), be_val]
set_option maxRecDepth 100000 in
theorem fits_sval (l : List UInt8) : -(256 ^ l.length : Nat) ≤ 2 * sval l ∧ 2 * sval l < (256 ^ l.length : Nat) := by
  have hv := val_lt l
  unfold sval
  split <;> omega

/-- a field of one datagram laid into another -/
def cp (d : Dg) : Fd → Dg → Dg
  | .nonce, e => { e with nonce := d.nonce }
  | .salt, e => { e with salt := d.salt }
  | .cookie, e => { e with cookie := d.cookie }
  | .tag, e => { e with tag := d.tag }
  | .epoch, e => { e with epoch := d.epoch }
  | .session, e => { e with session := d.session }
  | .seq, e => { e with seq := d.seq }
  | .thr, e => { e with thr := d.thr }
  | .turn, e => { e with turn := d.turn }
  | .player, e => { e with player := d.player }
  | .flags, e => { e with fire := d.fire, boost := d.boost }
  | .name, e => { e with name := d.name }
  | .view, e => { e with data := d.data }
  | .zeros, e => e
def cps (d : Dg) : List Fd → Dg → Dg
  | [], e => e
  | f :: fs, e => cps d fs (cp d f e)
def onlyD (d : Dg) : Dg := cps d (fieldsL d.kind) (Dg.zero d.kind)
def fitF (d : Dg) : Fd → Prop
  | .nonce => d.nonce.size = 16
  | .salt => d.salt.size = 16
  | .cookie => d.cookie.size = 32
  | .tag => d.tag.size = 32
  | .epoch => d.epoch < 18446744073709551616
  | .session => d.session < 18446744073709551616
  | .seq => d.seq < 18446744073709551616
  | .thr => fitsS d.thr 1
  | .turn => fitsS d.turn 1
  | .player => fitsU (u64 d.player) 1
  | .flags => True
  | .name => d.name.size ≤ 255
  | .view => True
  | .zeros => True
def lyB (d : Dg) : Fd → List UInt8
  | .nonce => sl d.nonce
  | .salt => sl d.salt
  | .cookie => sl d.cookie
  | .tag => sl d.tag
  | .epoch => be 8 d.epoch
  | .session => be 8 d.session
  | .seq => be 8 d.seq
  | .thr => be 1 (u64 d.thr)
  | .turn => be 1 (u64 d.turn)
  | .player => be 1 (u64 d.player)
  | .flags => be 1 (flagsN d)
  | .name => UInt8.ofNat d.name.size :: sl d.name
  | .view => sl d.data
  | .zeros => zero76
set_option maxRecDepth 100000 in
theorem fits8 (x : Nat) (h : x < 18446744073709551616) : fitsU x 8 := ⟨by decide, h⟩
set_option maxRecDepth 100000 in
theorem flagsN_lt (d : Dg) : flagsN d < 256 := by unfold flagsN; split <;> split <;> omega
set_option maxRecDepth 100000 in
theorem ly_fit (d : Dg) (f : Fd) (P : List UInt8) (r : Bool) (h : fitF d f) : ly d f (some P, r) = (some (P ++ lyB d f), r) := by
  cases f <;> simp only [fitF] at h <;> simp only [ly, lyB, wBytes, wNum, wSig, wText, Option.map_some]
  case nonce => simp [h]
  case salt => simp [h]
  case cookie => simp [h]
  case tag => simp [h]
  case epoch => rw [if_pos (fits8 _ h)]; rfl
  case session => rw [if_pos (fits8 _ h)]; rfl
  case seq => rw [if_pos (fits8 _ h)]; rfl
  case thr => rw [if_pos h]; rfl
  case turn => rw [if_pos h]; rfl
  case player => rw [if_pos h]; rfl
  case flags => rw [if_pos ⟨by decide, flagsN_lt d⟩]; rfl
  case name => rw [if_pos (by rw [sl_len]; exact h), sl_len]
/-- where it does not fit, it is refused -/
theorem ly_miss (d : Dg) (f : Fd) (P : List UInt8) (hf : d.fine) (h : ¬ fitF d f) : (ly d f (some P, false)).1 = none ∨ (ly d f (some P, false)).2 = true := by
  cases f <;> simp only [fitF] at h <;> simp only [ly, wBytes, wNum, wSig, wText]
  case nonce => right; simp [h]
  case salt => right; simp [h]
  case cookie => right; simp [h]
  case tag => right; simp [h]
  case epoch => exact absurd hf.e h
  case session => exact absurd hf.s h
  case seq => exact absurd hf.q h
  case thr => left; rw [if_neg h]
  case turn => left; rw [if_neg h]
  case player => left; rw [if_neg h]
  case flags => exact absurd trivial h
  case name => left; rw [if_neg (by rw [sl_len]; exact h)]
  case view => exact absurd trivial h
  case zeros => exact absurd trivial h
def bad (s : LS) : Prop := s.1 = none ∨ s.2 = true
set_option maxRecDepth 100000 in
theorem ly_bad (d : Dg) (f : Fd) (s : LS) (h : bad s) : bad (ly d f s) := by
  obtain ⟨st, r⟩ := s
  rcases h with h | h
  · simp only at h
    subst h
    cases f <;> simp [ly, bad, wBytes, wNum, wSig, wText]
  · simp only at h
    subst h
    cases f <;> simp [ly, bad]
set_option maxRecDepth 100000 in
theorem lays_bad (d : Dg) : ∀ (fs : List Fd) (s : LS), bad s → bad (lays d fs s)
  | [], _, h => h
  | f :: fs, s, h => lays_bad d fs (ly d f s) (ly_bad d f s h)
set_option maxRecDepth 100000 in
theorem finish_bad (s : LS) (h : bad s) : finish s = ([], 73) := by
  obtain ⟨st, r⟩ := s
  cases st with
  | none => rfl
  | some L =>
    rcases h with h | h
    · cases h
    · simp only at h
      subst h; rfl
def bytesF (d : Dg) (fs : List Fd) : List UInt8 := (fs.map (lyB d)).flatten
set_option maxRecDepth 100000 in
theorem lays_fit (d : Dg) : ∀ (fs : List Fd) (P : List UInt8), (∀ f ∈ fs, fitF d f) → lays d fs (some P, false) = (some (P ++ bytesF d fs), false)
  | [], P, _ => by simp [lays, bytesF]
  | f :: fs, P, h => by
    show lays d fs (ly d f (some P, false)) = _
    rw [ly_fit d f P false (h f (by simp)), lays_fit d fs _ (fun g hg => h g (by simp [hg]))]
    simp [bytesF]
set_option maxRecDepth 100000 in
theorem lays_miss (d : Dg) (hf : d.fine) : ∀ (fs : List Fd) (P : List UInt8) (f : Fd), f ∈ fs → ¬ fitF d f → bad (lays d fs (some P, false))
  | [], P, f, h, _ => by cases h
  | g :: fs, P, f, h, hn => by
    show bad (lays d fs (ly d g (some P, false)))
    by_cases hg : fitF d g
    · rw [ly_fit d g P false hg]
      have : f ∈ fs := by
        rcases List.mem_cons.1 h with e | e
        · subst e; exact absurd hg hn
        · exact e
      exact lays_miss d hf fs _ f this hn
    · exact lays_bad d fs _ (ly_miss d g P hf hg)
/-- Encode, told by its fields -/
theorem enc_is (d : Dg) (hf : d.fine) : enc d = if fieldsL d.kind = [] then ([], 71) else @ite _ (∀ f ∈ fieldsL d.kind, fitF d f) (Classical.propDecidable _) (if 1200 < (headL d ++ bytesF d (fieldsL d.kind)).length then ([], 72) else (headL d ++ bytesF d (fieldsL d.kind), 0)) ([], 73) := by
  unfold enc
  by_cases h0 : fieldsL d.kind = []
  · rw [if_pos h0, if_pos h0]
  · rw [if_neg h0, if_neg h0]
    by_cases h : ∀ f ∈ fieldsL d.kind, fitF d f
    · rw [if_pos h, lays_fit d _ _ h]; simp [finish]
    · rw [if_neg h]
      have : ∃ f, f ∈ fieldsL d.kind ∧ ¬ fitF d f := by
        refine Classical.byContradiction (fun hc => h (fun f hm => Classical.byContradiction (fun hn => hc ⟨f, hm, hn⟩)))
      obtain ⟨f, hm, hn⟩ := this
      exact finish_bad _ (lays_miss d hf _ _ f hm hn)
end Go.Proofs.YtkdjcknikhgfkaaGreatDoor.Pk
