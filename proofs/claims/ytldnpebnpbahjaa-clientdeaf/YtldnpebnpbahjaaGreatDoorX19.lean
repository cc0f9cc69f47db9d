import Derived.Test.YtldnpebnpbahjaaGreatDoorX8
import Derived.Test.YtldnpebnpbahjaaGreatDoorX16
import Derived.Test.YtldnpebnpbahjaaGreatDoorFE3
import Derived.Test.YtldnpebnpbahjaaGreatDoorFP
import Derived.Test.YtldnpebnpbahjaaGreatDoorFA1
namespace Go.Proofs.YtldnpebnpbahjaaGreatDoor.Pk
open Go Go.RowKit

def zero32 : ByteArray := ba (List.replicate 32 0)
def Dg.bare (d : Dg) : Dg := { d with tag := zero32 }
def sealD (d : Dg) (key : ByteArray) : ByteArray × Int :=
  if 3 ≤ d.kind ∧ d.kind ≤ 7 then
    if (enc d.bare).2 = 0 then (bodyB (ba (enc d.bare).1) ++ hmacB key (bodyB (ba (enc d.bare).1)), 0) else (nob, (enc d.bare).2)
  else (nob, 71)
set_option maxRecDepth 100000 in
theorem Dg.bare_fine {d : Dg} (h : d.fine) : d.bare.fine := ⟨h.k, h.e, h.s, h.p, h.q, h.h, h.t⟩
set_option maxRecDepth 100000 in
theorem Dg.bare_small {d : Dg} (h : d.small) : d.bare.small := ⟨h.n, h.c, h.m, h.s, h.dt, by show (ba (List.replicate 32 0)).size ≤ _; decide⟩
set_option maxRecDepth 100000 in
theorem finish_le (s : LS) : (finish s).1.length ≤ 1200 := by
  obtain ⟨st, r⟩ := s
  cases st with
  | none => simp [finish]
  | some L =>
    simp only [finish]
    by_cases h : r = true
    · simp [h]
    · by_cases h2 : 1200 < L.length
      · simp [h, h2]
      · simp [h, h2]; omega
set_option maxRecDepth 100000 in
theorem enc_le (d : Dg) : (enc d).1.length ≤ 1200 := by
  unfold enc
  split
  · simp
  · exact finish_le _
set_option maxRecDepth 100000 in
theorem hmacB_size (k t : ByteArray) : (hmacB k t).size = 32 := by
  rw [← sl_len]; show (Go.Proofs.YtldnpebnpbahjaaGreatDoor.sl (hmacB k t)).length = _; rw [hmacB_sl]; exact Mac.sha_len _
set_option maxHeartbeats 8000000 in
set_option maxRecDepth 100000 in
theorem seal_c (d : Dg) (key : ByteArray) (hf : d.fine) (hs : d.small) (w : World) (hk : Kc w) (hkey : key.size ≤ 2305843009213693952) :
    Calls Tryz.prog 18 #[dv d, .string key] w fun e w' => e = .returned (.tuple #[.string (sealD d key).1, .int .i64 (sealD d key).2]) ∧ w.grownBy w' none := by
  obtain ⟨du, hdu, hdr⟩ := under26
  obtain ⟨kd, hkd⟩ : ∃ x, d.kind = x := ⟨_, rfl⟩
  obtain ⟨w0, hw0⟩ : ∃ q, w.alloc (.cells d.cells.toArray 34) = q := ⟨_, rfl⟩
  have h0 : Has w0 w.heap.size d.cells 34 := by rw [← hw0]; exact Has.new w _ 34
  have g0 : w.grownBy w0 none := by rw [← hw0]; exact World.grownBy_alloc _ _ _
  have c0 : w0.cell? ⟨w.heap.size, 0, none⟩ = some (.int .i64 kd) := h0.cellv 0 _ (by rw [← hkd]; rfl)
  have HW : Keep (w.grownBy w0 none ∧ Has w0 w.heap.size d.cells 34 ∧ Kc w ∧ d.bare.fine ∧ d.bare.small ∧ key.size ≤ 2305843009213693952) := ⟨g0, h0, hk, d.bare_fine hf, d.bare_small hs, hkey⟩
  have HT := Keep.mk (tagged_c kd w0)
  have hw1 : w.alloc (.cells #[.int .i64 kd, .string d.nonce, .int .u64 d.epoch, .string d.cookie, .string d.name, .int .u64 d.session, .int .i64 d.player, .string d.salt, .int .u64 d.seq, .int .i64 d.thr, .int .i64 d.turn, .bool d.fire, .bool d.boost, .string d.data, .string d.tag] 34) = w0 := by rw [← hkd]; exact hw0
  clear h0 g0 hw0 hf hs hk hkey
  by_cases ht : 3 ≤ kd ∧ kd ≤ 7
  · rw [decide_eq_true ht] at HT
    have hsl : sealD d key = if (enc d.bare).2 = 0 then (bodyB (ba (enc d.bare).1) ++ hmacB key (bodyB (ba (enc d.bare).1)), 0) else (nob, (enc d.bare).2) := by rw [sealD, if_pos (by rw [hkd]; exact ht)]
    have HSL := Keep.mk hsl
    clear ht hsl
    unfold dv
    rw [hkd]
    clear hkd
    go_enter Tryz.func18, Tryz.ntmps18
    go_wp2_with fail
    refine HT.out.mono ?_
    rintro e wq ⟨rfl, hwq⟩
    rw [hwq]
    clear hwq wq
    go_wp2_with fail
    refine (rep_c 32 w0 (by decide)).mono ?_
    rintro e w2 ⟨rfl, g2⟩
    have h2 := HW.out.2.1.kept g2 (by simp)
    have c2 : w2.cell? ⟨w.heap.size, 14, none⟩ = some (.string d.tag) := h2.cellv 14 _ rfl
    have z2 : w2.frozen? ⟨w.heap.size, 14, none⟩ = false := h2.frozen 14
    obtain ⟨Z, hZ⟩ : ∃ Z, ba (List.replicate 32 0) = Z := ⟨_, rfl⟩
    rw [hZ]
    obtain ⟨w3, hw3⟩ : ∃ q, w2.setCell ⟨w.heap.size, 14, none⟩ (.string Z) = q := ⟨_, rfl⟩
    have h3 : Has w3 w.heap.size d.bare.cells 34 := by rw [← hw3]; have := h2.setCell 14 (.string Z); rw [← hZ] at this ⊢; exact this
    have HW3 : Keep (Has w3 w.heap.size d.bare.cells 34 ∧ w.grownBy w3 none) := ⟨h3, by rw [← hw3]; exact gr_new (HW.out.1.trans g2) (gr_set _ _ _ _) (Nat.le_refl _)⟩
    clear h2 h3 g2 hZ
    go_wp2_with (refine wpList_load_mid rfl 34 _ rfl _ _ rfl d.bare.cells _ HW3.out.1.range hdu hdr info26 ?_)
    refine (encode_c d.bare HW.out.2.2.2.1 HW.out.2.2.2.2.1 w3).mono ?_
    rintro e w4 ⟨rfl, g4⟩
    have HG4 : Keep (w.grownBy w4 none) := ⟨HW3.out.2.trans g4⟩
    have hle := enc_le d.bare
    obtain ⟨en, hen⟩ : ∃ x, (enc d.bare).2 = x := ⟨_, rfl⟩
    obtain ⟨L, hL⟩ : ∃ x, ba (enc d.bare).1 = x := ⟨_, rfl⟩
    have hLs : L.size ≤ 1200 := by rw [← hL, ba_size]; exact hle
    rw [hen, hL]
    rw [hen, hL] at HSL
    have HL := Keep.mk hLs
    clear g4 hle hen hL hLs
    by_cases h0 : en = 0
    · subst h0
      rw [if_pos rfl] at HSL
      go_wp2_with fail
      refine (body_c L w4 (by have := HL.out; omega)).mono ?_
      rintro e w5 ⟨rfl, g5⟩
      have hbs := bodyB_size L
      obtain ⟨B, hB⟩ : ∃ B, bodyB L = B := ⟨_, rfl⟩
      rw [hB] at HSL hbs ⊢
      have HG5 : Keep (w.grownBy w5 none ∧ B.size ≤ 1200) := ⟨HG4.out.trans g5, by have := HL.out; omega⟩
      clear g5 hbs hB
      go_wp2_with fail
      refine (tag_any key B w5 (HW.out.2.2.1.kept HG5.out.1 (by simp)) HW.out.2.2.2.2.2 (by have := HG5.out.2; omega)).mono ?_
      rintro e w6 ⟨rfl, g6⟩
      have hadd := addS B (hmacB key B) (by rw [hmacB_size]; have := HG5.out.2; omega)
      have HG6 : Keep (w.grownBy w6 none) := ⟨HG5.out.1.trans g6⟩
      obtain ⟨Y, hY⟩ : ∃ Y, B ++ hmacB key B = Y := ⟨_, rfl⟩
      rw [hY] at hadd HSL
      clear g6 hY
      go_wp2_with fail
      go_ret2
      exact ⟨by rw [HSL.out]; rfl, HG6.out⟩
    · rw [if_neg h0] at HSL
      go_wp2_with fail
      go_ret2
      exact ⟨by rw [HSL.out]; rfl, HG4.out⟩
  · rw [decide_eq_false ht] at HT
    have hsl : sealD d key = (nob, 71) := by rw [sealD, if_neg (by rw [hkd]; exact ht)]
    rw [hsl]
    clear ht hsl
    unfold dv
    rw [hkd]
    clear hkd
    go_enter Tryz.func18, Tryz.ntmps18
    go_wp2_with fail
    refine HT.out.mono ?_
    rintro e wq ⟨rfl, hwq⟩
    rw [hwq]
    clear hwq wq
    go_wp2_with fail
    go_ret2
    exact ⟨rfl, HW.out.1⟩
end Go.Proofs.YtldnpebnpbahjaaGreatDoor.Pk

namespace Go.Proofs.YtldnpebnpbahjaaGreatDoor.Pk
open Go Go.RowKit

set_option maxRecDepth 100000 in
theorem sval_be (i size : Int) (h : fitsS i size) : sval (be size.toNat (u64 i)) = i := by
  obtain ⟨⟨h1, h2⟩, h3⟩ := h
  unfold sval
  rw [val_be, be_len]
  have h8 : size = 1 ∨ size = 2 ∨ size = 3 ∨ size = 4 ∨ size = 5 ∨ size = 6 ∨ size = 7 ∨ size = 8 := by omega
  obtain ⟨n, hn⟩ : ∃ n, u64 i = n := ⟨_, rfl⟩
  have hn' : (n : Int) = i % 18446744073709551616 := by rw [← hn]; unfold u64; omega
  rw [hn]
  clear hn h1 h2
  rcases h8 with rfl | rfl | rfl | rfl | rfl | rfl | rfl | rfl
  · have h4 : -((256 : Nat) : Int) ≤ 2 * i ∧ 2 * i < ((256 : Nat) : Int) := h3
    show (if 2 * (n % 256) < 256 then ((n % 256 : Nat) : Int) else ((n % 256 : Nat) : Int) - ((256 : Nat) : Int)) = i
    split <;> omega
  · have h4 : -((65536 : Nat) : Int) ≤ 2 * i ∧ 2 * i < ((65536 : Nat) : Int) := h3
    show (if 2 * (n % 65536) < 65536 then ((n % 65536 : Nat) : Int) else ((n % 65536 : Nat) : Int) - ((65536 : Nat) : Int)) = i
    split <;> omega
  · have h4 : -((16777216 : Nat) : Int) ≤ 2 * i ∧ 2 * i < ((16777216 : Nat) : Int) := h3
    show (if 2 * (n % 16777216) < 16777216 then ((n % 16777216 : Nat) : Int) else ((n % 16777216 : Nat) : Int) - ((16777216 : Nat) : Int)) = i
    split <;> omega
  · have h4 : -((4294967296 : Nat) : Int) ≤ 2 * i ∧ 2 * i < ((4294967296 : Nat) : Int) := h3
    show (if 2 * (n % 4294967296) < 4294967296 then ((n % 4294967296 : Nat) : Int) else ((n % 4294967296 : Nat) : Int) - ((4294967296 : Nat) : Int)) = i
    split <;> omega
  · have h4 : -((1099511627776 : Nat) : Int) ≤ 2 * i ∧ 2 * i < ((1099511627776 : Nat) : Int) := h3
    show (if 2 * (n % 1099511627776) < 1099511627776 then ((n % 1099511627776 : Nat) : Int) else ((n % 1099511627776 : Nat) : Int) - ((1099511627776 : Nat) : Int)) = i
    split <;> omega
  · have h4 : -((281474976710656 : Nat) : Int) ≤ 2 * i ∧ 2 * i < ((281474976710656 : Nat) : Int) := h3
    show (if 2 * (n % 281474976710656) < 281474976710656 then ((n % 281474976710656 : Nat) : Int) else ((n % 281474976710656 : Nat) : Int) - ((281474976710656 : Nat) : Int)) = i
    split <;> omega
  · have h4 : -((72057594037927936 : Nat) : Int) ≤ 2 * i ∧ 2 * i < ((72057594037927936 : Nat) : Int) := h3
    show (if 2 * (n % 72057594037927936) < 72057594037927936 then ((n % 72057594037927936 : Nat) : Int) else ((n % 72057594037927936 : Nat) : Int) - ((72057594037927936 : Nat) : Int)) = i
    split <;> omega
  · have h4 : -((18446744073709551616 : Nat) : Int) ≤ 2 * i ∧ 2 * i < ((18446744073709551616 : Nat) : Int) := h3
    show (if 2 * (n % 18446744073709551616) < 18446744073709551616 then ((n % 18446744073709551616 : Nat) : Int) else ((n % 18446744073709551616 : Nat) : Int) - ((18446744073709551616 : Nat) : Int)) = i
    split <;> omega
set_option maxRecDepth 100000 in
theorem be_sval (l : List UInt8) (h : l.length ≤ 8) (h1 : 1 ≤ l.length) : be l.length (u64 (sval l)) = l := by
  have hv := val_lt l
  have e : u64 (sval l) % 256 ^ l.length = val l % 256 ^ l.length := by
    unfold sval u64
    obtain ⟨n, hn⟩ : ∃ n, val l = n := ⟨_, rfl⟩
    obtain ⟨k, hk⟩ : ∃ k, l.length = k := ⟨_, rfl⟩
    rw [hn, hk] at hv
    rw [hn, hk]
    have h9 : k = 1 ∨ k = 2 ∨ k = 3 ∨ k = 4 ∨ k = 5 ∨ k = 6 ∨ k = 7 ∨ k = 8 := by omega
    clear hn hk h h1
    rcases h9 with rfl | rfl | rfl | rfl | rfl | rfl | rfl | rfl
    · have hv' : n < 256 := hv
      show ((if 2 * n < 256 then (n : Int) else (n : Int) - ((256 : Nat) : Int)) % 18446744073709551616).toNat % 256 = n % 256
      split <;> omega
    · have hv' : n < 65536 := hv
      show ((if 2 * n < 65536 then (n : Int) else (n : Int) - ((65536 : Nat) : Int)) % 18446744073709551616).toNat % 65536 = n % 65536
      split <;> omega
    · have hv' : n < 16777216 := hv
      show ((if 2 * n < 16777216 then (n : Int) else (n : Int) - ((16777216 : Nat) : Int)) % 18446744073709551616).toNat % 16777216 = n % 16777216
      split <;> omega
    · have hv' : n < 4294967296 := hv
      show ((if 2 * n < 4294967296 then (n : Int) else (n : Int) - ((4294967296 : Nat) : Int)) % 18446744073709551616).toNat % 4294967296 = n % 4294967296
      split <;> omega
    · have hv' : n < 1099511627776 := hv
      show ((if 2 * n < 1099511627776 then (n : Int) else (n : Int) - ((1099511627776 : Nat) : Int)) % 18446744073709551616).toNat % 1099511627776 = n % 1099511627776
      split <;> omega
    · have hv' : n < 281474976710656 := hv
      show ((if 2 * n < 281474976710656 then (n : Int) else (n : Int) - ((281474976710656 : Nat) : Int)) % 18446744073709551616).toNat % 281474976710656 = n % 281474976710656
      split <;> omega
    · have hv' : n < 72057594037927936 := hv
      show ((if 2 * n < 72057594037927936 then (n : Int) else (n : Int) - ((72057594037927936 : Nat) : Int)) % 18446744073709551616).toNat % 72057594037927936 = n % 72057594037927936
      split <;> omega
    · have hv' : n < 18446744073709551616 := hv
      show ((if 2 * n < 18446744073709551616 then (n : Int) else (n : Int) - ((18446744073709551616 : Nat) : Int)) % 18446744073709551616).toNat % 18446744073709551616 = n % 18446744073709551616
      split <;> omega
  rw [← be_mod _ _ l.length (Nat.le_refl _), e, be_mod _ _ _ (Nat.le_refl _), be_val]
set_option maxRecDepth 100000 in
theorem fits_sval (l : List UInt8) : -(256 ^ l.length : Nat) ≤ 2 * sval l ∧ 2 * sval l < (256 ^ l.length : Nat) := by
  have hv := val_lt l
  unfold sval
  split <;> omega

/-- a field of one datagram laid into another -/
def cp (d : Dg) : Fd → Dg → Dg
  | .nonce, e => { e with nonce := d.nonce }
  | .salt, e => { e with salt := d.salt }
  | .cookie, e => { e with cookie := d.cookie }
  | .tag, e => { e with tag := d.tag }
  | .epoch, e => { e with epoch := d.epoch }
  | .session, e => { e with session := d.session }
  | .seq, e => { e with seq := d.seq }
  | .thr, e => { e with thr := d.thr }
  | .turn, e => { e with turn := d.turn }
  | .player, e => { e with player := d.player }
  | .flags, e => { e with fire := d.fire, boost := d.boost }
  | .name, e => { e with name := d.name }
  | .view, e => { e with data := d.data }
  | .zeros, e => e
def cps (d : Dg) : List Fd → Dg → Dg
  | [], e => e
  | f :: fs, e => cps d fs (cp d f e)
def onlyD (d : Dg) : Dg := cps d (fieldsL d.kind) (Dg.zero d.kind)
def fitF (d : Dg) : Fd → Prop
  | .nonce => d.nonce.size = 16
  | .salt => d.salt.size = 16
  | .cookie => d.cookie.size = 32
  | .tag => d.tag.size = 32
  | .epoch => d.epoch < 18446744073709551616
  | .session => d.session < 18446744073709551616
  | .seq => d.seq < 18446744073709551616
  | .thr => fitsS d.thr 1
  | .turn => fitsS d.turn 1
  | .player => fitsU (u64 d.player) 1
  | .flags => True
  | .name => d.name.size ≤ 255
  | .view => True
  | .zeros => True
def lyB (d : Dg) : Fd → List UInt8
  | .nonce => sl d.nonce
  | .salt => sl d.salt
  | .cookie => sl d.cookie
  | .tag => sl d.tag
  | .epoch => be 8 d.epoch
  | .session => be 8 d.session
  | .seq => be 8 d.seq
  | .thr => be 1 (u64 d.thr)
  | .turn => be 1 (u64 d.turn)
  | .player => be 1 (u64 d.player)
  | .flags => be 1 (flagsN d)
  | .name => UInt8.ofNat d.name.size :: sl d.name
  | .view => sl d.data
  | .zeros => zero76
set_option maxRecDepth 100000 in
theorem fits8 (x : Nat) (h : x < 18446744073709551616) : fitsU x 8 := ⟨by decide, h⟩
set_option maxRecDepth 100000 in
theorem flagsN_lt (d : Dg) : flagsN d < 256 := by unfold flagsN; split <;> split <;> omega
set_option maxRecDepth 100000 in
theorem ly_fit (d : Dg) (f : Fd) (P : List UInt8) (r : Bool) (h : fitF d f) : ly d f (some P, r) = (some (P ++ lyB d f), r) := by
  cases f <;> simp only [fitF] at h <;> simp only [ly, lyB, wBytes, wNum, wSig, wText, Option.map_some]
  case nonce => simp [h]
  case salt => simp [h]
  case cookie => simp [h]
  case tag => simp [h]
  case epoch => rw [if_pos (fits8 _ h)]; rfl
  case session => rw [if_pos (fits8 _ h)]; rfl
  case seq => rw [if_pos (fits8 _ h)]; rfl
  case thr => rw [if_pos h]; rfl
  case turn => rw [if_pos h]; rfl
  case player => rw [if_pos h]; rfl
  case flags => rw [if_pos ⟨by decide, flagsN_lt d⟩]; rfl
  case name => rw [if_pos (by rw [sl_len]; exact h), sl_len]
/-- where it does not fit, it is refused -/
theorem ly_miss (d : Dg) (f : Fd) (P : List UInt8) (hf : d.fine) (h : ¬ fitF d f) : (ly d f (some P, false)).1 = none ∨ (ly d f (some P, false)).2 = true := by
  cases f <;> simp only [fitF] at h <;> simp only [ly, wBytes, wNum, wSig, wText]
  case nonce => right; simp [h]
  case salt => right; simp [h]
  case cookie => right; simp [h]
  case tag => right; simp [h]
  case epoch => exact absurd hf.e h
  case session => exact absurd hf.s h
  case seq => exact absurd hf.q h
  case thr => left; rw [if_neg h]
  case turn => left; rw [if_neg h]
  case player => left; rw [if_neg h]
  case flags => exact absurd trivial h
  case name => left; rw [if_neg (by rw [sl_len]; exact h)]
  case view => exact absurd trivial h
  case zeros => exact absurd trivial h
def bad (s : LS) : Prop := s.1 = none ∨ s.2 = true
set_option maxRecDepth 100000 in
theorem ly_bad (d : Dg) (f : Fd) (s : LS) (h : bad s) : bad (ly d f s) := by
  obtain ⟨st, r⟩ := s
  rcases h with h | h
  · simp only at h
    subst h
    cases f <;> simp [ly, bad, wBytes, wNum, wSig, wText]
  · simp only at h
    subst h
    cases f <;> simp [ly, bad]
set_option maxRecDepth 100000 in
theorem lays_bad (d : Dg) : ∀ (fs : List Fd) (s : LS), bad s → bad (lays d fs s)
  | [], _, h => h
  | f :: fs, s, h => lays_bad d fs (ly d f s) (ly_bad d f s h)
set_option maxRecDepth 100000 in
theorem finish_bad (s : LS) (h : bad s) : finish s = ([], 73) := by
  obtain ⟨st, r⟩ := s
  cases st with
  | none => rfl
  | some L =>
    rcases h with h | h
    · cases h
    · simp only at h
      subst h; rfl
def bytesF (d : Dg) (fs : List Fd) : List UInt8 := (fs.map (lyB d)).flatten
set_option maxRecDepth 100000 in
theorem lays_fit (d : Dg) : ∀ (fs : List Fd) (P : List UInt8), (∀ f ∈ fs, fitF d f) → lays d fs (some P, false) = (some (P ++ bytesF d fs), false)
  | [], P, _ => by simp [lays, bytesF]
  | f :: fs, P, h => by
    show lays d fs (ly d f (some P, false)) = _
    rw [ly_fit d f P false (h f (by simp)), lays_fit d fs _ (fun g hg => h g (by simp [hg]))]
    simp [bytesF]
set_option maxRecDepth 100000 in
theorem lays_miss (d : Dg) (hf : d.fine) : ∀ (fs : List Fd) (P : List UInt8) (f : Fd), f ∈ fs → ¬ fitF d f → bad (lays d fs (some P, false))
  | [], P, f, h, _ => by cases h
  | g :: fs, P, f, h, hn => by
    show bad (lays d fs (ly d g (some P, false)))
    by_cases hg : fitF d g
    · rw [ly_fit d g P false hg]
      have : f ∈ fs := by
        rcases List.mem_cons.1 h with e | e
        · subst e; exact absurd hg hn
        · exact e
      exact lays_miss d hf fs _ f this hn
    · exact lays_bad d fs _ (ly_miss d g P hf hg)
/-- Encode, told by its fields -/
theorem enc_is (d : Dg) (hf : d.fine) : enc d = if fieldsL d.kind = [] then ([], 71) else @ite _ (∀ f ∈ fieldsL d.kind, fitF d f) (Classical.propDecidable _) (if 1200 < (headL d ++ bytesF d (fieldsL d.kind)).length then ([], 72) else (headL d ++ bytesF d (fieldsL d.kind), 0)) ([], 73) := by
  unfold enc
  by_cases h0 : fieldsL d.kind = []
  · rw [if_pos h0, if_pos h0]
  · rw [if_neg h0, if_neg h0]
    by_cases h : ∀ f ∈ fieldsL d.kind, fitF d f
    · rw [if_pos h, lays_fit d _ _ h]; simp [finish]
    · rw [if_neg h]
      have : ∃ f, f ∈ fieldsL d.kind ∧ ¬ fitF d f := by
        refine Classical.byContradiction (fun hc => h (fun f hm => Classical.byContradiction (fun hn => hc ⟨f, hm, hn⟩)))
      obtain ⟨f, hm, hn⟩ := this
      exact finish_bad _ (lays_miss d hf _ _ f hm hn)
end Go.Proofs.YtldnpebnpbahjaaGreatDoor.Pk

namespace Go.Proofs.YtldnpebnpbahjaaGreatDoor.Pk
open Go Go.RowKit

set_option maxRecDepth 100000 in
theorem need_app (a R : List UInt8) (n : Int) (h : n = (a.length : Int)) : need (a ++ R) n = some (a, R) := by
  subst h
  rw [need, if_neg (by simp; omega), Int.toNat_natCast, List.take_left, List.drop_left]
set_option maxRecDepth 100000 in
theorem val_be8 (x : Nat) (h : x < 18446744073709551616) : val (be 8 x) = x := by
  rw [val_be]; exact Nat.mod_eq_of_lt h
set_option maxRecDepth 100000 in
theorem val_be1 (x : Nat) (h : x < 256) : val (be 1 x) = x := by
  rw [val_be]; exact Nat.mod_eq_of_lt (by simpa using h)
set_option maxRecDepth 100000 in
theorem tk_there (d : Dg) (f : Fd) (e : Dg) (R : List UInt8) (r : Bool) (h : fitF d f) (hp : f = .player → -9223372036854775808 ≤ d.player ∧ d.player < 9223372036854775808) (hv : f = .view → R.length = 32) : tk f (e, lyB d f ++ R, r) = some (cp d f e, R, r) := by
  have sb : ∀ s : ByteArray, ba (sl s) = s := fun s => sl_back s
  cases f <;> simp only [fitF] at h <;> simp only [tk, lyB, cp]
  case nonce => rw [need_app _ _ _ (by rw [sl_len, h]; rfl)]; simp only [Option.map_some, sb]
  case salt => rw [need_app _ _ _ (by rw [sl_len, h]; rfl)]; simp only [Option.map_some, sb]
  case cookie => rw [need_app _ _ _ (by rw [sl_len, h]; rfl)]; simp only [Option.map_some, sb]
  case tag => rw [need_app _ _ _ (by rw [sl_len, h]; rfl)]; simp only [Option.map_some, sb]
  case epoch => rw [need_app _ _ _ (by rw [be_len]; rfl)]; simp only [Option.map_some, val_be8 _ h]
  case session => rw [need_app _ _ _ (by rw [be_len]; rfl)]; simp only [Option.map_some, val_be8 _ h]
  case seq => rw [need_app _ _ _ (by rw [be_len]; rfl)]; simp only [Option.map_some, val_be8 _ h]
  case thr => rw [need_app _ _ _ (by rw [be_len]; rfl)]; simp only [Option.map_some]; rw [show sval (be 1 (u64 d.thr)) = d.thr from sval_be d.thr 1 h]
  case turn => rw [need_app _ _ _ (by rw [be_len]; rfl)]; simp only [Option.map_some]; rw [show sval (be 1 (u64 d.turn)) = d.turn from sval_be d.turn 1 h]
  case player =>
    rw [need_app _ _ _ (by rw [be_len]; rfl)]
    have h2 : u64 d.player < 256 := by have := h.2; simpa using this
    simp only [Option.map_some, val_be1 _ h2]
    have : ((u64 d.player : Nat) : Int) = d.player := by
      have := hp rfl
      unfold u64 at h2 ⊢
      omega
    rw [this]
  case flags =>
    rw [need_app _ _ _ (by rw [be_len]; rfl)]
    simp only [Option.map_some, val_be1 _ (flagsN_lt d)]
    cases hfi : d.fire <;> cases hbo : d.boost <;> simp [flagsN, hfi, hbo]
  case name =>
    have e1 : need (UInt8.ofNat d.name.size :: sl d.name ++ R) 1 = some ([UInt8.ofNat d.name.size], sl d.name ++ R) := need_app [UInt8.ofNat d.name.size] (sl d.name ++ R) 1 rfl
    rw [e1]
    simp only [Option.bind_some]
    have e2 : val [UInt8.ofNat d.name.size] = d.name.size := by simp [val]; omega
    rw [e2, need_app _ _ _ (by rw [sl_len])]
    simp only [Option.map_some, sb]
  case view =>
    rw [need_app _ _ _ (by rw [List.length_append, hv rfl]; omega)]
    simp only [Option.map_some, sb]
  case zeros =>
    rw [need_app _ _ _ (by decide)]
    simp
set_option maxRecDepth 100000 in
theorem takes_there (d : Dg) (hf : d.fine) (h : ∀ f ∈ fieldsL d.kind, fitF d f) (e : Dg) : takes (fieldsL d.kind) (e, bytesF d (fieldsL d.kind), false) = some (cps d (fieldsL d.kind) e, [], false) := by
  by_cases hk : d.kind < 1 ∨ 7 < d.kind
  · rw [fieldsL_nil hk]; rfl
  · have hks : d.kind = 1 ∨ d.kind = 2 ∨ d.kind = 3 ∨ d.kind = 4 ∨ d.kind = 5 ∨ d.kind = 6 ∨ d.kind = 7 := by omega
    have ht : ∀ (f : Fd) (x : Dg) (R : List UInt8), f ∈ fieldsL d.kind → (f = .view → R.length = 32) → tk f (x, lyB d f ++ R, false) = some (cp d f x, R, false) := fun f x R hm hv => tk_there d f x R false (h f hm) (fun _ => hf.p) hv
    rcases hks with hk | hk | hk | hk | hk | hk | hk
    all_goals rw [hk] at h ht ⊢
    all_goals simp only [fieldsL, bytesF, List.map_cons, List.map_nil, List.flatten_cons, List.flatten_nil, takes, cps, reduceIte, Int.reduceEq] at h ht ⊢
    all_goals (repeat (rw [ht _ _ _ (by simp) (by first | (intro e; cases e; done) | (intro _; rw [List.append_nil]; exact (sl_len _).trans (h .tag (by simp))))]; simp only [Option.bind_some]))
set_option maxRecDepth 100000 in
theorem kind_head (d : Dg) (hk : 1 ≤ d.kind ∧ d.kind ≤ 7) (X : List UInt8) : kindL (headL d ++ X) = d.kind ∧ (headL d ++ X).take 3 = magic ∧ (headL d ++ X).drop 4 = X := by
  obtain ⟨k, hkk⟩ : ∃ k : Nat, d.kind = (k : Int) := ⟨d.kind.toNat, by omega⟩
  have e : headL d = [74, 48, 49, UInt8.ofNat k] := by
    unfold headL u64
    rw [hkk, show ((k : Int) % 18446744073709551616).toNat % 256 = k by omega]
    rfl
  rw [e]
  refine ⟨?_, rfl, rfl⟩
  rw [kindL, if_neg (by simp; rfl)]
  show (((UInt8.ofNat k).toNat : Nat) : Int) = _
  rw [hkk]
  simp
  omega
/-- what is written is taken apart to the same -/
theorem dec_enc (d : Dg) (hf : d.fine) (h : (enc d).2 = 0) : dec (enc d).1 = (onlyD d, 0) := by
  rw [enc_is d hf] at h ⊢
  by_cases h0 : fieldsL d.kind = []
  · rw [if_pos h0] at h; cases h
  · rw [if_neg h0] at h ⊢
    by_cases hft : ∀ f ∈ fieldsL d.kind, fitF d f
    · rw [if_pos hft] at h ⊢
      by_cases hl : 1200 < (headL d ++ bytesF d (fieldsL d.kind)).length
      · rw [if_pos hl] at h; cases h
      · rw [if_neg hl]
        have hk : 1 ≤ d.kind ∧ d.kind ≤ 7 := by
          refine Classical.byContradiction (fun hc => h0 (fieldsL_nil (by omega)))
        obtain ⟨e1, e2, e3⟩ := kind_head d hk (bytesF d (fieldsL d.kind))
        dsimp only
        rw [dec, if_neg hl, if_neg (by simp [e2]), e1, if_neg h0, e3, takes_there d hf hft]
        simp [ended, onlyD]
    · rw [if_neg hft] at h; cases h
set_option maxRecDepth 100000 in
theorem enc_codes (d : Dg) (hf : d.fine) : ((enc d).2 = 0 ∨ ((enc d).1 = [] ∧ 71 ≤ (enc d).2 ∧ (enc d).2 ≤ 73)) := by
  rw [enc_is d hf]
  split
  · right; exact ⟨rfl, by decide, by decide⟩
  · split
    · split
      · right; exact ⟨rfl, by decide, by decide⟩
      · left; rfl
    · right; exact ⟨rfl, by decide, by decide⟩
end Go.Proofs.YtldnpebnpbahjaaGreatDoor.Pk

