/- keys and secrets: what a jar answers is what the reference's answers -/
import Derived.Test.YtbmnlhmelbhjeaaDoorCP2
import Derived.Test.YtbmnlhmelbhjeaaDoorCP3
namespace Go.Proofs.YtbmnlhmelbhjeaaDoor
open Go Go.RowKit

/-- a jar's two secrets, and the keys of all its epochs -/
structure KS (s a : List UInt8) (ks : List ByteArray) : Prop where
  now : ∀ x key, ks.length = x + 1 → ks[x]? = some key → s = Mac.len8 (x + 1) ++ sl key
  ahead : ∀ x key, ks.length = x + 2 → ks[x]? = some key → a = Mac.len8 (x + 1) ++ sl key
  first : ks.length = 1 → a = zl40
  sz : ∀ k ∈ ks, k.size = 32
  pos : 0 < ks.length
theorem KS.start (seed : ByteArray) : KS (firstS seed) zl40 [deriveB seed cookieB []] := by
  refine ⟨fun x key h1 h2 => ?_, fun x key h1 _ => by simp at h1, fun _ => rfl, fun k hk => ?_, by simp⟩
  · obtain rfl : x = 0 := by simpa using h1.symm
    obtain rfl : deriveB seed cookieB [] = key := by simpa using h2
    rfl
  · obtain rfl : k = deriveB seed cookieB [] := by simpa using hk
    exact deriveB_size _ _ _
theorem KS.last {s a : List UInt8} {ks : List ByteArray} (h : KS s a ks) : ∃ x key, ks.length = x + 1 ∧ ks[x]? = some key ∧ key.size = 32 ∧ s = Mac.len8 (x + 1) ++ sl key := by
  have hp := h.pos
  obtain ⟨x, hx⟩ : ∃ x, ks.length = x + 1 := ⟨ks.length - 1, by omega⟩
  obtain ⟨key, hk⟩ : ∃ key, ks[x]? = some key := ⟨_, List.getElem?_eq_getElem (by omega)⟩
  exact ⟨x, key, hx, hk, h.sz key (List.mem_of_getElem? hk), h.now x key hx hk⟩
theorem take8 (n : Nat) (l : List UInt8) : (Mac.len8 n ++ l).take 8 = Mac.len8 n := by
  rw [List.take_append_of_le_length (by rw [Mac.len8_len]; omega)]; rfl
theorem drop8 (n : Nat) (l : List UInt8) : (Mac.len8 n ++ l).drop 8 = l := by
  rw [List.drop_append_of_le_length (by rw [Mac.len8_len]; omega)]; rfl
theorem KS.ep {s a : List UInt8} {ks : List ByteArray} (h : KS s a ks) (hl : ks.length < 18446744073709551616) : Ep s a ks.length := by
  obtain ⟨x, key, h1, h2, h3, h4⟩ := h.last
  refine ⟨?_, ?_, h.pos, ?_, h.first⟩
  · rw [h4, List.length_append, Mac.len8_len, sl_len, h3]
  · rw [h4, take8, beN_len8 _ (by omega), h1]
  · by_cases hx : x = 0
    · subst hx
      rw [h.first h1, h1]; rfl
    · obtain ⟨y, rfl⟩ : ∃ y, x = y + 1 := ⟨x - 1, by omega⟩
      obtain ⟨k2, hk2⟩ : ∃ key, ks[y]? = some key := ⟨_, List.getElem?_eq_getElem (by omega)⟩
      rw [h.ahead y k2 (by omega) hk2, take8, beN_len8 _ (by omega), h1]
theorem bake_key (x : Nat) (key f n : ByteArray) : bakeS (Mac.len8 (x + 1) ++ sl key) f n = deriveB key cookieB [f, n, ba (Mac.len8 (x + 1))] := by
  rw [bakeS, take8, drop8, sl_ba]
theorem KS.chk {s a : List UInt8} {ks : List ByteArray} (h : KS s a ks) (hl : ks.length < 18446744073709551616) (f n c : ByteArray) (x : Nat) : chkS s a f n x c = rchk ks f n x c := by
  have E := h.ep hl
  have hp := h.pos
  unfold rchk
  by_cases h0 : x = 0 ∨ ks.length < x ∨ x + 1 < ks.length
  · rw [if_pos h0]
    exact E.chk_else x (by omega) (by omega) f n c
  · rw [if_neg h0]
    obtain ⟨y, rfl⟩ : ∃ y, x = y + 1 := ⟨x - 1, by omega⟩
    obtain ⟨key, hk⟩ : ∃ key, ks[y]? = some key := ⟨_, List.getElem?_eq_getElem (by omega)⟩
    rw [Nat.add_sub_cancel, List.getD_eq_getElem?_getD, hk, Option.getD_some]
    by_cases h1 : ks.length = y + 1
    · have := E.chk_now f n c
      rw [h1] at this
      rw [this, h.now y key h1 hk, bake_key]
    · rw [E.chk_ahead (y + 1) (by omega) (by omega), h.ahead y key (by omega) hk, bake_key]
theorem KS.turn {s a : List UInt8} {ks : List ByteArray} (h : KS s a ks) (hl : ks.length < 18446744073709551615) (c key : ByteArray) (x : Nat) (h1 : ks.length = x + 1) (h2 : ks[x]? = some key) : KS (turnS s c) s (ks ++ [deriveB key turnB [c]]) := by
  have E := h.ep (by omega)
  have hn := h.now x key h1 h2
  have e : turnS s c = Mac.len8 (x + 1 + 1) ++ sl (deriveB key turnB [c]) := by
    rw [turnS, nextS, E.now, h1, hn, drop8, sl_ba]
  refine ⟨fun y k hy hk => ?_, fun y k hy hk => ?_, fun h => ?_, fun k hk => ?_, by simp⟩
  · rw [List.length_append, List.length_cons, List.length_nil] at hy
    obtain rfl : y = x + 1 := by omega
    rw [List.getElem?_append_right (by omega), h1, Nat.sub_self] at hk
    obtain rfl : deriveB key turnB [c] = k := by simpa using hk
    exact e
  · rw [List.length_append, List.length_cons, List.length_nil] at hy
    obtain rfl : y = x := by omega
    rw [List.getElem?_append_left (by omega), h2] at hk
    obtain rfl := Option.some.inj hk
    exact hn
  · rw [List.length_append, List.length_cons, List.length_nil] at h; omega
  · rcases List.mem_append.1 hk with hk | hk
    · exact h.sz k hk
    · obtain rfl : k = deriveB key turnB [c] := by simpa using hk
      exact deriveB_size _ _ _
/-- only the blocks of S turned -/
structure FX (S : Nat → Prop) (w w' : World) : Prop where
  os : w'.os = w.os
  tape : w'.tape = w.tape
  output : w'.output = w.output
  size : w.heap.size ≤ w'.heap.size
  block : ∀ k, k < w.heap.size → ¬ S k → w'.heap[k]? = w.heap[k]?
end Go.Proofs.YtbmnlhmelbhjeaaDoor
