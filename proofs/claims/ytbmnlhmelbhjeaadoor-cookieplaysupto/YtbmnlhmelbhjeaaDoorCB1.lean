/- cookie: what a jar's epochs are; the chapter's example -/
import Derived.Test.YtbmnlhmelbhjeaaDoorCA6
namespace Go.Proofs.YtbmnlhmelbhjeaaDoor
open Go Go.RowKit

/-- secrets of the epochs e and e - 1 (none in epoch 1) -/
structure Ep (s a : List UInt8) (e : Nat) : Prop where
  ls : s.length = 40
  now : beN (s.take 8) = e
  pos : 1 ≤ e
  ahead : beN (a.take 8) + 1 = e
  first : e = 1 → a = zl40
theorem Ep.start (seed : ByteArray) : Ep (firstS seed) zl40 1 :=
  ⟨firstS_len seed, by rw [firstS, List.take_append_of_le_length (by rw [Mac.len8_len]; omega)]; exact beN_len8 1 (by omega), Nat.le_refl _, rfl, fun _ => rfl⟩
theorem Ep.turn {s a : List UInt8} {e : Nat} (h : Ep s a e) (he : e < 18446744073709551615) (c : ByteArray) : Ep (turnS s c) s (e + 1) := by
  refine ⟨turnS_len s c, ?_, by omega, by rw [h.now], fun h1 => by have := h.pos; omega⟩
  rw [turnS, nextS, List.take_append_of_le_length (by rw [Mac.len8_len]; omega), List.take_of_length_le (by rw [Mac.len8_len]; omega), beN_len8 _ (by rw [h.now]; omega), h.now]
theorem zl40_e : beN (zl40.take 8) = 0 := rfl
theorem Ep.ne {s a : List UInt8} {e : Nat} (h : Ep s a e) : s ≠ zl40 := fun h1 => by
  have h2 := h.now; have h3 := h.pos
  rw [h1, zl40_e] at h2; omega
theorem Ep.chk_now {s a : List UInt8} {e : Nat} (h : Ep s a e) (f n c : ByteArray) : chkS s a f n e c = if c = bakeS s f n then 0 else 101 := by
  have : findS s a e = s := by rw [findS, if_pos h.now.symm]
  rw [chkS, this, if_neg h.ne]
theorem Ep.chk_ahead {s a : List UInt8} {e : Nat} (h : Ep s a e) (x : Nat) (hx : x + 1 = e) (h1 : 1 ≤ x) (f n c : ByteArray) : chkS s a f n x c = if c = bakeS a f n then 0 else 101 := by
  have ha := h.ahead
  have : findS s a x = a := by rw [findS, if_neg (by rw [h.now]; omega), if_pos (by omega)]
  rw [chkS, this, if_neg (fun e => by rw [e, zl40_e] at ha; omega)]
theorem Ep.chk_else {s a : List UInt8} {e : Nat} (h : Ep s a e) (x : Nat) (hx : x ≠ e) (h1 : x + 1 ≠ e ∨ x = 0) (f n c : ByteArray) : chkS s a f n x c = 100 := by
  have ha := h.ahead
  have : findS s a x = zl40 := by
    rw [findS, if_neg (by rw [h.now]; exact hx)]
    split
    · exact h.first (by omega)
    · rfl
  rw [chkS, this, if_pos rfl]

def k1L : List UInt8 := [241, 78, 241, 72, 116, 111, 98, 38, 75, 212, 67, 217, 99, 85, 44, 126, 209, 198, 151, 138, 31, 158, 255, 159, 176, 207, 101, 100, 229, 41, 184, 192]
def c1L : List UInt8 := [103, 121, 206, 92, 214, 47, 254, 205, 24, 180, 43, 139, 210, 117, 22, 64, 111, 223, 16, 215, 127, 243, 243, 91, 176, 249, 70, 236, 195, 3, 106, 139]
def d1L : List UInt8 := [12, 178, 97, 127, 7, 50, 122, 57, 129, 53, 242, 88, 213, 161, 6, 153, 49, 218, 73, 231, 128, 128, 92, 214, 229, 43, 114, 217, 11, 130, 115, 18]
def k2L : List UInt8 := [4, 18, 207, 134, 166, 115, 30, 3, 35, 76, 81, 157, 172, 244, 179, 154, 244, 46, 247, 143, 204, 218, 141, 254, 158, 72, 142, 62, 121, 160, 178, 155]
def e1L : List UInt8 := [166, 16, 52, 179, 230, 235, 84, 57, 162, 9, 3, 147, 86, 71, 142, 237, 128, 131, 183, 47, 196, 224, 37, 8, 170, 104, 36, 29, 222, 222, 35, 36]
set_option maxRecDepth 100000 in
theorem f_k1 : Mac.hmac [115] (Mac.said [99, 111, 111, 107, 105, 101] []) = k1L := eq_of_beq (by kernel_rfl)
set_option maxRecDepth 100000 in
theorem f_c1 : Mac.hmac k1L (Mac.said [99, 111, 111, 107, 105, 101] [[120], [110], [0, 0, 0, 0, 0, 0, 0, 1]]) = c1L := eq_of_beq (by kernel_rfl)
set_option maxRecDepth 100000 in
theorem f_d1 : Mac.hmac k1L (Mac.said [99, 111, 111, 107, 105, 101] [[121], [110], [0, 0, 0, 0, 0, 0, 0, 1]]) = d1L := eq_of_beq (by kernel_rfl)
set_option maxRecDepth 100000 in
theorem f_k2 : Mac.hmac k1L (Mac.said [116, 117, 114, 110] [[99, 104, 97, 110, 99, 101]]) = k2L := eq_of_beq (by kernel_rfl)
set_option maxRecDepth 100000 in
theorem f_e1 : Mac.hmac k2L (Mac.said [99, 111, 111, 107, 105, 101] [[120], [110], [0, 0, 0, 0, 0, 0, 0, 2]]) = e1L := eq_of_beq (by kernel_rfl)
def sB : ByteArray := { data := #[115] }
def xB : ByteArray := { data := #[120] }
def yB : ByteArray := { data := #[121] }
def nB : ByteArray := { data := #[110] }
def chB : ByteArray := { data := #[99, 104, 97, 110, 99, 101] }
theorem s1_is : firstS sB = [0, 0, 0, 0, 0, 0, 0, 1] ++ k1L := by
  have h : sl (deriveB sB cookieB []) = k1L := by rw [deriveB, sl_mk]; exact f_k1
  rw [firstS, h]; rfl
theorem c1_is : bakeS (firstS sB) xB nB = ba c1L := by
  rw [s1_is]
  show ba (Mac.hmac k1L _) = _
  exact congrArg ba f_c1
theorem d1_is : bakeS (firstS sB) yB nB = ba d1L := by
  rw [s1_is]
  show ba (Mac.hmac k1L _) = _
  exact congrArg ba f_d1
theorem s2_is : turnS (firstS sB) chB = [0, 0, 0, 0, 0, 0, 0, 2] ++ k2L := by
  have h : sl (deriveB (ba ((firstS sB).drop 8)) turnB [chB]) = k2L := by
    rw [deriveB, sl_mk, s1_is]; exact f_k2
  rw [turnS, nextS, h, (Ep.start sB).now]; rfl
theorem e1_is : bakeS (turnS (firstS sB) chB) xB nB = ba e1L := by
  rw [s2_is]
  show ba (Mac.hmac k2L _) = _
  exact congrArg ba f_e1
theorem ba_ne {l m : List UInt8} (h : (l == m) = false) : ba l ≠ ba m := fun e => by
  have : l = m := by rw [← ba_sl l, e, ba_sl]
  rw [this] at h; simp at h
theorem cd_ne : bakeS (firstS sB) xB nB ≠ bakeS (firstS sB) yB nB := by rw [c1_is, d1_is]; exact ba_ne (by kernel_rfl)
theorem ce_ne : bakeS (turnS (firstS sB) chB) xB nB ≠ bakeS (firstS sB) xB nB := by rw [c1_is, e1_is]; exact ba_ne (by kernel_rfl)
end Go.Proofs.YtbmnlhmelbhjeaaDoor
