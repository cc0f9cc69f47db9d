/- a text is ranged over: Runes, end. -/
import Derived.Test.YthhpbonacefmaaaDoorBase
import Derived.Lib.OthersKept
namespace Go.Proofs.YthhpbonacefmaaaDoor
open Go Go.RowKit

/-- where the piece number k begins -/
def posn (s : ByteArray) (k : Nat) : Nat := (flat ((pieces (sl s)).take k)).length
/-- how many runes -/
def rn (s : ByteArray) : Nat := (pieces (sl s)).length
theorem rn_le (s : ByteArray) : rn s ≤ s.size := by rw [← sl_len]; exact pieces_le _
theorem posn_zero (s : ByteArray) : posn s 0 = 0 := rfl
theorem posn_end (s : ByteArray) : posn s (rn s) = s.size := by rw [← sl_len]; exact piece_end rfl

structure It (w : World) (kb : Nat) (s : ByteArray) (k : Nat) : Prop where
  at_ : w.heap[kb]? = some (.stringIter s (posn s k))
  le : k ≤ rn s

theorem It.new (w : World) (s : ByteArray) : It (w.iter s 0) w.heap.size s 0 := ⟨World.iter_heap w s 0, Nat.zero_le _⟩
theorem It.lt {w : World} {kb : Nat} {s : ByteArray} {k : Nat} (h : It w kb s k) : kb < w.heap.size := (Array.getElem?_eq_some_iff.1 h.at_).1
theorem It.pos {w : World} {kb : Nat} {s : ByteArray} {k : Nat} (h : It w kb s k) : w.iterPos kb = posn s k := by simp [World.iterPos, h.at_]
theorem It.step {w : World} {kb : Nat} {s : ByteArray} {k : Nat} (h : It w kb s k) {p : Nat × List UInt8} (hp : (pieces (sl s))[k]? = some p) (ty : TypeId) :
    (Instr.next (.pointer (some ⟨kb, 0, none⟩)) true ty).run Tryd.prog w = .ok (.tuple #[.bool true, .int .i64 (posn s k), .int .i32 p.1]) (w.iterAt kb s (posn s (k + 1))) := by
  obtain ⟨h1, h2, h3, h4, h5, h6, h7⟩ := piece_len hp
  rw [Lib.run_next_any_at w kb s (posn s k) ty h.at_ (by rw [← sl_len]; exact h4), dec_at]
  unfold posn
  rw [h3, h5]
theorem It.stop {w : World} {kb : Nat} {s : ByteArray} {k : Nat} (h : It w kb s k) (hk : k = rn s) (ty : TypeId) :
    (Instr.next (.pointer (some ⟨kb, 0, none⟩)) true ty).run Tryd.prog w = .ok (.tuple #[.bool false]) w := by
  subst hk
  exact Lib.run_next_end_at w kb s _ ty h.at_ (by rw [posn_end]; omega)
theorem It.next {w : World} {kb : Nat} {s : ByteArray} {k : Nat} (h : It w kb s k) (hk : k < rn s) : It (w.iterAt kb s (posn s (k + 1))) kb s (k + 1) :=
  ⟨Lib.iterAt_heap w kb s _ _ h.at_, hk⟩
theorem It.kept {w w' : World} {kb : Nat} {s : ByteArray} {k : Nat} (h : It w kb s k) (hg : w.grownBy w' none) : It w' kb s k :=
  ⟨by rw [hg.block kb h.lt (by simp)]; exact h.at_, h.le⟩
theorem It.fr {S : Nat → Prop} {w w' : World} {kb : Nat} {s : ByteArray} {k : Nat} (h : It w kb s k) (hg : Fr S w w') (hs : ¬ S kb) : It w' kb s k :=
  ⟨by rw [hg.block kb h.lt hs]; exact h.at_, h.le⟩
theorem posn_step {s : ByteArray} {k : Nat} {p : Nat × List UInt8} (hp : (pieces (sl s))[k]? = some p) : posn s (k + 1) = posn s k + p.2.length ∧ 1 ≤ p.2.length ∧ p.2.length ≤ 4 ∧ posn s (k + 1) ≤ s.size := by
  obtain ⟨h1, h2, h3, h4, h5, h6, h7⟩ := piece_len hp
  exact ⟨h5, h1, h2, by rw [← sl_len]; exact h6⟩
theorem It.has {w : World} {kb : Nat} {s : ByteArray} {k : Nat} (h : It w kb s k) (hk : k ≠ rn s) : ∃ p, (pieces (sl s))[k]? = some p :=
  ⟨_, List.getElem?_eq_getElem (show k < (pieces (sl s)).length by have := h.le; unfold rn at this hk; omega)⟩
theorem gr_iterAt (w : World) (kb : Nat) (s : ByteArray) (p : Nat) : w.grownBy (w.iterAt kb s p) (some kb) :=
  ⟨rfl, rfl, rfl, by rw [Lib.iterAt_size]; exact Nat.le_refl _, fun i _ hi => Lib.iterAt_other w kb i s p (fun e => hi (by rw [e]))⟩
theorem gr_iter (w : World) (s : ByteArray) (p : Nat) : w.grownBy (w.iter s p) none := World.grownBy_alloc w _ none

theorem It.move {w : World} {kb : Nat} {s : ByteArray} {k : Nat} (h : It w kb s k) (hk : k ≠ rn s) : ∃ p w2, Keep ((pieces (sl s))[k]? = some p) ∧
    (∀ ty, (Instr.next (.pointer (some ⟨kb, 0, none⟩)) true ty).run Tryd.prog w = .ok (.tuple #[.bool true, .int .i64 (posn s k), .int .i32 p.1]) w2) ∧
    It w2 kb s (k + 1) ∧ w.grownBy w2 (some kb) ∧ Keep (s.size - w2.iterPos kb < s.size - w.iterPos kb) := by
  obtain ⟨p, hp⟩ := h.has hk
  have hst := posn_step hp
  have hN := h.next (show k < rn s by have := h.le; omega)
  refine ⟨p, _, ⟨hp⟩, h.step hp, hN, gr_iterAt w kb s _, ⟨?_⟩⟩
  rw [hN.pos, h.pos]
  omega

set_option maxHeartbeats 2000000 in
theorem runes_c (s : ByteArray) (w : World) (hs : s.size ≤ 4611686018427387904) :
    Calls Tryd.prog 11 #[.string s] w fun e w' => e = .returned (iv (rn s)) ∧ w.grownBy w' none := by
  have hr := rn_le s
  go_enter Tryd.func11, Tryd.ntmps11
  go_wp2
  go_loopw [3] (fun n w' => ∃ k : Nat, n = .int .i64 k ∧ It w' w.heap.size s k ∧ w.grownBy w' none) (fun _ w' => s.size - w'.iterPos w.heap.size)
  case atStart => exact ⟨0, rfl, It.new w s, gr_iter w s 0⟩
  case round =>
    obtain ⟨k, rfl, hI, hg⟩ := hrel
    by_cases hk : k = rn s
    · have hnx := hI.stop hk
      clear hI
      subst hk
      go_wp2
      go_ret
      exact ⟨rfl, hg⟩
    · obtain ⟨p, w2, hp, hnx, hN, hG2, hm⟩ := hI.move hk
      have hle := hI.le
      have hG := gr_new hg hG2 (Nat.le_refl _)
      clear hI hp hG2
      go_wp2
      go_roundw
      case rel => exact ⟨k + 1, by simp, hN, hG⟩
      case measure => exact hm.out

/-- so many runes are cut off -/
def cutk (s : ByteArray) (n : Int) : Nat := min n.toNat (rn s)
set_option maxHeartbeats 2000000 in
theorem end_c (s : ByteArray) (n : Int) (w : World) (hs : s.size ≤ 4611686018427387904) (hn : -9223372036854775808 ≤ n) (hn2 : n ≤ 9223372036854775807) :
    Calls Tryd.prog 27 #[.string s, iv n] w fun e w' => e = .returned (iv (posn s (cutk s n))) ∧ w.grownBy w' none := by
  have hr := rn_le s
  go_enter Tryd.func27, Tryd.ntmps27
  go_wp2
  go_loopw [1] (fun m w' => ∃ k : Nat, m = .int .i64 (n - k) ∧ k ≤ n.toNat ∧ It w' w.heap.size s k ∧ w.grownBy w' none) (fun _ w' => s.size - w'.iterPos w.heap.size)
  case atStart => exact ⟨0, by simp, Nat.zero_le _, It.new w s, gr_iter w s 0⟩
  case round =>
    obtain ⟨k, rfl, hkn, hI, hg⟩ := hrel
    by_cases hk : k = rn s
    · have hnx := hI.stop hk
      have HE : Keep (posn s (cutk s n) = s.size) := ⟨by rw [← posn_end]; congr 1; unfold cutk; omega⟩
      clear hI
      go_wp2
      go_ret
      rw [HE.out]
      exact ⟨rfl, hg⟩
    · obtain ⟨p, w2, hp, hnx, hN, hG2, hm⟩ := hI.move hk
      have hle := hI.le
      have hG := gr_new hg hG2 (Nat.le_refl _)
      clear hI hp hG2
      by_cases h0 : n - k ≤ 0
      · have hc : Keep (cutk s n = k) := ⟨by unfold cutk; omega⟩
        go_wp2
        go_ret
        rw [hc.out]
        exact ⟨rfl, hG⟩
      · have hw : Keep (wrap64 (n - k - 1) = n - (k + 1 : Nat)) := ⟨by unfold wrap64; omega⟩
        go_wp2
        go_roundw
        case rel => exact ⟨k + 1, by first | rw [hw.out] | (congr 1; omega), by omega, hN, hG⟩
        case measure => exact hm.out
end Go.Proofs.YthhpbonacefmaaaDoor
