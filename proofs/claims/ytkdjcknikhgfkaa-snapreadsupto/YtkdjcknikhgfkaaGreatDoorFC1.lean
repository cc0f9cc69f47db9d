import Derived.Test.YtkdjcknikhgfkaaGreatDoorFA1
import Derived.Test.YtkdjcknikhgfkaaGreatDoorShelf
import Derived.Test.YtkdjcknikhgfkaaGreatDoorX2
/- strings.HasPrefix, Clone, Repeat; kindOf, tagged, Body, Sealed -/
namespace Go.Proofs.YtkdjcknikhgfkaaGreatDoor.Pk
open Go Go.RowKit

set_option maxRecDepth 100000 in
theorem grown_of_below {w w' : World} (h : Below w.heap.size w w') : w.grownBy w' none := ⟨h.os, h.tape, h.output, h.size, fun k hk _ => h.block k hk⟩
def mgB : ByteArray := { data := #[74, 48, 49] }
set_option maxRecDepth 100000 in
theorem prefix_take (s : List UInt8) : Lib.hasPrefix s magic = decide (s.take 3 = magic) := by
  rw [Bool.eq_iff_iff, decide_eq_true_iff, Lib.hasPrefix, List.isPrefixOf_iff_prefix]
  exact ⟨fun h => (List.prefix_iff_eq_take.1 h).symm, fun h => h ▸ List.take_prefix _ _⟩
set_option maxRecDepth 100000 in
theorem hp_c (s : ByteArray) (w : World) :
    Calls Tryz.prog 29 #[.string s, .string mgB] w fun e w' => e = .returned (.bool (decide ((sl s).take 3 = magic))) ∧ w' = w := by
  refine (Tryz.strings_HasPrefix s mgB w).mono ?_
  rintro e w' ⟨rfl, rfl⟩
  refine ⟨?_, rfl⟩
  rw [← prefix_take]; rfl
set_option maxRecDepth 100000 in
theorem idx3 (s : ByteArray) (h : 4 ≤ s.size) (W : World) : (Instr.index 9 (.string s) (.int .i64 3)).run Tryz.prog W = .ok (.int .u8 ((sl s).getD 3 0).toNat) W := by
  have hl : 3 < s.size := by omega
  have := idx9 s 3 s[3] hl (sl_at s 3 hl) W
  rw [show (sl s).getD 3 0 = s[3] by rw [List.getD_eq_getElem?_getD, show (sl s)[3]? = some s[3] from sl_at s 3 hl]; rfl]
  exact this
set_option maxHeartbeats 4000000 in
set_option maxRecDepth 100000 in
theorem kind_c (s : ByteArray) (w : World) (hs : s.size ≤ 4611686018427387904) :
    Calls Tryz.prog 31 #[.string s] w fun e w' => e = .returned (.int .i64 (kindL (sl s))) ∧ w' = w := by
  by_cases h4 : s.size < 4
  · have hk : kindL (sl s) = 0 := by rw [kindL, if_pos (.inl (by rw [sl_len]; exact h4))]
    rw [hk]
    have hd : decide ((s.size : Int) < 4) = true := decide_eq_true (by omega)
    clear hk h4
    go_enter Tryz.func31, Tryz.ntmps31
    go_wp2_with fail
    go_ret
    exact ⟨rfl, rfl⟩
  · have hd : decide ((s.size : Int) < 4) = false := decide_eq_false (by omega)
    by_cases hm : (sl s).take 3 = magic
    · have hk : kindL (sl s) = (((sl s).getD 3 0).toNat : Int) := by rw [kindL, if_neg (by rw [sl_len]; simp [hm]; omega)]
      rw [hk]
      have hi := idx3 s (by omega)
      have HC := Keep.mk (hp_c s w)
      rw [decide_eq_true hm] at HC
      have hlt : ((sl s).getD 3 0).toNat < 256 := UInt8.toNat_lt _
      generalize ((sl s).getD 3 0).toNat = x at hi hlt ⊢
      clear hk h4 hm
      go_enter Tryz.func31, Tryz.ntmps31
      go_wp2_with fail
      refine HC.out.mono ?_
      rintro e w1 ⟨rfl, rfl⟩
      go_wp2_with fail
      go_ret
      exact ⟨rfl, rfl⟩
    · have hk : kindL (sl s) = 0 := by rw [kindL, if_pos (.inr hm)]
      rw [hk]
      have HC := Keep.mk (hp_c s w)
      rw [decide_eq_false hm] at HC
      clear hk h4 hm
      go_enter Tryz.func31, Tryz.ntmps31
      go_wp2_with fail
      refine HC.out.mono ?_
      rintro e w1 ⟨rfl, rfl⟩
      go_wp2_with fail
      go_ret
      exact ⟨rfl, rfl⟩
set_option maxHeartbeats 4000000 in
set_option maxRecDepth 100000 in
theorem tagged_c (k : Int) (w : World) :
    Calls Tryz.prog 46 #[.int .i64 k] w fun e w' => e = .returned (.bool (decide (3 ≤ k ∧ k ≤ 7))) ∧ w' = w := by
  by_cases h3 : 3 ≤ k
  · have hd : decide (3 ≤ k) = true := decide_eq_true h3
    have he : decide (3 ≤ k ∧ k ≤ 7) = decide (k ≤ 7) := by simp [h3]
    rw [he]
    clear h3 he
    go_enter Tryz.func46, Tryz.ntmps46
    go_wp2
    go_ret
    exact ⟨rfl, rfl⟩
  · have hd : decide (3 ≤ k) = false := decide_eq_false h3
    have he : decide (3 ≤ k ∧ k ≤ 7) = false := by simp [h3]
    rw [he]
    clear h3 he
    go_enter Tryz.func46, Tryz.ntmps46
    go_wp2
    go_ret
    exact ⟨rfl, rfl⟩
set_option maxHeartbeats 4000000 in
set_option maxRecDepth 100000 in
theorem clone_c (s : ByteArray) (w : World) (hs : s.size ≤ 281474976710656) :
    Calls Tryz.prog 90 #[.string s] w fun e w' => e = .returned (.string s) ∧ w.grownBy w' none := by
  go_enter Tryz.func90, Tryz.ntmps90
  go_wp2_with fail
  refine (Tryz.stringslite_Clone s w hs).mono ?_
  rintro e w1 ⟨rfl, g1⟩
  have HG := Keep.mk (grown_of_below g1)
  clear g1
  go_wp2
  go_ret
  exact ⟨rfl, HG.out⟩
set_option maxRecDepth 100000 in
theorem rep_c (c : Nat) (w : World) (hc : c ≤ 1000) :
    Calls Tryz.prog 47 #[.string { data := #[0] }, .int .i64 c] w fun e w' => e = .returned (.string (ba (List.replicate c 0))) ∧ w.grownBy w' none := by
  refine (Tryz.strings_Repeat ⟨#[0]⟩ c w (by omega) (by simp [ByteArray.size]; omega)).mono ?_
  rintro e w' ⟨rfl, g⟩
  refine ⟨?_, grown_of_below g⟩
  have : ∀ n : Nat, Lib.repeatL [(0 : UInt8)] n = List.replicate n 0 := fun n => by
    induction n with
    | zero => rfl
    | succ n ih => rw [Lib.repeatL, ih]; rfl
  rw [show (ByteArray.mk #[0]).data.toList = [0] from rfl, this]
end Go.Proofs.YtkdjcknikhgfkaaGreatDoor.Pk
