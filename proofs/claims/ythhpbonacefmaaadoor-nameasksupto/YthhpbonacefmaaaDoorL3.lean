/- spell. -/
import Derived.Test.YthhpbonacefmaaaDoorL0
namespace Go.Proofs.YthhpbonacefmaaaDoor
open Go Go.RowKit

/-- a number as UTF-8 -/
def utfL (n : Nat) : List UInt8 :=
  if n < 128 then [UInt8.ofNat n]
  else if n < 2048 then [UInt8.ofNat (192 + n / 64), UInt8.ofNat (128 + n % 64)]
  else if n < 65536 then [UInt8.ofNat (224 + n / 4096), UInt8.ofNat (128 + n / 64 % 64), UInt8.ofNat (128 + n % 64)]
  else [UInt8.ofNat (240 + n / 262144), UInt8.ofNat (128 + n / 4096 % 64), UInt8.ofNat (128 + n / 64 % 64), UInt8.ofNat (128 + n % 64)]
def rune (n : Int) : Prop := 0 ≤ n ∧ n ≤ 1114111 ∧ (n < 55296 ∨ 57343 < n)

set_option maxHeartbeats 4000000 in
theorem spell_no (n : Int) (w : World) (h : ¬ rune n) : Calls Tryd.prog 19 #[iv n] w fun e w' => e = .returned (.tuple #[.string ⟨#[]⟩, .bool false]) ∧ w' = w := by
  unfold rune at h
  go_enter Tryd.func19, Tryd.ntmps19
  by_cases h0 : n < 0
  · go_wp2_with fail
    exact bodyPost_ret (results_tmp2 rfl _ _ _) rfl ⟨rfl, rfl⟩
  by_cases h1 : 1114111 < n
  · go_wp2_with fail
    exact bodyPost_ret (results_tmp2 rfl _ _ _) rfl ⟨rfl, rfl⟩
  have h2 : 55296 ≤ n := by omega
  have h3 : n ≤ 57343 := by omega
  clear h
  go_wp2_with fail
  exact bodyPost_ret (results_tmp2 rfl _ _ _) rfl ⟨rfl, rfl⟩
theorem bvi {n : Int} (h0 : 0 ≤ n) (h1 : n < 256) : (Value.int .u8 n) = bv (UInt8.ofNat n.toNat) := by
  have : (UInt8.ofNat n.toNat).toNat = n.toNat := by rw [UInt8.toNat_ofNat']; omega
  rw [bv, this]; congr 1; omega
theorem cvtL (l : List UInt8) (w : World) : (convert 32 9 (.slice (some ⟨w.heap.size, 0, none⟩) l.length l.length)).run Tryd.prog (w.alloc (.cells (l.map fun x => bv x).toArray 5)) = .ok (.string (mk l)) (w.alloc (.cells (l.map fun x => bv x).toArray 5)) := by
  refine cvt_back ⟨by simp, fun j x hx => ?_, fun j hj => ?_⟩ rfl
  · exact (Has.new w (l.map fun x => bv x) 5).cellv j _ (by rw [List.getElem?_map, hx]; rfl)
  · exact (Has.new w (l.map fun x => bv x) 5).frozen j

set_option maxRecDepth 100000 in
set_option maxHeartbeats 4000000 in
theorem spell_c (n : Int) (w : World) (h : rune n) : Calls Tryd.prog 19 #[iv n] w fun e w' => e = .returned (.tuple #[.string (mk (utfL n.toNat)), .bool true]) ∧ w.grownBy w' none := by
  unfold rune at h
  go_enter Tryd.func19, Tryd.ntmps19
  have hg := fun o => World.grownBy_alloc w o none
  have HG := Keep.mk hg
  clear hg
  by_cases h0 : n < 128
  · have hU : utfL n.toNat = [UInt8.ofNat n.toNat] := if_pos (by omega)
    rw [hU]
    have hcb := cvtL [UInt8.ofNat n.toNat] w
    simp only [List.map_cons, List.map_nil, List.length_cons, List.length_nil, Nat.zero_add, ← bvi h.1 (by omega : n < 256)] at hcb
    rcases h.2.2 with h3 | h3
    · go_wp2_with fail
      exact bodyPost_ret (results_tmp2 rfl _ _ _) rfl ⟨rfl, HG.out _⟩
    · omega
  by_cases h1 : n < 2048
  · have hU : utfL n.toNat = [UInt8.ofNat (192 + n / 64).toNat, UInt8.ofNat (128 + n % 64).toNat] := by
      unfold utfL
      rw [if_neg (by omega), if_pos (by omega)]
      congr 3 <;> omega
    rw [hU]
    have hcb := cvtL [UInt8.ofNat (192 + n / 64).toNat, UInt8.ofNat (128 + n % 64).toNat] w
    simp only [List.map_cons, List.map_nil, List.length_cons, List.length_nil, Nat.zero_add, ← bvi (by omega : 0 ≤ 192 + n / 64) (by omega), ← bvi (by omega : 0 ≤ 128 + n % 64) (by omega)] at hcb
    rcases h.2.2 with h3 | h3
    · go_wp2_with fail
      exact bodyPost_ret (results_tmp2 rfl _ _ _) rfl ⟨rfl, HG.out _⟩
    · omega
  by_cases h2 : n < 65536
  · have hU : utfL n.toNat = [UInt8.ofNat (224 + n / 4096).toNat, UInt8.ofNat (128 + n / 64 % 64).toNat, UInt8.ofNat (128 + n % 64).toNat] := by
      unfold utfL
      rw [if_neg (by omega), if_neg (by omega), if_pos (by omega)]
      rw [show 224 + n.toNat / 4096 = (224 + n / 4096).toNat by omega, show 128 + n.toNat / 64 % 64 = (128 + n / 64 % 64).toNat by omega, show 128 + n.toNat % 64 = (128 + n % 64).toNat by omega]
    rw [hU]
    have hcb := cvtL [UInt8.ofNat (224 + n / 4096).toNat, UInt8.ofNat (128 + n / 64 % 64).toNat, UInt8.ofNat (128 + n % 64).toNat] w
    simp only [List.map_cons, List.map_nil, List.length_cons, List.length_nil, Nat.zero_add, ← bvi (by omega : 0 ≤ 224 + n / 4096) (by omega), ← bvi (by omega : 0 ≤ 128 + n / 64 % 64) (by omega), ← bvi (by omega : 0 ≤ 128 + n % 64) (by omega)] at hcb
    rcases h.2.2 with h3 | h3
    · go_wp2_with fail
      exact bodyPost_ret (results_tmp2 rfl _ _ _) rfl ⟨rfl, HG.out _⟩
    · go_wp2_with fail
      exact bodyPost_ret (results_tmp2 rfl _ _ _) rfl ⟨rfl, HG.out _⟩
  have hU : utfL n.toNat = [UInt8.ofNat (240 + n / 262144).toNat, UInt8.ofNat (128 + n / 4096 % 64).toNat, UInt8.ofNat (128 + n / 64 % 64).toNat, UInt8.ofNat (128 + n % 64).toNat] := by
    unfold utfL
    rw [if_neg (by omega), if_neg (by omega), if_neg (by omega)]
    rw [show 240 + n.toNat / 262144 = (240 + n / 262144).toNat by omega, show 128 + n.toNat / 4096 % 64 = (128 + n / 4096 % 64).toNat by omega, show 128 + n.toNat / 64 % 64 = (128 + n / 64 % 64).toNat by omega, show 128 + n.toNat % 64 = (128 + n % 64).toNat by omega]
  rw [hU]
  have hcb := cvtL [UInt8.ofNat (240 + n / 262144).toNat, UInt8.ofNat (128 + n / 4096 % 64).toNat, UInt8.ofNat (128 + n / 64 % 64).toNat, UInt8.ofNat (128 + n % 64).toNat] w
  simp only [List.map_cons, List.map_nil, List.length_cons, List.length_nil, Nat.zero_add, ← bvi (by omega : 0 ≤ 240 + n / 262144) (by omega), ← bvi (by omega : 0 ≤ 128 + n / 4096 % 64) (by omega), ← bvi (by omega : 0 ≤ 128 + n / 64 % 64) (by omega), ← bvi (by omega : 0 ≤ 128 + n % 64) (by omega)] at hcb
  have h3 : 57343 < n := by omega
  go_wp2_with fail
  exact bodyPost_ret (results_tmp2 rfl _ _ _) rfl ⟨rfl, HG.out _⟩

/-! what is spelt is one rune -/
theorem ofn {k : Nat} (h : k < 256) : (UInt8.ofNat k).toNat = k := by rw [UInt8.toNat_ofNat']; omega
theorem wholeU {n : Nat} (h : n ≤ 1114111) (h2 : n < 55296 ∨ 57343 < n) : Whole (n, utfL n) := by
  unfold utfL
  split
  · have := whole_ascii (b := UInt8.ofNat n) (by rw [ofn (by omega)]; omega)
    rw [ofn (by omega)] at this
    exact this
  split
  · have e0 := ofn (show 192 + n / 64 < 256 by omega)
    have e1 := ofn (show 128 + n % 64 < 256 by omega)
    refine ⟨by simp, by simp only [List.getD_cons_zero, cont, e0, beq_eq_false_iff_ne]; omega, fun t => ?_⟩
    show dec (_ :: _ :: t) = (n, 2)
    rw [dec_two (by rw [e0]; omega) (by rw [e1]; omega) (by rw [e0, e1]; omega), e0, e1]
    congr 1; omega
  split
  · have e0 := ofn (show 224 + n / 4096 < 256 by omega)
    have e1 := ofn (show 128 + n / 64 % 64 < 256 by omega)
    have e2 := ofn (show 128 + n % 64 < 256 by omega)
    refine ⟨by simp, by simp only [List.getD_cons_zero, cont, e0, beq_eq_false_iff_ne]; omega, fun t => ?_⟩
    show dec (_ :: _ :: _ :: t) = (n, 3)
    rw [dec_three (by rw [e0]; omega) (by rw [e1]; omega) (by rw [e2]; omega) (by rw [e0, e1, e2]; omega), e0, e1, e2]
    congr 1; omega
  · have e0 := ofn (show 240 + n / 262144 < 256 by omega)
    have e1 := ofn (show 128 + n / 4096 % 64 < 256 by omega)
    have e2 := ofn (show 128 + n / 64 % 64 < 256 by omega)
    have e3 := ofn (show 128 + n % 64 < 256 by omega)
    refine ⟨by simp, by simp only [List.getD_cons_zero, cont, e0, beq_eq_false_iff_ne]; omega, fun t => ?_⟩
    show dec (_ :: _ :: _ :: _ :: t) = (n, 4)
    rw [dec_four (by rw [e0]; omega) (by rw [e1]; omega) (by rw [e2]; omega) (by rw [e3]; omega) (by rw [e0, e1, e2, e3]; omega), e0, e1, e2, e3]
    congr 1; omega
theorem dec_cont {b : UInt8} (h0 : 128 ≤ b.toNat) (h1 : b.toNat < 192) (t : List UInt8) : dec (b :: t) = (65533, 1) := by
  rw [dec_cons, Lib.decodeN, if_neg (by omega), if_neg (by omega), if_neg (by omega), if_neg (by omega)]
def odds (l : List UInt8) : List (Nat × List UInt8) := l.map fun b => (65533, [b])
theorem flat_odds (l : List UInt8) : flat (odds l) = l := by
  induction l with
  | nil => rfl
  | cons b l ih => rw [odds, List.map_cons, flat_cons]; simp only [List.singleton_append]; congr 1
theorem oddU {n : Nat} (h : n ≤ 1114111) (h1 : 128 ≤ n) : pieces (utfL n).dropLast = odds (utfL n).dropLast := by
  have key : Good (odds (utfL n).dropLast) := by
    unfold utfL
    rw [if_neg (by omega)]
    split
    · have e0 := ofn (show 192 + n / 64 < 256 by omega)
      refine .odd (by rw [e0]; omega) ?_ .nil
      show dec [_] = _
      rw [dec_cons, Lib.decodeN, e0, if_neg (by omega), if_neg (by simp), if_neg (by simp), if_neg (by simp)]
    split
    · have e0 := ofn (show 224 + n / 4096 < 256 by omega)
      have e1 := ofn (show 128 + n / 64 % 64 < 256 by omega)
      refine .odd (by rw [e0]; omega) ?_ (.odd (by rw [e1]; omega) (dec_cont (by rw [e1]; omega) (by rw [e1]; omega) _) .nil)
      show dec [_, _] = _
      rw [dec_cons, Lib.decodeN, e0, if_neg (by omega), if_neg (by omega), if_neg (by simp), if_neg (by omega)]
    · have e0 := ofn (show 240 + n / 262144 < 256 by omega)
      have e1 := ofn (show 128 + n / 4096 % 64 < 256 by omega)
      have e2 := ofn (show 128 + n / 64 % 64 < 256 by omega)
      refine .odd (by rw [e0]; omega) ?_ (.odd (by rw [e1]; omega) (dec_cont (by rw [e1]; omega) (by rw [e1]; omega) _) (.odd (by rw [e2]; omega) (dec_cont (by rw [e2]; omega) (by rw [e2]; omega) _) .nil))
      show dec [_, _, _] = _
      rw [dec_cons, Lib.decodeN, e0, if_neg (by omega), if_neg (by omega), if_neg (by omega), if_neg (by simp)]
  have := pieces_of_good key
  rwa [flat_odds] at this
end Go.Proofs.YthhpbonacefmaaaDoor
