/- mac.Same -/
import Derived.Test.YtbmnlhmelbhjeaaDoorMaBase
namespace Go.Proofs.YtbmnlhmelbhjeaaDoor
open Go Go.RowKit

/-- a string's bytes -/
def sl (s : ByteArray) : List UInt8 := s.data.toList
theorem sl_len (s : ByteArray) : (sl s).length = s.size := Array.length_toList
theorem sl_mk (l : List UInt8) : sl ⟨l.toArray⟩ = l := by simp [sl]
theorem sl_app (a b : ByteArray) : sl (a ++ b) = sl a ++ sl b := by simp [sl]
theorem sl_inj {a b : ByteArray} (h : sl a = sl b) : a = b := by
  apply ByteArray.ext
  exact Array.toList_inj.1 h
theorem sl_extract (s : ByteArray) (m : Nat) : sl (s.extract m s.size) = (sl s).drop m := by
  simp only [sl, ByteArray.data_extract, Array.toList_extract, List.extract]
  apply List.take_of_length_le
  rw [List.length_drop, Array.length_toList]; exact Nat.le_refl _
def strSize : Value → Nat
  | .string s => s.size
  | _ => 0

theorem c_or (x y : UInt8) : bits .or .u8 (x.toNat : Int) (y.toNat : Int) = ((x ||| y).toNat : Int) := by
  rw [u8_or_nat _ _ (by exact x.toNat_lt) (by exact y.toNat_lt), UInt8.toNat_or]
theorem c_xor (x y : UInt8) : bits .xor .u8 (x.toNat : Int) (y.toNat : Int) = ((x ^^^ y).toNat : Int) := by
  rw [u8_xor_nat _ _ (by exact x.toNat_lt) (by exact y.toNat_lt), UInt8.toNat_xor]
theorem sl_at (s : ByteArray) (i : Nat) (h : i < s.size) : (sl s)[i]? = some s[i] := by
  unfold sl
  rw [Array.getElem?_toList]
  exact Array.getElem?_eq_getElem h
theorem idx9 (s : ByteArray) (i : Nat) (y : UInt8) (h : i < s.size) (hy : (sl s)[i]? = some y) (W : World) : (Instr.index 9 (.string s) (.int .i64 (i : Int))).run Tryd.prog W = .ok (.int .u8 y.toNat) W := by
  rw [run_index_string W 9 s .i64 i (by kernel_rfl), dif_pos ⟨by omega, by omega⟩]
  rw [sl_at s i h] at hy
  simp only [Int.toNat_natCast, Option.some.inj hy]
theorem or_zero8 (x y : UInt8) : x ||| y = 0 ↔ x = 0 ∧ y = 0 := by
  constructor
  · intro h
    have h1 := congrArg UInt8.toNat h
    rw [UInt8.toNat_or] at h1
    have h2 : x.toNat = 0 ∧ y.toNat = 0 := by simpa using h1
    exact ⟨UInt8.toNat_inj.1 (by simpa using h2.1), UInt8.toNat_inj.1 (by simpa using h2.2)⟩
  · rintro ⟨rfl, rfl⟩; rfl
theorem xor_zero8 (x y : UInt8) : x ^^^ y = 0 ↔ x = y := by
  constructor
  · intro h
    have h2 : x ^^^ y ^^^ y = 0 ^^^ y := by rw [h]
    rw [UInt8.xor_assoc, UInt8.xor_self, UInt8.xor_zero, UInt8.zero_xor] at h2
    exact h2
  · rintro rfl; exact UInt8.xor_self
theorem take_eq (p q : List UInt8) (i : Nat) (x y z : UInt8) (hx : p[i]? = some y) (hy : q[i]? = some z) (h : x = 0 ↔ p.take i = q.take i) : x ||| (y ^^^ z) = 0 ↔ p.take (i + 1) = q.take (i + 1) := by
  obtain ⟨h1, e1⟩ := List.getElem?_eq_some_iff.1 hx
  obtain ⟨h2, e2⟩ := List.getElem?_eq_some_iff.1 hy
  rw [or_zero8, xor_zero8, h, List.take_succ_eq_append_getElem h1, List.take_succ_eq_append_getElem h2, e1, e2]
  constructor
  · rintro ⟨a, b⟩; rw [a, b]
  · intro e
    have := List.append_inj e (by simp <;> omega)
    exact ⟨this.1, by simpa using this.2⟩

set_option maxRecDepth 100000 in
set_option maxHeartbeats 4000000 in
theorem same_any (a b : ByteArray) (w : World) (ha : a.size ≤ 4611686018427387904) (_hb : b.size ≤ 4611686018427387904) :
    Calls Tryd.prog 24 #[.string a, .string b] w fun e w' => e = .returned (.bool (decide (sl a = sl b))) ∧ w.grownBy w' none := by
  go_enter Tryd.func24, Tryd.ntmps24
  by_cases hl : a.size = b.size
  · go_wp2
    go_loopw [5, 14] (fun d t w' => ∃ (i : Nat) (x : UInt8), i ≤ b.size ∧ t = .int .i64 i ∧ d = .int .u8 x.toNat ∧ Keep ((x = 0 ↔ (sl a).take i = (sl b).take i) ∧ w.grownBy w' none)) (fun _ t _ => b.size - (intOf t).toNat)
    case atStart => exact ⟨0, 0, by omega, rfl, rfl, ⟨by simp, World.grownBy.refl _ _⟩⟩
    case round =>
      obtain ⟨i, x, hi, rfl, rfl, hrel⟩ := hrel
      by_cases hli : i < b.size
      · have hia : i < a.size := by omega
        obtain ⟨y, hy⟩ : ∃ y, (sl a)[i]? = some y := ⟨_, sl_at a i hia⟩
        obtain ⟨z, hz⟩ : ∃ z, (sl b)[i]? = some z := ⟨_, sl_at b i hli⟩
        obtain ⟨v, hv⟩ : ∃ v, y ^^^ z = v := ⟨_, rfl⟩
        obtain ⟨u, hu⟩ : ∃ u, x ||| v = u := ⟨_, rfl⟩
        have HX : Keep (u = 0 ↔ (sl a).take (i + 1) = (sl b).take (i + 1)) := ⟨by rw [← hu, ← hv]; exact take_eq _ _ i x y z hy hz hrel.out.1⟩
        have ix := idx9 a i y hia hy
        have iy := idx9 b i z hli hz
        have c1 := c_xor y z
        have c2 := c_or x v
        rw [hv] at c1
        rw [hu] at c2
        clear hy hz hu hv
        go_wp2
        go_region
        go_wp2
        refine ⟨⟨i + 1, u, by omega, by go_num, rfl, ⟨HX.out, hrel.out.2.trans (gr_drewN _ _ _)⟩⟩, ?_⟩
        simp [intOf]; omega
      · have HE : Keep (Value.bool ((x.toNat : Int) == 0) = .bool (decide (sl a = sl b)) ∧ w.grownBy wr none) := ⟨by
          have e1 : (sl a).take i = sl a := List.take_of_length_le (by rw [sl_len]; omega)
          have e2 : (sl b).take i = sl b := List.take_of_length_le (by rw [sl_len]; omega)
          have h := hrel.out.1
          rw [e1, e2] at h
          congr 1
          rw [Bool.eq_iff_iff, beq_iff_eq, decide_eq_true_iff, ← h, ← UInt8.toNat_inj]
          simp, hrel.out.2⟩
        clear hrel
        go_wp2
        go_ret
        exact ⟨by rw [← HE.out.1]; rfl, HE.out.2⟩
  · have HN : Keep (decide (sl a = sl b) = false) := ⟨by
      rw [decide_eq_false_iff_not]
      intro e
      exact hl (by rw [← sl_len, ← sl_len, e])⟩
    go_wp2
    go_ret
    exact ⟨by rw [HN.out]; rfl, World.grownBy.refl _ _⟩
end Go.Proofs.YtbmnlhmelbhjeaaDoor
