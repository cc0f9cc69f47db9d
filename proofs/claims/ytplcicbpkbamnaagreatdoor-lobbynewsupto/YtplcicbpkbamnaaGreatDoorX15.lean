import Derived.Test.YtplcicbpkbamnaaGreatDoorX14
import Derived.Lib.ConvBytes
/- strings and their bytes -/
namespace Go.Proofs.YtplcicbpkbamnaaGreatDoor
open Go Go.RowKit

set_option maxRecDepth 100000 in
theorem under5 : Tryz.prog.underlying 5 = some (.int .u8) := by kernel_rfl
set_option maxRecDepth 100000 in
theorem under9 : Tryz.prog.underlying 9 = some .string := by kernel_rfl
set_option maxRecDepth 100000 in
theorem beqL (a b : ByteArray) : (a.toList == b.toList) = decide (sl a = sl b) := by
  rw [ByteArray.toList_eq, ByteArray.toList_eq]
  by_cases h : sl a = sl b
  · rw [decide_eq_true h]; unfold sl at h; rw [h]; simp
  · rw [decide_eq_false h]; unfold sl at h; simpa using h
set_option maxRecDepth 100000 in
theorem addS (a b : ByteArray) (h : a.size + b.size ≤ 9223372036854775807) (W : World) : (Op.stringOp .add a b).run Tryz.prog W = .ok (.string (a ++ b)) W := by
  simp only [Op.stringOp]
  rw [if_neg (by have : IntKind.i64.max = 9223372036854775807 := by decide
                 omega)]
  rfl
/-- '[]byte(s)' -/
theorem cvt (s : ByteArray) (W : World) : (convert 9 98 (.string s)).run Tryz.prog W = .ok (.slice (some ⟨W.heap.size, 0, none⟩) s.size (grownCap W s.size 0 5)) (Lib.bytesWorld W 5 s) :=
  Lib.run_convert_string_bytes (P := Tryz.prog) W 9 98 5 s (u := .string) under9 under28 under5
set_option maxRecDepth 100000 in
theorem gr_bytes (W : World) (s : ByteArray) : W.grownBy (Lib.bytesWorld W 5 s) none :=
  ⟨rfl, rfl, rfl, by rw [Lib.bytesWorld_size]; omega, fun k hk _ => Lib.bytesWorld_at_old _ _ _ _ hk⟩
set_option maxRecDepth 100000 in
theorem bytes_cells (W : World) (s : ByteArray) (j : Nat) (x : UInt8) (hx : (sl s)[j]? = some x) : (Lib.bytesWorld W 5 s).cell? ⟨W.heap.size, j, none⟩ = some (bv x) := by
  have hj : j < s.size := by rw [← sl_len]; exact (List.getElem?_eq_some_iff.1 hx).1
  rw [Lib.bytesWorld_cell _ _ _ j hj]
  unfold sl at hx
  simp [List.getD, hx]
set_option maxRecDepth 100000 in
theorem bytes_of (W : World) (s : ByteArray) (c : Nat) (hc : s.size ≤ c) : BytesOf (Lib.bytesWorld W 5 s) (some ⟨W.heap.size, 0, none⟩) s.size c (sl s) :=
  ⟨sl_len s, hc, fun _ => ⟨_, 0, rfl, fun j x hx => by rw [Nat.zero_add]; exact bytes_cells W s j x hx⟩⟩
/-- 'string(b)' -/
theorem cvt_back (w : World) (a : Option Addr) (n c : Nat) (q : List UInt8) (h : BytesOf w a n c q) (ha : a ≠ none) : (convert 98 9 (.slice a n c)).run Tryz.prog w = .ok (.string ⟨q.toArray⟩) w := by
  have key : ∀ ad : Addr, (∀ j x, q[j]? = some x → w.cell? (ad.add j) = some (bv x)) → (convert 98 9 (.slice (some ad) n c)).run Tryz.prog w = .ok (.string ⟨q.toArray⟩) w := fun ad hc => by
    have := run_convert_bytes_back (P := Tryz.prog) w 98 9 5 ad c q under28 under5 under9 (fun j hj => hc j _ (List.getElem?_eq_getElem hj))
    rw [h.len] at this
    exact this
  cases a with
  | none => exact absurd rfl ha
  | some ad =>
    refine key ad fun j x hx => ?_
    have hn : 0 < n := by rw [← h.len]; have := (List.getElem?_eq_some_iff.1 hx).1; omega
    obtain ⟨B, o, e, h3⟩ := h.at_ hn
    obtain rfl := Option.some.inj e
    rw [Addr.add_mid]; exact h3 j x hx
set_option maxRecDepth 100000 in
theorem sl_back (s : ByteArray) : (⟨(sl s).toArray⟩ : ByteArray) = s := by
  apply ByteArray.ext; simp [sl]
set_option maxRecDepth 100000 in
theorem cvt_cvt (s : ByteArray) (W : World) (c : Nat) (hc : s.size ≤ c) : (convert 98 9 (.slice (some ⟨W.heap.size, 0, none⟩) s.size c)).run Tryz.prog (Lib.bytesWorld W 5 s) = .ok (.string s) (Lib.bytesWorld W 5 s) := by
  have := cvt_back _ _ _ _ _ (bytes_of W s c hc) (by simp)
  rwa [sl_back] at this
end Go.Proofs.YtplcicbpkbamnaaGreatDoor

