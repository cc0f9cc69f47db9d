/- the reference's Reader: Signed. -/
import Derived.Test.YtkddfnglonofoabQ2
namespace Go.Proofs.Ytkddfnglonofoab
open Go Go.RowKit

theorem str_ne {S : ByteArray} (h : 0 < S.size) : S.toList.isEmpty = false := by
  rw [ByteArray.toList_eq]
  cases hl : S.data.toList with
  | nil =>
    have : S.data.toList.length = S.size := Array.length_toList
    rw [hl] at this
    simp at this
    omega
  | cons _ _ => rfl
theorem sval_one (b : UInt8) : sval [b] = if 127 < (b.toNat : Int) then (b.toNat : Int) - 256 else b.toNat := by
  have : b.toNat < 256 := b.toNat_lt
  unfold sval
  have hv : val [b] = b.toNat := by simp [val]
  rw [hv]
  show (if 2 * b.toNat < 256 then (b.toNat : Int) else (b.toNat : Int) - ((256 : Nat) : Int)) = _
  split <;> split <;> omega
theorem sval_snoc (l : List UInt8) (b : UInt8) (h : 0 < l.length) : sval (l ++ [b]) = sval l * 256 + b.toNat := by
  have hb : b.toNat < 256 := b.toNat_lt
  unfold sval
  rw [val_snoc, List.length_append, List.length_singleton, Nat.pow_succ]
  obtain ⟨k, hk⟩ : ∃ k, l.length = k + 1 := ⟨l.length - 1, by omega⟩
  rw [hk, Nat.pow_succ]
  generalize 256 ^ k = m
  generalize val l = v
  split <;> split <;> omega
theorem sval_bound (l : List UInt8) (h : l.length ≤ 8) : -9223372036854775808 ≤ sval l ∧ sval l < 9223372036854775808 := by
  have hv := val_lt l
  have h1 : 256 ^ l.length ≤ 256 ^ 8 := Nat.pow_le_pow_right (by omega) h
  have h2 : (256 : Nat) ^ 8 = 18446744073709551616 := by decide
  unfold sval
  rw [h2] at h1
  generalize 256 ^ l.length = m at *
  split <;> omega
theorem sval_bound7 (l : List UInt8) (h : l.length ≤ 7) : -36028797018963968 ≤ sval l ∧ sval l < 36028797018963968 := by
  have hv := val_lt l
  have h1 : 256 ^ l.length ≤ 256 ^ 7 := Nat.pow_le_pow_right (by omega) h
  have h2 : (256 : Nat) ^ 7 = 72057594037927936 := by decide
  unfold sval
  rw [h2] at h1
  generalize 256 ^ l.length = m at *
  split <;> omega
set_option maxRecDepth 100000 in
set_option maxHeartbeats 4000000 in
theorem qSigned_c (qb : Nat) (st : RS) (size : Int) (w : World) (h : QAt w qb st) :
    Calls Try.prog 23 #[.pointer (some ⟨qb, 0, none⟩), .int .i64 size] w fun e w' => e = .returned (.int .i64 (rSig st size).1) ∧ QDid w w' qb (rSig st size).2 := by
  have hB := qbytes_c qb st size (decide (¬ sized size)) w h (fun e => by have := of_decide_eq_false e; simp only [Decidable.not_not] at this; have := this.1; omega)
  rw [← rNumL_q] at hB
  have H8 : (rNumL st size).1.length ≤ 8 := by
    unfold rNumL
    split
    · rename_i hs
      have := rTake_len st size
      have := hs.2
      omega
    · simp
  have HX : Keep ((rSig st size).1 = sval (rNumL st size).1 ∧ (rSig st size).2 = (rNumL st size).2) := ⟨rfl, rfl⟩
  obtain ⟨b, hb⟩ : ∃ b, decide (¬ sized size) = b := ⟨_, rfl⟩
  obtain ⟨l, hl⟩ : ∃ l, (rNumL st size).1 = l := ⟨_, rfl⟩
  obtain ⟨st2, hst2⟩ : ∃ st2, (rNumL st size).2 = st2 := ⟨_, rfl⟩
  rw [hb, hl, hst2] at hB
  rw [hl] at H8
  rw [hl, hst2] at HX
  have HB := Keep.mk hB
  have hodd := odd_size size
  rw [hb] at hodd
  clear hB h hl hst2 hb
  have hcase : (size < 1 ∧ b = true) ∨ (¬ size < 1 ∧ size > 8 ∧ b = true) ∨ (¬ size < 1 ∧ ¬ size > 8 ∧ b = false) := by
    by_cases h1 : size < 1
    · exact .inl ⟨h1, by rw [hodd]; simp [h1]⟩
    · by_cases h2 : size > 8
      · exact .inr (.inl ⟨h1, h2, by rw [hodd]; simp [h2]⟩)
      · exact .inr (.inr ⟨h1, h2, by rw [hodd]; simp [h1, h2]⟩)
  clear hodd
  obtain ⟨S, hS⟩ : ∃ S : ByteArray, (⟨l.toArray⟩ : ByteArray) = S := ⟨_, rfl⟩
  have HS : Keep (sl S = l) := ⟨by rw [← hS, sl_mk]⟩
  have hsz : S.size = l.length := by rw [← hS, ← sl_len, sl_mk]
  rw [hS] at HB
  have H8' : S.size ≤ 8 := by omega
  have HZ := Keep.mk hsz
  have HE : Keep (S.size = 0 → S = ⟨#[]⟩) := ⟨fun e => by
    have : l = [] := List.eq_nil_of_length_eq_zero (by omega)
    rw [← hS, this]⟩
  clear hS hsz H8
  go_enter Try.func23, Try.ntmps23
  rcases hcase with ⟨h1, rfl⟩ | ⟨h1, h2, rfl⟩ | ⟨h1, h2, rfl⟩
  all_goals
    go_wp2_with fail
    refine HB.out.mono ?_
    rintro e w1 ⟨rfl, d1⟩
    have HD := Keep.mk d1
    clear d1 HB
    by_cases hz : S.size = 0
    · have hl0 : l = [] := List.eq_nil_of_length_eq_zero (by rw [← HZ.out]; exact hz)
      have hr0 : (rSig st size).1 = 0 := by rw [HX.out.1, hl0]; rfl
      have HR := Keep.mk hr0
      obtain rfl := HE.out hz
      clear hr0 hl0 hz
      go_wp2
      go_ret
      exact ⟨by rw [HR.out]; rfl, by rw [HX.out.2]; exact HD.out⟩
    · have hem := str_ne (S := S) (by omega)
      obtain ⟨y, hy⟩ : ∃ y, l[0]? = some y := ⟨_, List.getElem?_eq_getElem (by rw [← HZ.out]; omega)⟩
      have hix0 : ∀ W : World, (Instr.index 9 (.string S) (.int .i64 0)).run Try.prog W = .ok (.int .u8 y.toNat) W := fun W => idx9 S 0 y (by omega) (by rw [HS.out]; exact hy) W
      have hy8 : y.toNat < 256 := y.toNat_lt
      have hyw : IntKind.i64.wrap (y.toNat : Int) = y.toNat := by rw [wi _ (by omega) (by omega)]
      have h1l : l.take 1 = [y] := by
        obtain ⟨q1, q2⟩ := List.getElem?_eq_some_iff.1 hy
        rw [show (1 : Nat) = 0 + 1 from rfl, List.take_succ_eq_append_getElem q1, q2]; rfl
      have hs1 := sval_one y
      rw [← h1l] at hs1
      clear hy h1l
      by_cases hb : 127 < (y.toNat : Int)
      all_goals
        first | rw [if_pos hb] at hs1 | rw [if_neg hb] at hs1
        have HS1 := Keep.mk hs1
        have hm0 : IntKind.i64.wrap ((y.toNat : Int) - 256) = (y.toNat : Int) - 256 := by rw [wi _ (by omega) (by omega)]
        clear hs1
        go_wp2_with fail
        go_loopw [6, 7] (fun s6 s7 w' => ∃ i : Nat, 1 ≤ i ∧ i ≤ S.size ∧ s6 = .int .i64 (sval (l.take i)) ∧ s7 = .int .i64 i ∧ w' = w1) (fun _ s7 _ => S.size - (intOf s7).toNat)
        case atStart => exact ⟨1, by omega, by omega, by rw [HS1.out], rfl, rfl⟩
        case round =>
          obtain ⟨i, hi1, hi, rfl, rfl, rfl⟩ := hrel
          clear hix0 hyw hm0 hb HS1
          by_cases hin : i < S.size
          · have hin2 : (i : Int) < S.size := by omega
            obtain ⟨y2, hy2⟩ : ∃ y, l[i]? = some y := ⟨_, List.getElem?_eq_getElem (by rw [← HZ.out]; exact hin)⟩
            have hix := idx9 S i y2 hin (by rw [HS.out]; exact hy2)
            have hlen : (l.take i).length = i := by rw [List.length_take]; have := HZ.out; omega
            have hx := sval_bound7 (l.take i) (by omega)
            have hx2 := sval_bound (l.take (i + 1)) (by rw [List.length_take]; omega)
            have hst : sval (l.take (i + 1)) = sval (l.take i) * 256 + y2.toNat := by
              obtain ⟨q1, q2⟩ := List.getElem?_eq_some_iff.1 hy2
              rw [List.take_succ_eq_append_getElem q1, q2, sval_snoc _ _ (by omega)]
            obtain ⟨x, hxx⟩ : ∃ x, sval (l.take i) = x := ⟨_, rfl⟩
            obtain ⟨z, hzz⟩ : ∃ z, sval (l.take (i + 1)) = z := ⟨_, rfl⟩
            have HY : Keep (sval (l.take (i + 1)) = z) := ⟨hzz⟩
            rw [hxx, hzz] at hst
            rw [hzz] at hx2
            rw [hxx] at hx ⊢
            have hy8 : y2.toNat < 256 := y2.toNat_lt
            have hyw : IntKind.i64.wrap (y2.toNat : Int) = y2.toNat := by rw [wi _ (by omega) (by omega)]
            have hm1 : IntKind.i64.wrap (x * 256) = x * 256 := by rw [wi _ (by omega) (by omega)]
            have hm2 : IntKind.i64.wrap (x * 256 + y2.toNat) = z := by rw [wi _ (by omega) (by omega)]; omega
            have hwi : IntKind.i64.wrap ((i : Int) + 1) = ((i + 1 : Nat) : Int) := by rw [wi _ (by omega) (by omega)]; omega
            clear hxx hzz hst hy2 hlen hx hx2
            go_wp2
            refine ⟨⟨i + 1, by omega, by omega, by rw [HY.out], by simp, by trivial⟩, ?_⟩
            simp only [intOf]; omega
          · have hin2 : ¬ (i : Int) < S.size := by omega
            have he : l.take i = l := List.take_of_length_le (by rw [← HZ.out]; omega)
            rw [he]
            clear he
            go_wp2
            go_ret
            exact ⟨by rw [HX.out.1]; rfl, by rw [HX.out.2]; exact HD.out⟩
end Go.Proofs.Ytkddfnglonofoab
