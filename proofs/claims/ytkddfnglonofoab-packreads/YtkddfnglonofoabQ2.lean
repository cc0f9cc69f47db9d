/- the reference's Reader: Text, Number, Signed. -/
import Derived.Test.YtkddfnglonofoabQ1
namespace Go.Proofs.Ytkddfnglonofoab
open Go Go.RowKit

theorem qText_c (qb : Nat) (st : RS) (w : World) (h : QAt w qb st) :
    Calls Try.prog 26 #[.pointer (some ⟨qb, 0, none⟩)] w fun e w' => e = .returned (.string ⟨(rText st).1.toArray⟩) ∧ QDid w w' qb (rText st).2 := by
  have HB := Keep.mk (qbytes_c qb st 1 false w h (fun _ => by omega))
  have e1 : qTake st 1 false = rTake st 1 := by rw [rTake_q]; rfl
  rw [e1] at HB
  have hlen := rTake_len st 1
  have hrt := rText_q st
  clear e1 h
  go_enter Try.func26, Try.ntmps26
  go_wp2_with fail
  refine HB.out.mono ?_
  rintro e w1 ⟨rfl, d1⟩
  have HD := Keep.mk d1
  clear d1 HB
  rcases hlen with hlen | hlen
  · have hnil : (rTake st 1).1 = [] := List.eq_nil_of_length_eq_zero hlen
    rw [if_pos hnil] at hrt
    have HRT := Keep.mk hrt
    have hs : (⟨(rTake st 1).1.toArray⟩ : ByteArray) = ⟨#[]⟩ := by rw [hnil]
    rw [hs]
    clear hrt hnil hlen hs
    go_wp2
    go_ret
    rw [HRT.out]
    exact ⟨rfl, HD.out⟩
  · obtain ⟨b, hb⟩ : ∃ b, (rTake st 1).1 = [b] := by
      have : (rTake st 1).1.length = 1 := by omega
      exact List.length_eq_one_iff.1 this
    rw [if_neg (by rw [hb]; simp)] at hrt
    have hv : val [b] = b.toNat := by simp [val]
    rw [hb, hv] at hrt
    have HB2 := Keep.mk (qbytes_c qb (rTake st 1).2 b.toNat false w1 HD.out.a (fun _ => by omega))
    have e2 : qTake (rTake st 1).2 b.toNat false = rTake (rTake st 1).2 b.toNat := by
      rw [rTake_q (rTake st 1).2]
      have : decide ((b.toNat : Int) < 0) = false := decide_eq_false (by omega)
      rw [this]
    rw [e2, ← hrt] at HB2
    have hs : (⟨(rTake st 1).1.toArray⟩ : ByteArray) = ⟨#[b]⟩ := by rw [hb]
    rw [hs]
    have hix : ∀ W : World, (Instr.index 9 (.string ⟨#[b]⟩) (.int .i64 0)).run Try.prog W = .ok (.int .u8 b.toNat) W := fun W => idx9 ⟨#[b]⟩ 0 b (by show 0 < 1; decide) rfl W
    have hwb : IntKind.i64.wrap (b.toNat : Int) = b.toNat := by have : b.toNat < 256 := b.toNat_lt; rw [wi _ (by omega) (by omega)]
    obtain ⟨S, hS⟩ : ∃ S : ByteArray, ⟨#[b]⟩ = S := ⟨_, rfl⟩
    rw [hS] at hix ⊢
    have hem : S.toList.isEmpty = false := by rw [← hS]; simp
    clear hs hb hv hrt e2 hlen hS
    go_wp2_with fail
    refine HB2.out.mono ?_
    rintro e w2 ⟨rfl, d2⟩
    have HE := Keep.mk (HD.out.trans d2)
    clear d2 HB2 HD
    go_wp2
    go_ret
    exact ⟨rfl, HE.out⟩
/-- odd sizes -/
theorem odd_size (size : Int) : decide (¬ sized size) = (decide (size < 1) || decide (size > 8)) := by
  by_cases h1 : size < 1
  · have : ¬ sized size := fun q => by have := q.1; omega
    simp [h1, this]
  · by_cases h2 : size > 8
    · have : ¬ sized size := fun q => by have := q.2; omega
      simp [h2, this]
    · have : sized size := ⟨by omega, by omega⟩
      simp [h1, h2, this]
set_option maxRecDepth 100000 in
set_option maxHeartbeats 4000000 in
theorem qNumber_c (qb : Nat) (st : RS) (size : Int) (w : World) (h : QAt w qb st) :
    Calls Try.prog 22 #[.pointer (some ⟨qb, 0, none⟩), .int .i64 size] w fun e w' => e = .returned (.int .u64 ((rNum st size).1 : Nat)) ∧ QDid w w' qb (rNum st size).2 := by
  have hB := qbytes_c qb st size (decide (¬ sized size)) w h (fun e => by have := of_decide_eq_false e; simp only [Decidable.not_not] at this; have := this.1; omega)
  rw [← rNumL_q] at hB
  have H8 : (rNumL st size).1.length ≤ 8 := by
    unfold rNumL
    split
    · rename_i hs
      have := rTake_len st size
      have := hs.2
      omega
    · simp
  have HX : Keep ((rNum st size).1 = val (rNumL st size).1 ∧ (rNum st size).2 = (rNumL st size).2) := ⟨rfl, rfl⟩
  obtain ⟨b, hb⟩ : ∃ b, decide (¬ sized size) = b := ⟨_, rfl⟩
  obtain ⟨l, hl⟩ : ∃ l, (rNumL st size).1 = l := ⟨_, rfl⟩
  obtain ⟨st2, hst2⟩ : ∃ st2, (rNumL st size).2 = st2 := ⟨_, rfl⟩
  rw [hb, hl, hst2] at hB
  rw [hl] at H8
  rw [hl, hst2] at HX
  have HB := Keep.mk hB
  have hodd := odd_size size
  rw [hb] at hodd
  clear hB h hl hst2 hb
  have hcase : (size < 1 ∧ b = true) ∨ (¬ size < 1 ∧ size > 8 ∧ b = true) ∨ (¬ size < 1 ∧ ¬ size > 8 ∧ b = false) := by
    by_cases h1 : size < 1
    · exact .inl ⟨h1, by rw [hodd]; simp [h1]⟩
    · by_cases h2 : size > 8
      · exact .inr (.inl ⟨h1, h2, by rw [hodd]; simp [h2]⟩)
      · exact .inr (.inr ⟨h1, h2, by rw [hodd]; simp [h1, h2]⟩)
  clear hodd
  obtain ⟨S, hS⟩ : ∃ S : ByteArray, (⟨l.toArray⟩ : ByteArray) = S := ⟨_, rfl⟩
  have HS : Keep (sl S = l) := ⟨by rw [← hS, sl_mk]⟩
  have hsz : S.size = l.length := by rw [← hS, ← sl_len, sl_mk]
  rw [hS] at HB
  have H8' : S.size ≤ 8 := by omega
  have HZ := Keep.mk hsz
  clear hS hsz H8
  go_enter Try.func22, Try.ntmps22
  rcases hcase with ⟨h1, rfl⟩ | ⟨h1, h2, rfl⟩ | ⟨h1, h2, rfl⟩
  all_goals
    go_wp2_with fail
    refine HB.out.mono ?_
    rintro e w1 ⟨rfl, d1⟩
    have HD := Keep.mk d1
    clear d1 HB
    go_wp2_with fail
    go_loopw [6, 7] (fun s6 s7 w' => ∃ i : Nat, i ≤ S.size ∧ s6 = .int .u64 (val (l.take i) : Nat) ∧ s7 = .int .i64 i ∧ w' = w1) (fun _ s7 _ => S.size - (intOf s7).toNat)
    case atStart => exact ⟨0, by omega, rfl, rfl, rfl⟩
    case round =>
      obtain ⟨i, hi, rfl, rfl, rfl⟩ := hrel
      by_cases hin : i < S.size
      · have hin2 : (i : Int) < S.size := by omega
        obtain ⟨y, hy⟩ : ∃ y, l[i]? = some y := ⟨_, List.getElem?_eq_getElem (by rw [← HZ.out]; exact hin)⟩
        have hix := idx9 S i y hin (by rw [HS.out]; exact hy)
        have hx : val (l.take i) < 72057594037927936 := by
          have h1 := val_lt (l.take i)
          have h2 : (l.take i).length ≤ 7 := by rw [List.length_take]; omega
          have h3 : 256 ^ (l.take i).length ≤ 256 ^ 7 := Nat.pow_le_pow_right (by omega) h2
          have h4 : (256 : Nat) ^ 7 = 72057594037927936 := by decide
          omega
        have hst : val (l.take (i + 1)) = val (l.take i) * 256 + y.toNat := by
          obtain ⟨q1, q2⟩ := List.getElem?_eq_some_iff.1 hy
          rw [List.take_succ_eq_append_getElem q1, q2, val_snoc]
        obtain ⟨x, hxx⟩ : ∃ x, val (l.take i) = x := ⟨_, rfl⟩
        obtain ⟨z, hzz⟩ : ∃ z, val (l.take (i + 1)) = z := ⟨_, rfl⟩
        have HY : Keep (val (l.take (i + 1)) = z) := ⟨hzz⟩
        rw [hxx, hzz] at hst
        rw [hxx] at hx ⊢
        have hy8 : y.toNat < 256 := y.toNat_lt
        have hyw : IntKind.u64.wrap (y.toNat : Int) = y.toNat := by rw [wu]; omega
        have hm1 : IntKind.u64.wrap ((x : Int) * 256) = (x : Int) * 256 := by rw [wu]; omega
        have hm2 : IntKind.u64.wrap ((x : Int) * 256 + y.toNat) = (z : Int) := by rw [wu]; omega
        have hwi : IntKind.i64.wrap ((i : Int) + 1) = ((i + 1 : Nat) : Int) := by rw [wi _ (by omega) (by omega)]; omega
        clear hxx hzz hst hy
        go_wp2
        refine ⟨⟨i + 1, by omega, by rw [HY.out], by simp, by trivial⟩, ?_⟩
        simp only [intOf]; omega
      · have hin2 : ¬ (i : Int) < S.size := by omega
        have he : l.take i = l := List.take_of_length_le (by rw [← HZ.out]; omega)
        rw [he]
        clear he
        go_wp2
        go_ret
        exact ⟨by rw [HX.out.1]; rfl, by rw [HX.out.2]; exact HD.out⟩
end Go.Proofs.Ytkddfnglonofoab
