import Derived.Test.YtldnpebnpbahjaaGreatDoorX18
set_option maxRecDepth 100000
set_option maxHeartbeats 4000000
namespace Go.Proofs.YtldnpebnpbahjaaGreatDoor.Pk.Qr
open Go Go.RowKit Go.Proofs.Tryz
structure QAt (w : World) (qb : Nat) (st : RS) : Prop where
  h : ∃ s : ByteArray, Has w qb [.string s, .int .i64 st.2] 171 ∧ (st.2 = 0 → sl s = st.1)
  ok : st.ok
structure QDid (w w' : World) (qb : Nat) (st : RS) : Prop where
  a : QAt w' qb st
  f : Fr (fun i => i = qb) w w'
theorem QAt.kept {w w' : World} {qb : Nat} {st : RS} (h : QAt w qb st) (hg : w.grownBy w' none) : QAt w' qb st := by
  obtain ⟨⟨s, h1, h2⟩, h3⟩ := h; exact ⟨⟨s, h1.kept hg (by simp), h2⟩, h3⟩
theorem QDid.refl {w : World} {qb : Nat} {st : RS} (h : QAt w qb st) : QDid w w qb st := ⟨h, Fr.refl _ _⟩
theorem QDid.trans {w w1 w2 : World} {qb : Nat} {st st2 : RS} (h : QDid w w1 qb st) (k : QDid w1 w2 qb st2) : QDid w w2 qb st2 := ⟨k.a, h.f.trans k.f⟩
def qTake (st : RS) (n : Int) (odd : Bool) : List UInt8 × RS := if odd = true then ([], st.fail 51) else if (st.1.length : Int) < n then ([], st.fail 50) else (st.1.take n.toNat, (st.1.drop n.toNat, st.2))
theorem qTake_dead {st : RS} (h : st.ok) (he : st.2 ≠ 0) (n : Int) (odd : Bool) : qTake st n odd = ([], st) := by
  obtain ⟨l, e⟩ := st; obtain rfl : l = [] := h he; unfold qTake RS.fail; simp only at he; simp only [he, if_false]; split
  · rfl
  · split
    · rfl
    · simp
theorem rTake_q (st : RS) (n : Int) : rTake st n = qTake st n (decide (n < 0)) := by
  unfold rTake qTake; by_cases h : n < 0
  · simp [h]
  · simp [h]
theorem rNumL_q (st : RS) (size : Int) : rNumL st size = qTake st size (decide (¬ sized size)) := by
  unfold rNumL; by_cases h : sized size
  · rw [if_pos h, rTake_q]; have : ¬ size < 0 := by have := h.1; omega
    simp [h, this]
  · rw [if_neg h]; unfold qTake; simp [h]
theorem sl_ext (s : ByteArray) (a b : Nat) : sl (s.extract a b) = ((sl s).take b).drop a := by
  simp [sl, ByteArray.data_extract, List.extract_eq_take_drop, List.drop_take]
theorem qbytes_c (qb : Nat) (st : RS) (n : Int) (odd : Bool) (w : World) (h : QAt w qb st) (hn : odd = false → 0 ≤ n) :
    Calls prog 174 #[.pointer (some ⟨qb, 0, none⟩), .int .i64 n, .bool odd] w fun e w' => e = .returned (.string ⟨(qTake st n odd).1.toArray⟩) ∧ QDid w w' qb (qTake st n odd).2 := by
  have HH : Kp (QAt w qb st) := ⟨h⟩; obtain ⟨⟨s, h1, h2⟩, h3⟩ := h; have c0 : w.cell? ⟨qb, 0, none⟩ = some (.string s) := h1.cellv 0 _ rfl; have c1 : w.cell? ⟨qb, 1, none⟩ = some (.int .i64 st.2) := h1.cellv 1 _ rfl; have f0 := h1.frozen 0; have f1 := h1.frozen 1; have H1 := Kp.mk h1; have H2 := Kp.mk h2; clear h1 h2; go_enter func174, ntmps174; by_cases he : st.2 = 0
  · cases odd with
    | true =>
      (have hq : qTake st n true = ([], ([], 51)) := by unfold qTake RS.fail; simp [he]); rw [hq]; rw [he] at c1; clear hq he hn
      go_wp2
      go_ret; exact ⟨rfl, ⟨⟨s, H1.out.setCell 1 _, fun e => (by cases e)⟩, fun _ => rfl⟩, Fr.ofSome (S := fun i => i = qb) (gr_set _ _ _ _) rfl⟩
    | false =>
      have hn0 : 0 ≤ n := hn rfl; (have hl : st.1.length = s.size := by rw [← H2.out he, sl_len]); by_cases hgt : (s.size : Int) < n
      · (have hq : qTake st n false = ([], ([], 50)) := by unfold qTake RS.fail; rw [hl]; simp [he, hgt]); rw [hq]; rw [he] at c1; clear hq he hn hl
        go_wp2
        go_ret; exact ⟨rfl, ⟨⟨s, H1.out.setCell 1 _, fun e => (by cases e)⟩, fun _ => rfl⟩, Fr.ofSome (S := fun i => i = qb) (gr_set _ _ _ _) rfl⟩
      · (have hq : qTake st n false = (st.1.take n.toNat, (st.1.drop n.toNat, 0)) := by unfold qTake; rw [hl]; simp [he, hgt]); rw [hq]
        have HT : Kp ((⟨(st.1.take n.toNat).toArray⟩ : ByteArray) = s.extract 0 n.toNat) := ⟨by
          apply sl_inj
          rw [sl_mk, sl_ext, ← H2.out he]; simp⟩
        have HD : Kp (sl (s.extract n.toNat s.size) = st.1.drop n.toNat) := ⟨by
          rw [sl_ext, ← H2.out he, List.take_of_length_le (by rw [sl_len]; exact Nat.le_refl _)]⟩
        have H1' : Kp (Has w qb [.string s, .int .i64 0] 171) := ⟨by have := H1.out; rwa [he] at this⟩; (have hgt' : n ≤ (s.size : Int) := by omega); rw [he] at c1; clear hq he hn hl H1 H2 h3 HH
        go_wp2
        go_ret; refine ⟨by rw [HT.out]; rfl, ⟨⟨_, H1'.out.setCell 0 _, fun _ => HD.out⟩, fun e => absurd rfl e⟩, Fr.ofSome (S := fun i => i = qb) (gr_set _ _ _ _) rfl⟩
  · have hq := qTake_dead h3 he n odd; rw [hq]; clear hq hn; generalize st.2 = e0 at *; have hb : (e0 != 0) = true := by simp [he]
    go_wp2
    go_ret; exact ⟨rfl, QDid.refl HH.out⟩
theorem qDone_c (qb : Nat) (st : RS) (w : World) (h : QAt w qb st) :
    CRs 125 #[.pointer (some ⟨qb, 0, none⟩)] w (.int .i64 (rDone st)) := by
  obtain ⟨⟨s, h1, h2⟩, h3⟩ := h; have c0 : w.cell? ⟨qb, 0, none⟩ = some (.string s) := h1.cellv 0 _ rfl; have c1 : w.cell? ⟨qb, 1, none⟩ = some (.int .i64 st.2) := h1.cellv 1 _ rfl; clear h1; go_enter func125, ntmps125; by_cases he : st.2 = 0
  · (have hl : s.size = st.1.length := by rw [← h2 he, sl_len]); by_cases hz : 0 < s.size
    · (have hd : rDone st = 51 := by unfold rDone; rw [if_pos (by omega)]); (have hz2 : (0 : Int) < s.size := by omega); rw [he] at c1; rw [hd]; clear h2 h3 he hd hl
      go_wp2
      go_ret; exact ⟨rfl, rfl⟩
    · (have hd : rDone st = 0 := by unfold rDone; rw [if_neg (by omega)]; exact he); (have hz2 : ¬ (0 : Int) < s.size := by omega); rw [he] at c1; rw [hd]; clear h2 h3 he hd hl
      go_wp2
      go_ret; exact ⟨rfl, rfl⟩
  · (have hd : rDone st = st.2 := by unfold rDone; rw [h3 he]; simp); rw [hd]; clear hd h2 h3; generalize st.2 = e0 at *; have hb : (e0 == 0) = false := by simp [he]
    go_wp2
    go_ret; exact ⟨rfl, rfl⟩
theorem sl_at (s : ByteArray) (i : Nat) (h : i < s.size) : (sl s)[i]? = some s[i] := by
  unfold sl; rw [Array.getElem?_toList]; exact Array.getElem?_eq_getElem h
theorem idx9 (s : ByteArray) (i : Nat) (y : UInt8) (h : i < s.size) (hy : (sl s)[i]? = some y) (W : World) : (Instr.index 9 (.string s) (.int .i64 (i : Int))).run prog W = .ok (.int .u8 y.toNat) W := by
  rw [run_index_string W 9 s .i64 i (by kernel_rfl), dif_pos ⟨by omega, by omega⟩]; rw [sl_at s i h] at hy; simp only [Int.toNat_natCast, Option.some.inj hy]
theorem rText_q (st : RS) : rText st = if (rTake st 1).1 = [] then ([], (rTake st 1).2) else rTake (rTake st 1).2 (val (rTake st 1).1 : Nat) := by
  have hs : sized 1 := ⟨by omega, by omega⟩; have e : rNumL st 1 = rTake st 1 := by unfold rNumL; rw [if_pos hs]
  unfold rText rNum; rw [e]; split
  · rename_i h; rw [h]; show rTake (rTake st 1).2 0 = _; unfold rTake; simp only [Int.lt_irrefl, if_false]; rw [if_neg (by omega)]; simp
  · rfl
theorem qText_c (qb : Nat) (st : RS) (w : World) (h : QAt w qb st) :
    Calls prog 123 #[.pointer (some ⟨qb, 0, none⟩)] w fun e w' => e = .returned (.string ⟨(rText st).1.toArray⟩) ∧ QDid w w' qb (rText st).2 := by
  have HB := Kp.mk (qbytes_c qb st 1 false w h (fun _ => by omega)); have e1 : qTake st 1 false = rTake st 1 := by rw [rTake_q]; rfl
  rw [e1] at HB; have hlen := rTake_len st 1; have hrt := rText_q st; clear e1 h; go_enter func123, ntmps123; go_wp2_with fail; refine HB.out.mono ?_; rintro e w1 ⟨rfl, d1⟩; have HD := Kp.mk d1; clear d1 HB; rcases hlen with hlen | hlen
  · have hnil : (rTake st 1).1 = [] := List.eq_nil_of_length_eq_zero hlen; rw [if_pos hnil] at hrt; have HRT := Kp.mk hrt; (have hs : (⟨(rTake st 1).1.toArray⟩ : ByteArray) = ⟨#[]⟩ := by rw [hnil]); rw [hs]; clear hrt hnil hlen hs
    go_wp2
    go_ret; rw [HRT.out]; exact ⟨rfl, HD.out⟩
  · obtain ⟨b, hb⟩ : ∃ b, (rTake st 1).1 = [b] := by
      (have : (rTake st 1).1.length = 1 := by omega); exact List.length_eq_one_iff.1 this
    rw [if_neg (by rw [hb]; simp)] at hrt; (have hv : val [b] = b.toNat := by simp [val]); rw [hb, hv] at hrt; have HB2 := Kp.mk (qbytes_c qb (rTake st 1).2 b.toNat false w1 HD.out.a (fun _ => by omega))
    have e2 : qTake (rTake st 1).2 b.toNat false = rTake (rTake st 1).2 b.toNat := by
      rw [rTake_q (rTake st 1).2]; have : decide ((b.toNat : Int) < 0) = false := decide_eq_false (by omega); rw [this]
    rw [e2, ← hrt] at HB2; (have hs : (⟨(rTake st 1).1.toArray⟩ : ByteArray) = ⟨#[b]⟩ := by rw [hb]); rw [hs]; (have hix : ∀ W : World, (Instr.index 9 (.string ⟨#[b]⟩) (.int .i64 0)).run prog W = .ok (.int .u8 b.toNat) W := fun W => idx9 ⟨#[b]⟩ 0 b (by show 0 < 1; decide) rfl W); have hwb : IntKind.i64.wrap (b.toNat : Int) = b.toNat := by have : b.toNat < 256 := b.toNat_lt; rw [wi _ (by omega) (by omega)]
    obtain ⟨S, hS⟩ : ∃ S : ByteArray, ⟨#[b]⟩ = S := ⟨_, rfl⟩; rw [hS] at hix ⊢; (have hem : S.toList.isEmpty = false := by rw [← hS]; simp); clear hs hb hv hrt e2 hlen hS; go_wp2_with fail; refine HB2.out.mono ?_; rintro e w2 ⟨rfl, d2⟩; have HE := Kp.mk (HD.out.trans d2); clear d2 HB2 HD
    go_wp2
    go_ret; exact ⟨rfl, HE.out⟩
theorem odd_size (size : Int) : decide (¬ sized size) = (decide (size < 1) || decide (size > 8)) := by
  by_cases h1 : size < 1
  · have : ¬ sized size := fun q => by have := q.1; omega
    simp [h1, this]
  · by_cases h2 : size > 8
    · have : ¬ sized size := fun q => by have := q.2; omega
      simp [h2, this]
    · have : sized size := ⟨by omega, by omega⟩; simp [h1, h2, this]
theorem qNumber_c (qb : Nat) (st : RS) (size : Int) (w : World) (h : QAt w qb st) :
    Calls prog 122 #[.pointer (some ⟨qb, 0, none⟩), .int .i64 size] w fun e w' => e = .returned (.int .u64 ((rNum st size).1 : Nat)) ∧ QDid w w' qb (rNum st size).2 := by
  have hB := qbytes_c qb st size (decide (¬ sized size)) w h (fun e => by have := of_decide_eq_false e; simp only [Decidable.not_not] at this; have := this.1; omega); rw [← rNumL_q] at hB
  have H8 : (rNumL st size).1.length ≤ 8 := by
    unfold rNumL; split
    · rename_i hs; have := rTake_len st size; have := hs.2; omega
    · simp
  have HX : Kp ((rNum st size).1 = val (rNumL st size).1 ∧ (rNum st size).2 = (rNumL st size).2) := ⟨rfl, rfl⟩; obtain ⟨b, hb⟩ : ∃ b, decide (¬ sized size) = b := ⟨_, rfl⟩; obtain ⟨l, hl⟩ : ∃ l, (rNumL st size).1 = l := ⟨_, rfl⟩; obtain ⟨st2, hst2⟩ : ∃ st2, (rNumL st size).2 = st2 := ⟨_, rfl⟩; rw [hb, hl, hst2] at hB; rw [hl] at H8; rw [hl, hst2] at HX; have HB := Kp.mk hB; have hodd := odd_size size; rw [hb] at hodd; clear hB h hl hst2 hb
  have hcase : (size < 1 ∧ b = true) ∨ (¬ size < 1 ∧ size > 8 ∧ b = true) ∨ (¬ size < 1 ∧ ¬ size > 8 ∧ b = false) := by
    by_cases h1 : size < 1
    · exact .inl ⟨h1, by rw [hodd]; simp [h1]⟩
    · by_cases h2 : size > 8
      · exact .inr (.inl ⟨h1, h2, by rw [hodd]; simp [h2]⟩)
      · exact .inr (.inr ⟨h1, h2, by rw [hodd]; simp [h1, h2]⟩)
  clear hodd; obtain ⟨S, hS⟩ : ∃ S : ByteArray, (⟨l.toArray⟩ : ByteArray) = S := ⟨_, rfl⟩; have HS : Kp (sl S = l) := ⟨by rw [← hS, sl_mk]⟩; have hsz : S.size = l.length := by rw [← hS, ← sl_len, sl_mk]
  rw [hS] at HB; have H8' : S.size ≤ 8 := by omega
  have HZ := Kp.mk hsz; clear hS hsz H8; go_enter func122, ntmps122; rcases hcase with ⟨h1, rfl⟩ | ⟨h1, h2, rfl⟩ | ⟨h1, h2, rfl⟩
  all_goals
    go_wp2_with fail; refine HB.out.mono ?_; rintro e w1 ⟨rfl, d1⟩; have HD := Kp.mk d1; clear d1 HB; go_wp2_with fail
    go_loopw [6, 7] (fun s6 s7 w' => ∃ i : Nat, i ≤ S.size ∧ s6 = .int .u64 (val (l.take i) : Nat) ∧ s7 = .int .i64 i ∧ w' = w1) (fun _ s7 _ => S.size - (intOf s7).toNat)
    case atStart => exact ⟨0, by omega, rfl, rfl, rfl⟩
    case round =>
      obtain ⟨i, hi, rfl, rfl, rfl⟩ := hrel; by_cases hin : i < S.size
      · (have hin2 : (i : Int) < S.size := by omega); obtain ⟨y, hy⟩ : ∃ y, l[i]? = some y := ⟨_, List.getElem?_eq_getElem (by rw [← HZ.out]; exact hin)⟩; have hix := idx9 S i y hin (by rw [HS.out]; exact hy)
        have hx : val (l.take i) < 72057594037927936 := by
          have h1 := val_lt (l.take i); (have h2 : (l.take i).length ≤ 7 := by rw [List.length_take]; omega); have h3 : 256 ^ (l.take i).length ≤ 256 ^ 7 := Nat.pow_le_pow_right (by omega) h2; (have h4 : (256 : Nat) ^ 7 = 72057594037927936 := by decide); omega
        have hst : val (l.take (i + 1)) = val (l.take i) * 256 + y.toNat := by
          obtain ⟨q1, q2⟩ := List.getElem?_eq_some_iff.1 hy; rw [List.take_succ_eq_append_getElem q1, q2, val_snoc]
        obtain ⟨x, hxx⟩ : ∃ x, val (l.take i) = x := ⟨_, rfl⟩; obtain ⟨z, hzz⟩ : ∃ z, val (l.take (i + 1)) = z := ⟨_, rfl⟩; have HY : Kp (val (l.take (i + 1)) = z) := ⟨hzz⟩; rw [hxx, hzz] at hst; rw [hxx] at hx ⊢; have hy8 : y.toNat < 256 := y.toNat_lt; (have hyw : IntKind.u64.wrap (y.toNat : Int) = y.toNat := by rw [wu]; omega); (have hm1 : IntKind.u64.wrap ((x : Int) * 256) = (x : Int) * 256 := by rw [wu]; omega); (have hm2 : IntKind.u64.wrap ((x : Int) * 256 + y.toNat) = (z : Int) := by rw [wu]; omega); (have hwi : IntKind.i64.wrap ((i : Int) + 1) = ((i + 1 : Nat) : Int) := by rw [wi _ (by omega) (by omega)]; omega); clear hxx hzz hst hy
        go_wp2
        refine ⟨⟨i + 1, by omega, by rw [HY.out], by simp, by trivial⟩, ?_⟩; simp only [intOf]; omega
      · (have hin2 : ¬ (i : Int) < S.size := by omega); have he : l.take i = l := List.take_of_length_le (by rw [← HZ.out]; omega); rw [he]; clear he
        go_wp2
        go_ret; exact ⟨by rw [HX.out.1]; rfl, by rw [HX.out.2]; exact HD.out⟩
theorem str_ne {S : ByteArray} (h : 0 < S.size) : S.toList.isEmpty = false := by
  rw [ByteArray.toList_eq]; cases hl : S.data.toList with
  | nil =>
    have : S.data.toList.length = S.size := Array.length_toList; rw [hl] at this; simp at this; omega
  | cons _ _ => rfl
theorem sval_one (b : UInt8) : sval [b] = if 127 < (b.toNat : Int) then (b.toNat : Int) - 256 else b.toNat := by
  have : b.toNat < 256 := b.toNat_lt; unfold sval; have hv : val [b] = b.toNat := by simp [val]
  rw [hv]; show (if 2 * b.toNat < 256 then (b.toNat : Int) else (b.toNat : Int) - ((256 : Nat) : Int)) = _; split <;> split <;> omega
theorem sval_snoc (l : List UInt8) (b : UInt8) (h : 0 < l.length) : sval (l ++ [b]) = sval l * 256 + b.toNat := by
  have hb : b.toNat < 256 := b.toNat_lt; unfold sval; rw [val_snoc, List.length_append, List.length_singleton, Nat.pow_succ]; obtain ⟨k, hk⟩ : ∃ k, l.length = k + 1 := ⟨l.length - 1, by omega⟩; rw [hk, Nat.pow_succ]; generalize 256 ^ k = m; generalize val l = v; split <;> split <;> omega
theorem sval_bound (l : List UInt8) (h : l.length ≤ 8) : -9223372036854775808 ≤ sval l ∧ sval l < 9223372036854775808 := by
  have hv := val_lt l; have h1 : 256 ^ l.length ≤ 256 ^ 8 := Nat.pow_le_pow_right (by omega) h; have h2 : (256 : Nat) ^ 8 = 18446744073709551616 := by decide
  unfold sval; rw [h2] at h1; generalize 256 ^ l.length = m at *; split <;> omega
theorem sval_bound7 (l : List UInt8) (h : l.length ≤ 7) : -36028797018963968 ≤ sval l ∧ sval l < 36028797018963968 := by
  have hv := val_lt l; have h1 : 256 ^ l.length ≤ 256 ^ 7 := Nat.pow_le_pow_right (by omega) h; have h2 : (256 : Nat) ^ 7 = 72057594037927936 := by decide
  unfold sval; rw [h2] at h1; generalize 256 ^ l.length = m at *; split <;> omega
theorem qSigned_c (qb : Nat) (st : RS) (size : Int) (w : World) (h : QAt w qb st) :
    Calls prog 124 #[.pointer (some ⟨qb, 0, none⟩), .int .i64 size] w fun e w' => e = .returned (.int .i64 (rSig st size).1) ∧ QDid w w' qb (rSig st size).2 := by
  have hB := qbytes_c qb st size (decide (¬ sized size)) w h (fun e => by have := of_decide_eq_false e; simp only [Decidable.not_not] at this; have := this.1; omega); rw [← rNumL_q] at hB
  have H8 : (rNumL st size).1.length ≤ 8 := by
    unfold rNumL; split
    · rename_i hs; have := rTake_len st size; have := hs.2; omega
    · simp
  have HX : Kp ((rSig st size).1 = sval (rNumL st size).1 ∧ (rSig st size).2 = (rNumL st size).2) := ⟨rfl, rfl⟩; obtain ⟨b, hb⟩ : ∃ b, decide (¬ sized size) = b := ⟨_, rfl⟩; obtain ⟨l, hl⟩ : ∃ l, (rNumL st size).1 = l := ⟨_, rfl⟩; obtain ⟨st2, hst2⟩ : ∃ st2, (rNumL st size).2 = st2 := ⟨_, rfl⟩; rw [hb, hl, hst2] at hB; rw [hl] at H8; rw [hl, hst2] at HX; have HB := Kp.mk hB; have hodd := odd_size size; rw [hb] at hodd; clear hB h hl hst2 hb
  have hcase : (size < 1 ∧ b = true) ∨ (¬ size < 1 ∧ size > 8 ∧ b = true) ∨ (¬ size < 1 ∧ ¬ size > 8 ∧ b = false) := by
    by_cases h1 : size < 1
    · exact .inl ⟨h1, by rw [hodd]; simp [h1]⟩
    · by_cases h2 : size > 8
      · exact .inr (.inl ⟨h1, h2, by rw [hodd]; simp [h2]⟩)
      · exact .inr (.inr ⟨h1, h2, by rw [hodd]; simp [h1, h2]⟩)
  clear hodd; obtain ⟨S, hS⟩ : ∃ S : ByteArray, (⟨l.toArray⟩ : ByteArray) = S := ⟨_, rfl⟩; have HS : Kp (sl S = l) := ⟨by rw [← hS, sl_mk]⟩; have hsz : S.size = l.length := by rw [← hS, ← sl_len, sl_mk]
  rw [hS] at HB; have H8' : S.size ≤ 8 := by omega
  have HZ := Kp.mk hsz
  have HE : Kp (S.size = 0 → S = ⟨#[]⟩) := ⟨fun e => by
    have : l = [] := List.eq_nil_of_length_eq_zero (by omega)
    rw [← hS, this]⟩
  clear hS hsz H8; go_enter func124, ntmps124; rcases hcase with ⟨h1, rfl⟩ | ⟨h1, h2, rfl⟩ | ⟨h1, h2, rfl⟩
  all_goals
    go_wp2_with fail; refine HB.out.mono ?_; rintro e w1 ⟨rfl, d1⟩; have HD := Kp.mk d1; clear d1 HB; by_cases hz : S.size = 0
    · have hl0 : l = [] := List.eq_nil_of_length_eq_zero (by rw [← HZ.out]; exact hz); (have hr0 : (rSig st size).1 = 0 := by rw [HX.out.1, hl0]; rfl); have HR := Kp.mk hr0; obtain rfl := HE.out hz; clear hr0 hl0 hz
      go_wp2
      go_ret; exact ⟨by rw [HR.out]; rfl, by rw [HX.out.2]; exact HD.out⟩
    · have hem := str_ne (S := S) (by omega); obtain ⟨y, hy⟩ : ∃ y, l[0]? = some y := ⟨_, List.getElem?_eq_getElem (by rw [← HZ.out]; omega)⟩; (have hix0 : ∀ W : World, (Instr.index 9 (.string S) (.int .i64 0)).run prog W = .ok (.int .u8 y.toNat) W := fun W => idx9 S 0 y (by omega) (by rw [HS.out]; exact hy) W); have hy8 : y.toNat < 256 := y.toNat_lt; have hyw : IntKind.i64.wrap (y.toNat : Int) = y.toNat := by rw [wi _ (by omega) (by omega)]
      have h1l : l.take 1 = [y] := by
        obtain ⟨q1, q2⟩ := List.getElem?_eq_some_iff.1 hy; rw [show (1 : Nat) = 0 + 1 from rfl, List.take_succ_eq_append_getElem q1, q2]; rfl
      have hs1 := sval_one y; rw [← h1l] at hs1; clear hy h1l; by_cases hb : 127 < (y.toNat : Int)
      all_goals
        first | rw [if_pos hb] at hs1 | rw [if_neg hb] at hs1
        have HS1 := Kp.mk hs1; (have hm0 : IntKind.i64.wrap ((y.toNat : Int) - 256) = (y.toNat : Int) - 256 := by rw [wi _ (by omega) (by omega)]); clear hs1; go_wp2_with fail
        go_loopw [6, 7] (fun s6 s7 w' => ∃ i : Nat, 1 ≤ i ∧ i ≤ S.size ∧ s6 = .int .i64 (sval (l.take i)) ∧ s7 = .int .i64 i ∧ w' = w1) (fun _ s7 _ => S.size - (intOf s7).toNat)
        case atStart => exact ⟨1, by omega, by omega, by rw [HS1.out], rfl, rfl⟩
        case round =>
          obtain ⟨i, hi1, hi, rfl, rfl, rfl⟩ := hrel; clear hix0 hyw hm0 hb HS1; by_cases hin : i < S.size
          · (have hin2 : (i : Int) < S.size := by omega); obtain ⟨y2, hy2⟩ : ∃ y, l[i]? = some y := ⟨_, List.getElem?_eq_getElem (by rw [← HZ.out]; exact hin)⟩; have hix := idx9 S i y2 hin (by rw [HS.out]; exact hy2); have hlen : (l.take i).length = i := by rw [List.length_take]; have := HZ.out; omega
            have hx := sval_bound7 (l.take i) (by omega); have hx2 := sval_bound (l.take (i + 1)) (by rw [List.length_take]; omega)
            have hst : sval (l.take (i + 1)) = sval (l.take i) * 256 + y2.toNat := by
              obtain ⟨q1, q2⟩ := List.getElem?_eq_some_iff.1 hy2; rw [List.take_succ_eq_append_getElem q1, q2, sval_snoc _ _ (by omega)]
            obtain ⟨x, hxx⟩ : ∃ x, sval (l.take i) = x := ⟨_, rfl⟩; obtain ⟨z, hzz⟩ : ∃ z, sval (l.take (i + 1)) = z := ⟨_, rfl⟩; have HY : Kp (sval (l.take (i + 1)) = z) := ⟨hzz⟩; rw [hxx, hzz] at hst; rw [hzz] at hx2; rw [hxx] at hx ⊢; have hy8 : y2.toNat < 256 := y2.toNat_lt; (have hyw : IntKind.i64.wrap (y2.toNat : Int) = y2.toNat := by rw [wi _ (by omega) (by omega)]); (have hm1 : IntKind.i64.wrap (x * 256) = x * 256 := by rw [wi _ (by omega) (by omega)]); (have hm2 : IntKind.i64.wrap (x * 256 + y2.toNat) = z := by rw [wi _ (by omega) (by omega)]; omega); (have hwi : IntKind.i64.wrap ((i : Int) + 1) = ((i + 1 : Nat) : Int) := by rw [wi _ (by omega) (by omega)]; omega); clear hxx hzz hst hy2 hlen hx hx2
            go_wp2
            refine ⟨⟨i + 1, by omega, by omega, by rw [HY.out], by simp, by trivial⟩, ?_⟩; simp only [intOf]; omega
          · (have hin2 : ¬ (i : Int) < S.size := by omega); have he : l.take i = l := List.take_of_length_le (by rw [← HZ.out]; omega); rw [he]; clear he
            go_wp2
            go_ret; exact ⟨by rw [HX.out.1]; rfl, by rw [HX.out.2]; exact HD.out⟩
end Go.Proofs.YtldnpebnpbahjaaGreatDoor.Pk.Qr
