/- the reference's Reader: bytes, Left, Done, Rest, Bytes, Text. -/
import Derived.Test.YtkddfnglonofoabD1
namespace Go.Proofs.Ytkddfnglonofoab
open Go Go.RowKit

/-- where the reference's Reader stands: what it holds behind an error is not asked -/
structure QAt (w : World) (qb : Nat) (st : RS) : Prop where
  h : ∃ s : ByteArray, Has w qb [.string s, .int .i64 st.2] 29 ∧ (st.2 = 0 → sl s = st.1)
  ok : st.ok
structure QDid (w w' : World) (qb : Nat) (st : RS) : Prop where
  a : QAt w' qb st
  f : Fr (fun i => i = qb) w w'
theorem QAt.kept {w w' : World} {qb : Nat} {st : RS} (h : QAt w qb st) (hg : w.grownBy w' none) : QAt w' qb st := by
  obtain ⟨⟨s, h1, h2⟩, h3⟩ := h
  exact ⟨⟨s, h1.kept hg (by simp), h2⟩, h3⟩
theorem QDid.refl {w : World} {qb : Nat} {st : RS} (h : QAt w qb st) : QDid w w qb st := ⟨h, Fr.refl _ _⟩
theorem QDid.trans {w w1 w2 : World} {qb : Nat} {st st2 : RS} (h : QDid w w1 qb st) (k : QDid w1 w2 qb st2) : QDid w w2 qb st2 := ⟨k.a, h.f.trans k.f⟩
def qO (qb : Nat) (st : RS) : Ob := ⟨fun i => i = qb, fun W => QAt W qb st, fun _ _ _ h f hs => by obtain ⟨⟨s, h1, h2⟩, h3⟩ := h; exact ⟨⟨s, h1.fr f (hs qb rfl), h2⟩, h3⟩, fun _ h i e => by obtain ⟨⟨s, h1, _⟩, _⟩ := h; rw [e]; exact Has.lt (t := 29) h1⟩
theorem Mine.q {w W : World} {A X : List Ob} {qb : Nat} {st : RS} (h : Mine w W (A ++ qO qb st :: X)) : QAt W qb st := h.s.p (qO qb st) (by simp)
theorem Mine.qdid {w W W' : World} {A X : List Ob} {qb : Nat} {st st' : RS} (h : Mine w W (A ++ qO qb st :: X)) (d : QDid W W' qb st') : Mine w W' (A ++ qO qb st' :: X) :=
  ⟨fr_mine h.g d.f (fun i hi => h.s.lo (qO qb st) (by simp) i hi), h.s.upd h.g.size d.f d.a (fun _ hi => .inl hi)⟩

def qTake (st : RS) (n : Int) (odd : Bool) : List UInt8 × RS := if odd = true then ([], st.fail 51) else if (st.1.length : Int) < n then ([], st.fail 50) else (st.1.take n.toNat, (st.1.drop n.toNat, st.2))
theorem qTake_dead {st : RS} (h : st.ok) (he : st.2 ≠ 0) (n : Int) (odd : Bool) : qTake st n odd = ([], st) := by
  obtain ⟨l, e⟩ := st
  obtain rfl : l = [] := h he
  unfold qTake RS.fail
  simp only at he
  simp only [he, if_false]
  split
  · rfl
  · split
    · rfl
    · simp
theorem rTake_q (st : RS) (n : Int) : rTake st n = qTake st n (decide (n < 0)) := by
  unfold rTake qTake
  by_cases h : n < 0
  · simp [h]
  · simp [h]
theorem rNumL_q (st : RS) (size : Int) : rNumL st size = qTake st size (decide (¬ sized size)) := by
  unfold rNumL
  by_cases h : sized size
  · rw [if_pos h, rTake_q]
    have : ¬ size < 0 := by have := h.1; omega
    simp [h, this]
  · rw [if_neg h]
    unfold qTake
    simp [h]
theorem sl_ext (s : ByteArray) (a b : Nat) : sl (s.extract a b) = ((sl s).take b).drop a := by
  simp [sl, ByteArray.data_extract, List.extract_eq_take_drop, List.drop_take]
set_option maxRecDepth 100000 in
theorem qbytes_c (qb : Nat) (st : RS) (n : Int) (odd : Bool) (w : World) (h : QAt w qb st) (hn : odd = false → 0 ≤ n) :
    Calls Try.prog 27 #[.pointer (some ⟨qb, 0, none⟩), .int .i64 n, .bool odd] w fun e w' => e = .returned (.string ⟨(qTake st n odd).1.toArray⟩) ∧ QDid w w' qb (qTake st n odd).2 := by
  have HH : Keep (QAt w qb st) := ⟨h⟩
  obtain ⟨⟨s, h1, h2⟩, h3⟩ := h
  have c0 : w.cell? ⟨qb, 0, none⟩ = some (.string s) := h1.cellv 0 _ rfl
  have c1 : w.cell? ⟨qb, 1, none⟩ = some (.int .i64 st.2) := h1.cellv 1 _ rfl
  have f0 := h1.frozen 0
  have f1 := h1.frozen 1
  have H1 := Keep.mk h1
  have H2 := Keep.mk h2
  clear h1 h2
  go_enter Try.func27, Try.ntmps27
  by_cases he : st.2 = 0
  · cases odd with
    | true =>
      have hq : qTake st n true = ([], ([], 51)) := by unfold qTake RS.fail; simp [he]
      rw [hq]
      rw [he] at c1
      clear hq he hn
      go_wp2
      go_ret
      exact ⟨rfl, ⟨⟨s, H1.out.setCell 1 _, fun e => (by cases e)⟩, fun _ => rfl⟩, Fr.ofSome (S := fun i => i = qb) (gr_set _ _ _ _) rfl⟩
    | false =>
      have hn0 : 0 ≤ n := hn rfl
      have hl : st.1.length = s.size := by rw [← H2.out he, sl_len]
      by_cases hgt : (s.size : Int) < n
      · have hq : qTake st n false = ([], ([], 50)) := by unfold qTake RS.fail; rw [hl]; simp [he, hgt]
        rw [hq]
        rw [he] at c1
        clear hq he hn hl
        go_wp2
        go_ret
        exact ⟨rfl, ⟨⟨s, H1.out.setCell 1 _, fun e => (by cases e)⟩, fun _ => rfl⟩, Fr.ofSome (S := fun i => i = qb) (gr_set _ _ _ _) rfl⟩
      · have hq : qTake st n false = (st.1.take n.toNat, (st.1.drop n.toNat, 0)) := by unfold qTake; rw [hl]; simp [he, hgt]
        rw [hq]
        have HT : Keep ((⟨(st.1.take n.toNat).toArray⟩ : ByteArray) = s.extract 0 n.toNat) := ⟨by
          apply sl_inj
          rw [sl_mk, sl_ext, ← H2.out he]; simp⟩
        have HD : Keep (sl (s.extract n.toNat s.size) = st.1.drop n.toNat) := ⟨by
          rw [sl_ext, ← H2.out he, List.take_of_length_le (by rw [sl_len]; exact Nat.le_refl _)]⟩
        have H1' : Keep (Has w qb [.string s, .int .i64 0] 29) := ⟨by have := H1.out; rwa [he] at this⟩
        have hgt' : n ≤ (s.size : Int) := by omega
        rw [he] at c1
        clear hq he hn hl H1 H2 h3 HH
        go_wp2
        go_ret
        refine ⟨by rw [HT.out]; rfl, ⟨⟨_, H1'.out.setCell 0 _, fun _ => HD.out⟩, fun e => absurd rfl e⟩, Fr.ofSome (S := fun i => i = qb) (gr_set _ _ _ _) rfl⟩
  · have hq := qTake_dead h3 he n odd
    rw [hq]
    clear hq hn
    generalize st.2 = e0 at *
    have hb : (e0 != 0) = true := by simp [he]
    go_wp2
    go_ret
    exact ⟨rfl, QDid.refl HH.out⟩
theorem qLeft_c (qb : Nat) (st : RS) (w : World) (h : QAt w qb st) :
    Calls Try.prog 8 #[.pointer (some ⟨qb, 0, none⟩)] w fun e w' => e = .returned (.int .i64 (st.1.length : Nat)) ∧ w' = w := by
  obtain ⟨⟨s, h1, h2⟩, h3⟩ := h
  have c0 : w.cell? ⟨qb, 0, none⟩ = some (.string s) := h1.cellv 0 _ rfl
  have c1 : w.cell? ⟨qb, 1, none⟩ = some (.int .i64 st.2) := h1.cellv 1 _ rfl
  clear h1
  go_enter Try.func8, Try.ntmps8
  by_cases he : st.2 = 0
  · have hl : s.size = st.1.length := by rw [← h2 he, sl_len]
    rw [he] at c1
    clear h2 h3 he
    go_wp2
    go_ret
    exact ⟨by rw [← hl]; rfl, rfl⟩
  · have hl : st.1.length = 0 := by rw [h3 he]; rfl
    rw [hl]
    clear hl h2 h3
    generalize st.2 = e0 at *
    have hb : (e0 != 0) = true := by simp [he]
    go_wp2
    go_ret
    exact ⟨rfl, rfl⟩
theorem qDone_c (qb : Nat) (st : RS) (w : World) (h : QAt w qb st) :
    Calls Try.prog 10 #[.pointer (some ⟨qb, 0, none⟩)] w fun e w' => e = .returned (.int .i64 (rDone st)) ∧ w' = w := by
  obtain ⟨⟨s, h1, h2⟩, h3⟩ := h
  have c0 : w.cell? ⟨qb, 0, none⟩ = some (.string s) := h1.cellv 0 _ rfl
  have c1 : w.cell? ⟨qb, 1, none⟩ = some (.int .i64 st.2) := h1.cellv 1 _ rfl
  clear h1
  go_enter Try.func10, Try.ntmps10
  by_cases he : st.2 = 0
  · have hl : s.size = st.1.length := by rw [← h2 he, sl_len]
    by_cases hz : 0 < s.size
    · have hd : rDone st = 51 := by unfold rDone; rw [if_pos (by omega)]
      have hz2 : (0 : Int) < s.size := by omega
      rw [he] at c1
      rw [hd]
      clear h2 h3 he hd hl
      go_wp2
      go_ret
      exact ⟨rfl, rfl⟩
    · have hd : rDone st = 0 := by unfold rDone; rw [if_neg (by omega)]; exact he
      have hz2 : ¬ (0 : Int) < s.size := by omega
      rw [he] at c1
      rw [hd]
      clear h2 h3 he hd hl
      go_wp2
      go_ret
      exact ⟨rfl, rfl⟩
  · have hd : rDone st = st.2 := by unfold rDone; rw [h3 he]; simp
    rw [hd]
    clear hd h2 h3
    generalize st.2 = e0 at *
    have hb : (e0 == 0) = false := by simp [he]
    go_wp2
    go_ret
    exact ⟨rfl, rfl⟩
theorem qBytes_c (qb : Nat) (st : RS) (n : Int) (w : World) (h : QAt w qb st) :
    Calls Try.prog 25 #[.pointer (some ⟨qb, 0, none⟩), .int .i64 n] w fun e w' => e = .returned (.string ⟨(rTake st n).1.toArray⟩) ∧ QDid w w' qb (rTake st n).2 := by
  have HB := Keep.mk (qbytes_c qb st n (decide (n < 0)) w h (fun e => by have := of_decide_eq_false e; omega))
  rw [← rTake_q] at HB
  clear h
  go_enter Try.func25, Try.ntmps25
  go_wp2_with fail
  refine HB.out.mono ?_
  rintro e w1 ⟨rfl, d1⟩
  have HD := Keep.mk d1
  clear d1 HB
  go_wp2
  go_ret
  exact ⟨rfl, HD.out⟩
theorem qRest_c (qb : Nat) (st : RS) (w : World) (h : QAt w qb st) :
    Calls Try.prog 12 #[.pointer (some ⟨qb, 0, none⟩)] w fun e w' => e = .returned (.string ⟨st.1.toArray⟩) ∧ QDid w w' qb ([], st.2) := by
  have HQ := Keep.mk h
  obtain ⟨⟨s, h1, h2⟩, h3⟩ := h
  have c0 : w.cell? ⟨qb, 0, none⟩ = some (.string s) := h1.cellv 0 _ rfl
  have HB := Keep.mk (qbytes_c qb st s.size false w HQ.out (fun _ => by omega))
  have hq : qTake st s.size false = (st.1, ([], st.2)) := by
    by_cases he : st.2 = 0
    · have hl : st.1.length = s.size := by rw [← h2 he, sl_len]
      unfold qTake
      rw [hl, if_neg (by simp), if_neg (by omega), Int.toNat_natCast, ← hl, List.take_length, List.drop_length]
    · rw [qTake_dead h3 he]
      have := h3 he
      obtain ⟨l, e⟩ := st
      simp only at this
      subst this
      rfl
  rw [hq] at HB
  clear h1 h2 h3 hq HQ
  go_enter Try.func12, Try.ntmps12
  go_wp2_with fail
  refine HB.out.mono ?_
  rintro e w1 ⟨rfl, d1⟩
  have HD := Keep.mk d1
  clear d1 HB
  go_wp2
  go_ret
  exact ⟨rfl, HD.out⟩
theorem sl_at (s : ByteArray) (i : Nat) (h : i < s.size) : (sl s)[i]? = some s[i] := by
  unfold sl
  rw [Array.getElem?_toList]
  exact Array.getElem?_eq_getElem h
theorem idx9 (s : ByteArray) (i : Nat) (y : UInt8) (h : i < s.size) (hy : (sl s)[i]? = some y) (W : World) : (Instr.index 9 (.string s) (.int .i64 (i : Int))).run Try.prog W = .ok (.int .u8 y.toNat) W := by
  rw [run_index_string W 9 s .i64 i (by kernel_rfl), dif_pos ⟨by omega, by omega⟩]
  rw [sl_at s i h] at hy
  simp only [Int.toNat_natCast, Option.some.inj hy]
theorem rText_q (st : RS) : rText st = if (rTake st 1).1 = [] then ([], (rTake st 1).2) else rTake (rTake st 1).2 (val (rTake st 1).1 : Nat) := by
  have hs : sized 1 := ⟨by omega, by omega⟩
  have e : rNumL st 1 = rTake st 1 := by unfold rNumL; rw [if_pos hs]
  unfold rText rNum
  rw [e]
  split
  · rename_i h
    rw [h]
    show rTake (rTake st 1).2 0 = _
    unfold rTake
    simp only [Int.lt_irrefl, if_false]
    rw [if_neg (by omega)]
    simp
  · rfl
end Go.Proofs.Ytkddfnglonofoab
