import Derived.Test.YtldnpebnpbahjaaGreatDoorCS0
/- snapshots and byes as a client hears them, over lists -/
namespace Go.Proofs.YtldnpebnpbahjaaGreatDoor.Pk.Sn
open Go Go.RowKit

/-- a small view -/
def smV (t p he sc : Int) (n : ByteArray) : Vw := ⟨t, p, n, 0, 0, 0, 0, 0, he, 0, 0, 0, 0, 0, sc, []⟩
structure Smv (t p he sc : Int) (n : ByteArray) : Prop where
  t : 0 ≤ t ∧ t < 18446744073709551616
  p : 0 ≤ p ∧ p < 256
  he : -1000 ≤ he ∧ he ≤ 1000
  sc : -1000 ≤ sc ∧ sc ≤ 1000
  n : n.size ≤ 24
theorem sm_ok {t p he sc : Int} {n : ByteArray} (h : Smv t p he sc n) : (smV t p he sc n).ok := by
  have h1 := h.t
  have h2 := h.p
  have h3 := h.he
  have h4 := h.sc
  have h5 := h.n
  refine ⟨?_, ?_⟩
  · simp only [hK, hMs, Mk.kd, Vw.lv, smV, okL, okK, List.map_cons, List.map_nil, sl_len]
    simp
    omega
  · intro s hs
    cases hs
theorem sm_fit {t p he sc : Int} {n : ByteArray} (h : Smv t p he sc n) : fitV (smV t p he sc n) := by
  have h2 := h.p
  have h5 := h.n
  refine ⟨?_, ?_⟩
  · simp only [hK, hMs, Mk.kd, Vw.lv, smV, fitL, fitK, List.map_cons, List.map_nil, sl_len]
    simp
    omega
  · intro s hs
    cases hs
theorem sm_enc {t p he sc : Int} {n : ByteArray} (h : Smv t p he sc n) : (encV (smV t p he sc n)).length ≤ 1148 := by
  rw [encV_len]
  have := h.n
  show 107 + n.size + 26 * 0 ≤ 1148
  omega
theorem hm32 (k t : List UInt8) : (Mac.hmac k t).length = 32 := Mac.hmac_len _ _
/-- what Make makes of a small view -/
theorem snap_yes {t p he sc : Int} {n : ByteArray} (h : Smv t p he sc n) {s q : Nat} (hs : s < 18446744073709551616) (hq : q < 18446744073709551616) (key : ByteArray) :
    ∃ S x : ByteArray, mkS s q (smV t p he sc n) key = (S, 0) ∧ dec (sl S) = ((mkD s q (ba (encV (smV t p he sc n)))).wear x, 0) ∧ sealed S key = true ∧ S.size ≤ 1200 ∧ 52 ≤ S.size := by
  have hw := wrV_yes (sm_ok h) (sm_fit h)
  have hlen := sm_enc h
  generalize encV (smV t p he sc n) = E at hw hlen ⊢
  have hb : ¬ 1148 < (ba E).size := by rw [ba_size]; omega
  have e := seal_snap (b := ba E) (key := key) hs hq
  rw [if_neg hb] at e
  have e2 : mkS s q (smV t p he sc n) key = sealD (mkD s q (ba E)) key := by
    unfold mkS
    rw [hw]
    exact if_pos rfl
  obtain ⟨x, h1, h2, h3, h4⟩ := seal_good (d := mkD s q (ba E)) (key := key) (mk_fine _ hs hq) (by rw [e])
  refine ⟨(sealD (mkD s q (ba E)) key).1, x, ?_, ?_, h2, h3, h4⟩
  · rw [e2, e]
  · rw [h1, only_snap]
theorem jud_yes {C : Cl} {data : ByteArray} {D : Dg} (h1 : D.session = C.num) (h2 : sealed data C.key = true) : judS C data D = if D.seq ≤ C.bl then 241 else 0 := by
  unfold judS
  rw [if_neg (by simp [h1]), if_neg (by simp [h2])]
/-- a snapshot is heard -/
theorem hea_snap {t p he sc : Int} {n : ByteArray} (h : Smv t p he sc n) {C : Cl} {q : Nat} {S x : ByteArray} (hst : C.st = 168) (h1 : dec (sl S) = ((mkD C.num q (ba (encV (smV t p he sc n)))).wear x, 0)) (h2 : sealed S C.key = true) :
    heaS C S = if q ≤ C.bl then (nob, 241, C) else (nob, 0, { C with vw := ba (encV (smV t p he sc n)), bl := q }) := by
  have hr := rd_wr (sm_ok h) (sm_fit h)
  generalize encV (smV t p he sc n) = E at hr h1 ⊢
  unfold heaS
  rw [h1, if_neg (by simp), if_neg (by show ¬ ((6 : Int) = 1 ∨ (6 : Int) = 3 ∨ (6 : Int) = 5); omega)]
  unfold nxtS
  rw [if_neg (by rw [hst]; decide), if_pos hst]
  unfold plaS
  rw [if_pos (show ((mkD C.num q (ba E)).wear x).kind = 6 from rfl)]
  have hj := jud_yes (C := C) (data := S) (D := (mkD C.num q (ba E)).wear x) rfl h2
  have hsq : ((mkD C.num q (ba E)).wear x).seq = q := rfl
  rw [hsq] at hj
  by_cases hb : q ≤ C.bl
  · rw [if_pos hb] at hj ⊢
    have e : lokS C S ((mkD C.num q (ba E)).wear x) = (C, 241) := by
      unfold lokS
      rw [hj, if_pos (by decide)]
    rw [e]
  · rw [if_neg hb] at hj ⊢
    have e : lokS C S ((mkD C.num q (ba E)).wear x) = ({ C with vw := ba E, bl := q }, 0) := by
      unfold lokS
      rw [hj, if_neg (by simp)]
      have hd : sl ((mkD C.num q (ba E)).wear x).data = E := sl_mk _
      rw [hd, hr, if_neg (by simp)]
      rfl
    rw [e]
def byD (s q : Nat) : Dg := { Dg.zero 7 with session := s, seq := q }
theorem byD_fine {s q : Nat} (hs : s < 18446744073709551616) (hq : q < 18446744073709551616) : (byD s q).fine := ⟨by show (-9223372036854775808 : Int) ≤ 7 ∧ (7 : Int) < 9223372036854775808; omega, by show 0 < 18446744073709551616; omega, hs, i0, hq, i0, i0⟩
theorem byD_small (s q : Nat) : (byD s q).small := ⟨by show (0 : Nat) ≤ _; omega, by show (0 : Nat) ≤ _; omega, by show (0 : Nat) ≤ _; omega, by show (0 : Nat) ≤ _; omega, by show (0 : Nat) ≤ _; omega, by show (0 : Nat) ≤ _; omega⟩
theorem bye_yes {s q : Nat} (hs : s < 18446744073709551616) (hq : q < 18446744073709551616) (key : ByteArray) :
    (sealD (byD s q) key).2 = 0 ∧ ∃ x : ByteArray, dec (sl (sealD (byD s q) key).1) = (byX s q x, 0) ∧ sealed (sealD (byD s q) key).1 key = true ∧ (sealD (byD s q) key).1.size ≤ 1200 := by
  have hc := bye_code (key := key) (byD_fine hs hq) rfl
  obtain ⟨x, h1, h2, h3, _⟩ := seal_good (byD_fine hs hq) hc
  exact ⟨hc, x, by rw [h1, on7 _ rfl]; rfl, h2, h3⟩
/-- a bye is heard -/
theorem hea_bye {C : Cl} {q : Nat} {S x : ByteArray} (hst : C.st = 168) (h1 : dec (sl S) = (byX C.num q x, 0)) (h2 : sealed S C.key = true) :
    heaS C S = if q ≤ C.bl then (nob, 241, C) else (nob, 0, endS C) := by
  unfold heaS
  rw [h1, if_neg (by simp), if_neg (by show ¬ ((7 : Int) = 1 ∨ (7 : Int) = 3 ∨ (7 : Int) = 5); omega)]
  unfold nxtS
  rw [if_neg (by rw [hst]; decide), if_pos hst]
  unfold plaS
  rw [if_neg (by show ¬ (7 : Int) = 6; omega), if_pos (show (byX C.num q x).kind = 7 from rfl)]
  have hj := jud_yes (C := C) (data := S) (D := byX C.num q x) rfl h2
  have hsq : (byX C.num q x).seq = q := rfl
  rw [hsq] at hj
  by_cases hb : q ≤ C.bl
  · rw [if_pos hb] at hj ⊢
    have e : disS C S (byX C.num q x) = (C, 241) := by
      unfold disS
      rw [hj, if_pos (by decide)]
    rw [e]
  · rw [if_neg hb] at hj ⊢
    have e : disS C S (byX C.num q x) = (endS C, 0) := by
      unfold disS
      rw [hj, if_neg (by simp)]
    rw [e]
theorem hea_again {C : Cl} {n : Nat} {S x nc : ByteArray} (hnc : C.nc = nc) (hm : n ≤ C.mx) (h1 : dec (sl S) = ((welD nc n).wear x, 0)) : heaS (endS C) S = (nob, 241, endS C) := by
  unfold heaS
  rw [h1, if_neg (by simp), if_neg (by show ¬ ((4 : Int) = 1 ∨ (4 : Int) = 3 ∨ (4 : Int) = 5); omega)]
  unfold nxtS
  rw [if_pos (show (endS C).st = 54 from rfl)]
  show greS (endS C) S ((welD nc n).wear x) = _
  rw [gre_3 (show ((welD nc n).wear x).nonce = (endS C).nc from hnc.symm) rfl]
  have e : begS (endS C) S ((welD nc n).wear x) = (endS C, 241) := by
    unfold begS
    rw [if_pos (show ((welD nc n).wear x).session ≤ (endS C).mx from hm)]
  rw [e]
theorem rd_none : (rdV (sl nob)).2 ≠ 0 := by decide +kernel
end Go.Proofs.YtldnpebnpbahjaaGreatDoor.Pk.Sn
