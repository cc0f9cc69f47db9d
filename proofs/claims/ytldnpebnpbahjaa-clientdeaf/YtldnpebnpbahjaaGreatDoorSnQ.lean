import Derived.Test.YtldnpebnpbahjaaGreatDoorSnL
/- snapshots as datagrams, over lists -/
namespace Go.Proofs.YtldnpebnpbahjaaGreatDoor.Pk.Sn
open Go Go.RowKit

/-- a snapshot's body -/
def snB (ses seq : Nat) (b : List UInt8) : List UInt8 := [74, 48, 49, 6] ++ (be 8 ses ++ (be 8 seq ++ b))
theorem snB_len (ses seq : Nat) (b : List UInt8) : (snB ses seq b).length = 20 + b.length := by
  simp [snB, be_len]; omega
set_option maxRecDepth 100000 in
theorem fields6 : fieldsL 6 = [.session, .seq, .view, .tag] := by simp [fieldsL]
set_option maxRecDepth 100000 in
theorem enc_snap {ses seq : Nat} {b : ByteArray} {t : List UInt8} (h1 : ses < 18446744073709551616) (h2 : seq < 18446744073709551616) (ht : t.length = 32) : enc ((mkD ses seq b).wear (ba t)) = if 1148 < b.size then ([], 72) else (snB ses seq (sl b) ++ t, 0) := by
  have hk : ((mkD ses seq b).wear (ba t)).kind = 6 := rfl
  have hh : headL ((mkD ses seq b).wear (ba t)) = [74, 48, 49, 6] := rfl
  have e1 : ∀ L : List UInt8, wNum (some L) ses 8 = some (L ++ be 8 ses) := fun L => wNum_some L ses 8 8 rfl (by omega) (by omega) (by show _ < 18446744073709551616; exact h1)
  have e2 : ∀ L : List UInt8, wNum (some L) seq 8 = some (L ++ be 8 seq) := fun L => wNum_some L seq 8 8 rfl (by omega) (by omega) (by show _ < 18446744073709551616; exact h2)
  have hl : lays ((mkD ses seq b).wear (ba t)) [.session, .seq, .view, .tag] (some [74, 48, 49, 6], false) = (some (snB ses seq (sl b) ++ t), false) := by
    show (wBytes (wBytes (wNum (wNum (some [74, 48, 49, 6]) ses 8) seq 8) (sl b)) (sl (ba t)), (false || !decide ((ba t).size = 32))) = _
    rw [e1, e2, show sl (ba t) = t from sl_mk t]
    have hs : (ba t).size = 32 := by rw [ba_size]; exact ht
    rw [hs]
    simp [wBytes, snB, List.append_assoc]
  unfold enc
  rw [hk, fields6, if_neg (by simp), hh, hl]
  unfold finish
  simp only [Bool.false_eq_true, if_false, List.length_append, snB_len, ht, sl_len]
  by_cases hb : 1148 < b.size
  · rw [if_pos hb, if_pos (by omega)]
  · rw [if_neg hb, if_neg (by omega)]
set_option maxRecDepth 100000 in
theorem kind_snap (ses seq : Nat) (b t : List UInt8) : kindL (snB ses seq b ++ t) = 6 := rfl
set_option maxRecDepth 100000 in
theorem only_snap (ses seq : Nat) (b x : ByteArray) : onlyD ((mkD ses seq b).wear x) = (mkD ses seq b).wear x := by
  have hk : ((mkD ses seq b).wear x).kind = 6 := rfl
  unfold onlyD
  rw [hk, fields6]
  rfl
theorem hmS (key text : ByteArray) : sl (hmacB key text) = Mac.hmac (sl key) (sl text) := hmacB_sl key text
theorem dec_snap {ses seq : Nat} {b : ByteArray} {t : List UInt8} (h1 : ses < 18446744073709551616) (h2 : seq < 18446744073709551616) (ht : t.length = 32) (hb : b.size ≤ 1148) : dec (snB ses seq (sl b) ++ t) = ((mkD ses seq b).wear (ba t), 0) := by
  have e := enc_snap (b := b) h1 h2 ht
  rw [if_neg (by omega)] at e
  have := dec_enc ((mkD ses seq b).wear (ba t)) (Dg.wear_fine (mk_fine b h1 h2) _) (by rw [e])
  rw [e, only_snap] at this
  exact this
theorem seal_snap {ses seq : Nat} {b key : ByteArray} (h1 : ses < 18446744073709551616) (h2 : seq < 18446744073709551616) : sealD (mkD ses seq b) key = if 1148 < b.size then (nob, 72) else (ba (snB ses seq (sl b) ++ Mac.hmac (sl key) (snB ses seq (sl b))), 0) := by
  have hz : (List.replicate 32 (0 : UInt8)).length = 32 := by simp
  have e := enc_snap (b := b) h1 h2 hz
  have hbare : (mkD ses seq b).bare = (mkD ses seq b).wear (ba (List.replicate 32 0)) := rfl
  rw [← hbare] at e
  have hk : 3 ≤ (mkD ses seq b).kind ∧ (mkD ses seq b).kind ≤ 7 := by show (3 : Int) ≤ 6 ∧ (6 : Int) ≤ 7; omega
  rw [sealD, if_pos hk, e]
  by_cases hb : 1148 < b.size
  · rw [if_pos hb, if_pos hb, if_neg (by decide)]
  · rw [if_neg hb, if_neg hb, if_pos rfl]
    have hB : bodyB (ba (snB ses seq (sl b) ++ List.replicate 32 0)) = ba (snB ses seq (sl b)) := body_cut (by rw [snB_len]; omega) hz (by rw [show kindL (snB ses seq (sl b)) = 6 from rfl]; omega)
    simp only [hB]
    have : ba (snB ses seq (sl b)) ++ hmacB key (ba (snB ses seq (sl b))) = ba (snB ses seq (sl b) ++ Mac.hmac (sl key) (snB ses seq (sl b))) := by
      apply sl_inj
      rw [sl_app, hmS]
      simp only [show ∀ l, sl (ba l) = l from sl_mk]
    rw [this]
end Go.Proofs.YtldnpebnpbahjaaGreatDoor.Pk.Sn
