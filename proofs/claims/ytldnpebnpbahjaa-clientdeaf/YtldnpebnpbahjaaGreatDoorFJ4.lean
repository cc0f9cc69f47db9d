import Derived.Test.YtldnpebnpbahjaaGreatDoorFJ1
/- what is sealed, and what is sealed no more: over lists -/
namespace Go.Proofs.YtldnpebnpbahjaaGreatDoor.Pk
open Go Go.RowKit

set_option maxRecDepth 100000 in
theorem kindL_app {B : List UInt8} (h : 4 ≤ B.length) (t : List UInt8) : kindL (B ++ t) = kindL B := by
  unfold kindL
  have e1 : (B ++ t).take 3 = B.take 3 := List.take_append_of_le_length (by omega)
  have e2 : (B ++ t).getD 3 0 = B.getD 3 0 := by simp [List.getD, List.getElem?_append_left (show 3 < B.length by omega)]
  rw [e1, e2]
  by_cases hm : B.take 3 = magic
  · rw [if_neg (by rw [List.length_append]; simp [hm]; omega), if_neg (by simp [hm]; omega)]
  · rw [if_pos (.inr hm), if_pos (.inr hm)]
/-- a text with 32 bytes at its end -/
theorem body_cut {B t : List UInt8} (h4 : 4 ≤ B.length) (ht : t.length = 32) (hk : 3 ≤ kindL B ∧ kindL B ≤ 7) : bodyB (ba (B ++ t)) = ba B := by
  rw [bodyB, show sl (ba (B ++ t)) = B ++ t from sl_mk _, bodyL, if_neg, List.length_append, ht, Nat.add_sub_cancel, List.take_left]
  rw [kindL_app h4, List.length_append, ht]
  omega
set_option maxRecDepth 100000 in
theorem ba_inj2 {a b : List UInt8} (h : ba a = ba b) : a = b := by
  have := congrArg sl h
  rw [show sl (ba a) = a from sl_mk _, show sl (ba b) = b from sl_mk _] at this
  exact this
set_option maxRecDepth 100000 in
theorem sealed_cut {B t : List UInt8} (h4 : 4 ≤ B.length) (ht : t.length = 32) (hk : 3 ≤ kindL B ∧ kindL B ≤ 7) (k : ByteArray) : sealed (ba (B ++ t)) k = decide (ba t = hmacB k (ba B)) := by
  unfold sealed
  rw [body_cut h4 ht hk]
  have e : (ba (B ++ t)).extract (ba B).size (ba (B ++ t)).size = ba t := by
    apply sl_inj
    rw [show sl ((ba (B ++ t)).extract (ba B).size (ba (B ++ t)).size) = (sl (ba (B ++ t))).drop (ba B).size from sl_extract _ _, show sl (ba (B ++ t)) = B ++ t from sl_mk _, show (ba B).size = B.length from ba_size _, List.drop_left]
    exact (sl_mk _).symm
  rw [e]
  have hne : ba B ≠ nob := fun q => by
    have := ba_inj2 (b := []) q
    subst this
    simp at h4
  by_cases hq : ba t = hmacB k (ba B)
  · rw [decide_eq_true ⟨hne, hq⟩, decide_eq_true hq]
  · rw [decide_eq_false (fun c => hq c.2), decide_eq_false hq]
/-- the least that is sealed -/
theorem enc_big {d : Dg} (hf : d.fine) (hk : 3 ≤ d.kind ∧ d.kind ≤ 7) (h : (enc d).2 = 0) : 52 ≤ (enc d).1.length := by
  rw [enc_is d hf] at h ⊢
  have h0 : ¬ fieldsL d.kind = [] := fieldsL_some (by omega)
  rw [if_neg h0] at h ⊢
  by_cases hft : ∀ f ∈ fieldsL d.kind, fitF d f
  · rw [if_pos hft] at h ⊢
    by_cases hl : 1200 < (headL d ++ bytesF d (fieldsL d.kind)).length
    · rw [if_pos hl] at h; cases h
    · rw [if_neg hl]
      dsimp only
      have hh : (headL d).length = 4 := by simp [headL, magic]
      rw [List.length_append, hh]
      have hks : d.kind = 3 ∨ d.kind = 4 ∨ d.kind = 5 ∨ d.kind = 6 ∨ d.kind = 7 := by omega
      clear hl h h0 hf
      rcases hks with hk | hk | hk | hk | hk
      · rw [hk] at hft ⊢
        have a1 := hft .nonce (by simp [fieldsL])
        have a2 := hft .tag (by simp [fieldsL])
        simp only [fitF] at a1 a2
        simp only [fieldsL, bytesF, List.map_cons, List.map_nil, List.flatten_cons, List.flatten_nil, reduceIte, Int.reduceEq, lyB, List.length_append, sl_len, be_len, List.length_cons, List.length_nil]
        omega
      · rw [hk] at hft ⊢
        have a1 := hft .nonce (by simp [fieldsL])
        have a2 := hft .tag (by simp [fieldsL])
        simp only [fitF] at a1 a2
        simp only [fieldsL, bytesF, List.map_cons, List.map_nil, List.flatten_cons, List.flatten_nil, reduceIte, Int.reduceEq, lyB, List.length_append, sl_len, be_len, List.length_nil]
        omega
      all_goals
        rw [hk] at hft ⊢
        have a2 := hft .tag (by simp [fieldsL])
        simp only [fitF] at a2
        simp only [fieldsL, bytesF, List.map_cons, List.map_nil, List.flatten_cons, List.flatten_nil, reduceIte, Int.reduceEq, lyB, List.length_append, sl_len, be_len, List.length_nil]
        omega
  · rw [if_neg hft] at h; cases h
/-- all that the walk wants of a sealed datagram -/
theorem seal_all (d : Dg) (key : ByteArray) (hf : d.fine) (h : (sealD d key).2 = 0) : ∃ B t : List UInt8, (sealD d key).1 = ba (B ++ t) ∧ bodyB (ba (B ++ t)) = ba B ∧ hmacB key (ba B) = ba t ∧ t.length = 32 ∧ 20 ≤ B.length ∧ B.length + 32 ≤ 1200 ∧ (3 ≤ kindL B ∧ kindL B ≤ 7) ∧ dec (B ++ t) = (onlyD (d.wear (ba t)), 0) ∧ (1 ≤ d.kind ∧ d.kind ≤ 7) ∧ sealed (ba (B ++ t)) key = true := by
  obtain ⟨body, h1, h2, h3, h4, h5, h6⟩ := seal_yes d key hf h
  have hd := dec_enc (d.wear (hmacB key body)) (Dg.wear_fine hf _) (by rw [h3])
  have hbig := enc_big (d := d.wear (hmacB key body)) (Dg.wear_fine hf _) h4 (by rw [h3])
  rw [h3] at hd hbig
  dsimp only at hd hbig
  have hm := hmacB_size key body
  have e1 : ba (sl body) = body := sl_back body
  have e2 : ba (sl (hmacB key body)) = hmacB key body := sl_back _
  have e3 : (sealD d key).1 = ba (sl body ++ sl (hmacB key body)) := by
    apply sl_inj
    rw [h2, sl_app]
    exact (sl_mk _).symm
  have l1 : (sl body).length = body.size := sl_len _
  have l2 : (sl (hmacB key body)).length = 32 := by rw [sl_len, hm]
  rw [e3, show sl (ba (sl body ++ sl (hmacB key body))) = sl body ++ sl (hmacB key body) from sl_mk _] at hd hbig
  rw [List.length_append, l2] at hbig
  have hkb : 3 ≤ kindL (sl body) ∧ kindL (sl body) ≤ 7 := by
    have hbe := dec_back (s := sl body ++ sl (hmacB key body)) (by rw [hd])
    rw [hd] at hbe
    have hne : bodyL (sl body ++ sl (hmacB key body)) ≠ [] := by
      intro q
      rw [e3] at h1
      rw [bodyB, show sl (ba (sl body ++ sl (hmacB key body))) = sl body ++ sl (hmacB key body) from sl_mk _, q] at h1
      have := congrArg ByteArray.size h1
      rw [ba_size] at this
      simp at this
      omega
    rw [bodyL] at hne
    have hc : ¬ ((sl body ++ sl (hmacB key body)).length < 36 ∨ ¬ (3 ≤ kindL (sl body ++ sl (hmacB key body)) ∧ kindL (sl body ++ sl (hmacB key body)) ≤ 7)) := fun c => hne (if_pos c)
    rw [kindL_app (by omega)] at hc
    omega
  refine ⟨sl body, sl (hmacB key body), e3, body_cut (by omega) l2 hkb, by rw [e1, e2], l2, by omega, by omega, hkb, by rw [hd, e2], by omega, ?_⟩
  rw [sealed_cut (by omega) l2 hkb, e1, e2]
  exact decide_eq_true rfl
/-- where Seal refuses -/
theorem seal_no (d : Dg) (key : ByteArray) (hf : d.fine) (h : (sealD d key).2 ≠ 0) : (sealD d key).1 = nob ∧ ((3 ≤ d.kind ∧ d.kind ≤ 7 ∧ (enc d.bare).2 = (sealD d key).2 ∧ (enc d).2 ≠ 0) ∨ ((d.kind < 3 ∨ 7 < d.kind) ∧ (sealD d key).2 = 71 ∧ (7 < d.kind → (enc d).2 ≠ 0))) := by
  by_cases hk : 3 ≤ d.kind ∧ d.kind ≤ 7
  · have hs : sealD d key = if (enc d.bare).2 = 0 then (bodyB (ba (enc d.bare).1) ++ hmacB key (bodyB (ba (enc d.bare).1)), 0) else (nob, (enc d.bare).2) := by rw [sealD, if_pos hk]
    by_cases h0 : (enc d.bare).2 = 0
    · rw [hs, if_pos h0] at h; exact absurd rfl h
    · rw [if_neg h0] at hs
      refine ⟨by rw [hs], .inl ⟨hk.1, hk.2, by rw [hs], fun hc => h0 ?_⟩⟩
      have ht : d.tag.size = 32 := by
        rw [enc_is d hf, if_neg (fieldsL_some (by omega))] at hc
        by_cases hft : ∀ f ∈ fieldsL d.kind, fitF d f
        · obtain ⟨fs, e, _⟩ := fields_tag hk
          exact hft .tag (by rw [e]; simp)
        · rw [if_neg hft] at hc; cases hc
      obtain ⟨X, _, _, hX⟩ := enc_wear d hf hk
      have e1 := hX d.tag ht
      have e2 := hX zero32 zero32_size
      have e3 : enc d.bare = enc (d.wear zero32) := rfl
      have e4 : enc d = enc (d.wear d.tag) := rfl
      rw [e4, e1] at hc
      rw [e3, e2]
      by_cases hft : ∀ f ∈ fieldsL d.kind, f ≠ .tag → fitF d f
      · rw [if_pos hft] at hc ⊢
        by_cases hl : 1200 < X.length + 32
        · rw [if_pos hl] at hc; cases hc
        · rw [if_neg hl]
      · rw [if_neg hft] at hc; cases hc
  · rw [sealD, if_neg hk]
    refine ⟨rfl, .inr ⟨by omega, rfl, fun h7 hc => ?_⟩⟩
    rw [enc, if_pos (fieldsL_nil (by omega))] at hc
    cases hc
end Go.Proofs.YtldnpebnpbahjaaGreatDoor.Pk
