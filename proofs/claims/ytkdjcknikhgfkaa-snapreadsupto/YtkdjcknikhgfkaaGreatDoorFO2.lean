import Derived.Test.YtkdjcknikhgfkaaGreatDoorFO1
/- Decode over lists: the third and the sixth kind; what does not begin well -/
namespace Go.Proofs.YtkdjcknikhgfkaaGreatDoor.Pk
open Go Go.RowKit
set_option maxRecDepth 100000 in
theorem dec_6 (s : List UInt8) (hl : s.length ≤ 1200) (hm : s.take 3 = magic) (hk : kindL s = 6) : dec s = if 52 ≤ s.length then ({ Dg.zero 6 with session := val ((s.drop 4).take 8), seq := val ((s.drop 12).take 8), data := ba ((s.drop 20).take (s.length - 52)), tag := ba (s.drop (s.length - 32)) }, 0) else (Dg.zero 0, 72) := by
  have hf : fieldsL (kindL s) = [.session, .seq, .view, .tag] := by rw [hk]; rfl
  rw [dec_kind s hl hm (by rw [hf]; simp), hf, hk]
  by_cases h0 : 8 ≤ (s.drop 4).length
  · by_cases h1 : 8 ≤ (s.drop 12).length
    · simp only [takes, tk, need8_eq, List.drop_drop, Option.map_some, Option.bind_some, Nat.reduceAdd, h0, h1, if_true]
      by_cases h2 : 52 ≤ s.length
      · have e : ((s.drop 20).length : Int) - 32 = ((s.length - 52 : Nat) : Int) := by rw [List.length_drop]; omega
        rw [if_pos h2, e, need_eq, if_pos (by rw [List.length_drop]; omega)]
        simp only [Option.map_some, Option.bind_some, List.drop_drop]
        rw [need32_eq, show 20 + (s.length - 52) = s.length - 32 by omega, if_pos (by rw [List.length_drop]; omega)]
        have e2 : (s.drop (s.length - 32)).take 32 = s.drop (s.length - 32) := List.take_of_length_le (by rw [List.length_drop]; omega)
        simp only [Option.map_some, Option.bind_some, List.drop_drop, ended, e2]
        rw [if_neg (by rw [List.length_drop]; omega)]
        rfl
      · rw [if_neg h2, need, if_pos (.inl (by rw [List.length_drop]; omega))]
        rfl
    · rw [if_neg (by rw [List.length_drop] at h1; omega)]
      simp only [takes, tk, need8_eq, List.drop_drop, Option.map_some, Option.map_none, Option.bind_some, Option.bind_none, Nat.reduceAdd, h0, h1, if_true, if_false, ended]
  · rw [if_neg (by rw [List.length_drop] at h0; omega)]
    simp only [takes, tk, need8_eq, Option.map_none, Option.bind_none, h0, if_false, ended]
set_option maxRecDepth 100000 in
theorem dec_3 (s : List UInt8) (hl : s.length ≤ 1200) (hm : s.take 3 = magic) (hk : kindL s = 3) : dec s = if 93 ≤ s.length ∧ s.length = 93 + (s.getD 60 0).toNat then ({ Dg.zero 3 with nonce := ba ((s.drop 4).take 16), epoch := val ((s.drop 20).take 8), cookie := ba ((s.drop 28).take 32), name := ba ((s.drop 61).take (s.length - 93)), tag := ba (s.drop (s.length - 32)) }, 0) else (Dg.zero 0, 72) := by
  have hf : fieldsL (kindL s) = [.nonce, .epoch, .cookie, .name, .tag] := by rw [hk]; rfl
  rw [dec_kind s hl hm (by rw [hf]; simp), hf, hk]
  by_cases h0 : 16 ≤ (s.drop 4).length
  · by_cases h1 : 8 ≤ (s.drop 20).length
    · by_cases h2 : 32 ≤ (s.drop 28).length
      · by_cases h3 : 1 ≤ (s.drop 60).length
        · simp only [takes, tk, need8_eq, need16_eq, need32_eq, need1_eq, List.drop_drop, Option.map_some, Option.bind_some, Nat.reduceAdd, h0, h1, h2, h3, if_true]
          have hv : val ((s.drop 60).take 1) = (s.getD 60 0).toNat := by
            have hlt : 60 < s.length := by rw [List.length_drop] at h3; omega
            obtain ⟨y, hy⟩ : ∃ y, s[60]? = some y := ⟨_, List.getElem?_eq_getElem hlt⟩
            have e : s.drop 60 = y :: s.drop 61 := by
              rw [List.drop_eq_getElem_cons hlt]
              congr 1
              rw [List.getElem?_eq_getElem hlt] at hy
              exact Option.some.inj hy
            rw [e]
            simp [val, List.getD, hy]
          rw [hv]
          generalize (s.getD 60 0).toNat = v at *
          rw [need_eq]
          by_cases h4 : v ≤ (s.drop 61).length
          · rw [if_pos h4]
            simp only [Option.map_some, Option.bind_some, List.drop_drop]
            by_cases h5 : 32 ≤ (s.drop (61 + v)).length
            · rw [if_pos h5]
              simp only [Option.map_some, Option.bind_some, ended]
              simp only [List.length_drop] at h4 h5
              by_cases hc : s.length = 93 + v
              · have e2 : (s.drop (61 + v)).take 32 = s.drop (s.length - 32) := by
                  rw [show 61 + v = s.length - 32 by omega]
                  exact List.take_of_length_le (by rw [List.length_drop]; omega)
                rw [if_neg (by rw [List.length_drop]; omega), if_neg Bool.false_ne_true, if_pos ⟨by omega, hc⟩, e2, show s.length - 93 = v by omega]
              · rw [if_pos (by rw [List.length_drop]; omega), if_neg (fun q => hc q.2)]
            · rw [if_neg h5, if_neg (by rw [List.length_drop] at h5; omega)]
              rfl
          · rw [if_neg h4, if_neg (by rw [List.length_drop] at h4; omega)]
            rfl
        · rw [if_neg (by rw [List.length_drop] at h3; omega)]
          simp only [takes, tk, need8_eq, need16_eq, need32_eq, need1_eq, List.drop_drop, Option.map_some, Option.bind_some, Option.bind_none, Nat.reduceAdd, h0, h1, h2, h3, if_true, if_false, ended]
      · rw [if_neg (by rw [List.length_drop] at h2; omega)]
        simp only [takes, tk, need8_eq, need16_eq, need32_eq, List.drop_drop, Option.map_some, Option.map_none, Option.bind_some, Option.bind_none, Nat.reduceAdd, h0, h1, h2, if_true, if_false, ended]
    · rw [if_neg (by rw [List.length_drop] at h1; omega)]
      simp only [takes, tk, need8_eq, need16_eq, List.drop_drop, Option.map_some, Option.map_none, Option.bind_some, Option.bind_none, Nat.reduceAdd, h0, h1, if_true, if_false, ended]
  · rw [if_neg (by rw [List.length_drop] at h0; omega)]
    simp only [takes, tk, need16_eq, Option.map_none, Option.bind_none, h0, if_false, ended]
set_option maxRecDepth 100000 in
theorem dec_big (s : List UInt8) (h : 1200 < s.length) : dec s = (Dg.zero 0, 72) := by rw [dec, if_pos h]
set_option maxRecDepth 100000 in
theorem dec_magic (s : List UInt8) (hl : ¬ 1200 < s.length) (hm : s.take 3 ≠ magic) : dec s = (Dg.zero 0, 70) := by rw [dec, if_neg hl, if_pos hm]
set_option maxRecDepth 100000 in
theorem dec_none (s : List UInt8) (hl : ¬ 1200 < s.length) (hm : s.take 3 = magic) (hk : kindL s < 1 ∨ 7 < kindL s) : dec s = (Dg.zero 0, 71) := by
  rw [dec, if_neg hl, if_neg (fun q => q hm), if_pos]
  unfold fieldsL
  repeat rw [if_neg (by omega)]
end Go.Proofs.YtkdjcknikhgfkaaGreatDoor.Pk
