import Derived.Test.YtkdjcknikhgfkaaGreatDoorFJ1
import Derived.Test.YtkdjcknikhgfkaaGreatDoorFL1
import Derived.Test.YtkdjcknikhgfkaaGreatDoorX10
namespace Go.Proofs.YtkdjcknikhgfkaaGreatDoor.Pk
open Go Go.RowKit
set_option maxRecDepth 100000 in
theorem need_eq (L : List UInt8) (j : Nat) : need L (j : Int) = if j ≤ L.length then some (L.take j, L.drop j) else none := by
  unfold need
  by_cases h : j ≤ L.length
  · rw [if_pos h, if_neg (by omega), Int.toNat_natCast]
  · rw [if_neg h, if_pos (.inr (by omega))]
set_option maxRecDepth 100000 in
theorem need1_eq (L : List UInt8) : need L 1 = if 1 ≤ L.length then some (L.take 1, L.drop 1) else none := need_eq L 1
set_option maxRecDepth 100000 in
theorem need8_eq (L : List UInt8) : need L 8 = if 8 ≤ L.length then some (L.take 8, L.drop 8) else none := need_eq L 8
set_option maxRecDepth 100000 in
theorem need16_eq (L : List UInt8) : need L 16 = if 16 ≤ L.length then some (L.take 16, L.drop 16) else none := need_eq L 16
set_option maxRecDepth 100000 in
theorem need32_eq (L : List UInt8) : need L 32 = if 32 ≤ L.length then some (L.take 32, L.drop 32) else none := need_eq L 32
set_option maxRecDepth 100000 in
theorem need76_eq (L : List UInt8) : need L 76 = if 76 ≤ L.length then some (L.take 76, L.drop 76) else none := need_eq L 76
set_option maxRecDepth 100000 in
theorem dec_kind (s : List UInt8) (hl : s.length ≤ 1200) (hm : s.take 3 = magic) (hf : fieldsL (kindL s) ≠ []) : dec s = ended (takes (fieldsL (kindL s)) (Dg.zero (kindL s), s.drop 4, false)) := by
  unfold dec
  rw [if_neg (by omega), if_neg (fun h => h hm), if_neg hf]
set_option maxRecDepth 100000 in
theorem dec_1 (s : List UInt8) (hl : s.length ≤ 1200) (hm : s.take 3 = magic) (hk : kindL s = 1) : dec s = if s.length = 96 then (if ((s.drop 20).take 76) = zero76 then ({ Dg.zero 1 with nonce := ba ((s.drop 4).take 16) }, 0) else (Dg.zero 0, 73)) else (Dg.zero 0, 72) := by
  have hf : fieldsL (kindL s) = [.nonce, .zeros] := by rw [hk]; rfl
  rw [dec_kind s hl hm (by rw [hf]; simp), hf, hk]
  have hT : (s.drop 4).length = s.length - 4 := List.length_drop
  by_cases h0 : 16 ≤ (s.drop 4).length
  · skip
    by_cases h1 : 76 ≤ (s.drop 20).length
    · skip
      have hlen : (s.drop 96).length = s.length - 96 := List.length_drop
      simp only [takes, tk, need16_eq, need76_eq, List.drop_drop, Option.map_some, Option.bind_some, Nat.reduceAdd, h0, h1, if_true, Bool.false_or, ended]
      have hge : 96 ≤ s.length := by simp only [List.length_drop] at h0 h1; omega
      by_cases hn : s.length = 96
      · rw [if_pos hn, if_neg (by rw [hlen]; omega)]
        by_cases hc : ((s.drop 20).take 76) = zero76
        · rw [if_pos hc]; simp [hc]
        · rw [if_neg hc]; simp [hc]
      · rw [if_neg hn, if_pos (by rw [hlen]; omega)]
    · have hne : ¬ s.length = 96 := by intro e; apply h1; rw [List.length_drop, e]; decide
      rw [if_neg hne]
      simp only [takes, tk, need16_eq, need76_eq, List.drop_drop, Option.map_some, Option.map_none, Option.bind_some, Option.bind_none, Nat.reduceAdd, h0, h1, if_true, if_false, ended]
  · have hne : ¬ s.length = 96 := by intro e; apply h0; rw [List.length_drop, e]; decide
    rw [if_neg hne]
    simp only [takes, tk, need16_eq, Option.map_none, Option.bind_none, h0, if_false, ended]
set_option maxRecDepth 100000 in
theorem dec_2 (s : List UInt8) (hl : s.length ≤ 1200) (hm : s.take 3 = magic) (hk : kindL s = 2) : dec s = if s.length = 60 then ({ Dg.zero 2 with nonce := ba ((s.drop 4).take 16), epoch := val ((s.drop 20).take 8), cookie := ba ((s.drop 28).take 32) }, 0) else (Dg.zero 0, 72) := by
  have hf : fieldsL (kindL s) = [.nonce, .epoch, .cookie] := by rw [hk]; rfl
  rw [dec_kind s hl hm (by rw [hf]; simp), hf, hk]
  have hT : (s.drop 4).length = s.length - 4 := List.length_drop
  by_cases h0 : 16 ≤ (s.drop 4).length
  · skip
    by_cases h1 : 8 ≤ (s.drop 20).length
    · skip
      by_cases h2 : 32 ≤ (s.drop 28).length
      · skip
        have hlen : (s.drop 60).length = s.length - 60 := List.length_drop
        simp only [takes, tk, need16_eq, need32_eq, need8_eq, List.drop_drop, Option.map_some, Option.bind_some, Nat.reduceAdd, h0, h1, h2, if_true, ended]
        have hge : 60 ≤ s.length := by simp only [List.length_drop] at h0 h1 h2; omega
        by_cases hn : s.length = 60
        · rw [if_pos hn, if_neg (by rw [hlen]; omega)]
          rfl
        · rw [if_neg hn, if_pos (by rw [hlen]; omega)]
      · have hne : ¬ s.length = 60 := by intro e; apply h2; rw [List.length_drop, e]; decide
        rw [if_neg hne]
        simp only [takes, tk, need16_eq, need32_eq, need8_eq, List.drop_drop, Option.map_some, Option.map_none, Option.bind_some, Option.bind_none, Nat.reduceAdd, h0, h1, h2, if_true, if_false, ended]
    · have hne : ¬ s.length = 60 := by intro e; apply h1; rw [List.length_drop, e]; decide
      rw [if_neg hne]
      simp only [takes, tk, need16_eq, need8_eq, List.drop_drop, Option.map_some, Option.map_none, Option.bind_some, Option.bind_none, Nat.reduceAdd, h0, h1, if_true, if_false, ended]
  · have hne : ¬ s.length = 60 := by intro e; apply h0; rw [List.length_drop, e]; decide
    rw [if_neg hne]
    simp only [takes, tk, need16_eq, Option.map_none, Option.bind_none, h0, if_false, ended]
set_option maxRecDepth 100000 in
theorem dec_4 (s : List UInt8) (hl : s.length ≤ 1200) (hm : s.take 3 = magic) (hk : kindL s = 4) : dec s = if s.length = 77 then ({ Dg.zero 4 with nonce := ba ((s.drop 4).take 16), session := val ((s.drop 20).take 8), player := (val ((s.drop 28).take 1) : Nat), salt := ba ((s.drop 29).take 16), tag := ba ((s.drop 45).take 32) }, 0) else (Dg.zero 0, 72) := by
  have hf : fieldsL (kindL s) = [.nonce, .session, .player, .salt, .tag] := by rw [hk]; rfl
  rw [dec_kind s hl hm (by rw [hf]; simp), hf, hk]
  have hT : (s.drop 4).length = s.length - 4 := List.length_drop
  by_cases h0 : 16 ≤ (s.drop 4).length
  · skip
    by_cases h1 : 8 ≤ (s.drop 20).length
    · skip
      by_cases h2 : 1 ≤ (s.drop 28).length
      · skip
        by_cases h3 : 16 ≤ (s.drop 29).length
        · skip
          by_cases h4 : 32 ≤ (s.drop 45).length
          · skip
            have hlen : (s.drop 77).length = s.length - 77 := List.length_drop
            simp only [takes, tk, need16_eq, need1_eq, need32_eq, need8_eq, List.drop_drop, Option.map_some, Option.bind_some, Nat.reduceAdd, h0, h1, h2, h3, h4, if_true, ended]
            have hge : 77 ≤ s.length := by simp only [List.length_drop] at h0 h1 h2 h3 h4; omega
            by_cases hn : s.length = 77
            · rw [if_pos hn, if_neg (by rw [hlen]; omega)]
              rfl
            · rw [if_neg hn, if_pos (by rw [hlen]; omega)]
          · have hne : ¬ s.length = 77 := by intro e; apply h4; rw [List.length_drop, e]; decide
            rw [if_neg hne]
            simp only [takes, tk, need16_eq, need1_eq, need32_eq, need8_eq, List.drop_drop, Option.map_some, Option.map_none, Option.bind_some, Option.bind_none, Nat.reduceAdd, h0, h1, h2, h3, h4, if_true, if_false, ended]
        · have hne : ¬ s.length = 77 := by intro e; apply h3; rw [List.length_drop, e]; decide
          rw [if_neg hne]
          simp only [takes, tk, need16_eq, need1_eq, need8_eq, List.drop_drop, Option.map_some, Option.map_none, Option.bind_some, Option.bind_none, Nat.reduceAdd, h0, h1, h2, h3, if_true, if_false, ended]
      · have hne : ¬ s.length = 77 := by intro e; apply h2; rw [List.length_drop, e]; decide
        rw [if_neg hne]
        simp only [takes, tk, need16_eq, need1_eq, need8_eq, List.drop_drop, Option.map_some, Option.map_none, Option.bind_some, Option.bind_none, Nat.reduceAdd, h0, h1, h2, if_true, if_false, ended]
    · have hne : ¬ s.length = 77 := by intro e; apply h1; rw [List.length_drop, e]; decide
      rw [if_neg hne]
      simp only [takes, tk, need16_eq, need8_eq, List.drop_drop, Option.map_some, Option.map_none, Option.bind_some, Option.bind_none, Nat.reduceAdd, h0, h1, if_true, if_false, ended]
  · have hne : ¬ s.length = 77 := by intro e; apply h0; rw [List.length_drop, e]; decide
    rw [if_neg hne]
    simp only [takes, tk, need16_eq, Option.map_none, Option.bind_none, h0, if_false, ended]
set_option maxRecDepth 100000 in
theorem dec_5 (s : List UInt8) (hl : s.length ≤ 1200) (hm : s.take 3 = magic) (hk : kindL s = 5) : dec s = if s.length = 55 then (if val ((s.drop 22).take 1) ≤ 3 then ({ Dg.zero 5 with session := val ((s.drop 4).take 8), seq := val ((s.drop 12).take 8), thr := sval ((s.drop 20).take 1), turn := sval ((s.drop 21).take 1), fire := decide (val ((s.drop 22).take 1) % 2 = 1), boost := decide (val ((s.drop 22).take 1) / 2 % 2 = 1), tag := ba ((s.drop 23).take 32) }, 0) else (Dg.zero 0, 73)) else (Dg.zero 0, 72) := by
  have hf : fieldsL (kindL s) = [.session, .seq, .thr, .turn, .flags, .tag] := by rw [hk]; rfl
  rw [dec_kind s hl hm (by rw [hf]; simp), hf, hk]
  have hT : (s.drop 4).length = s.length - 4 := List.length_drop
  by_cases h0 : 8 ≤ (s.drop 4).length
  · skip
    by_cases h1 : 8 ≤ (s.drop 12).length
    · skip
      by_cases h2 : 1 ≤ (s.drop 20).length
      · skip
        by_cases h3 : 1 ≤ (s.drop 21).length
        · skip
          by_cases h4 : 1 ≤ (s.drop 22).length
          · skip
            by_cases h5 : 32 ≤ (s.drop 23).length
            · skip
              have hlen : (s.drop 55).length = s.length - 55 := List.length_drop
              simp only [takes, tk, need1_eq, need32_eq, need8_eq, List.drop_drop, Option.map_some, Option.bind_some, Nat.reduceAdd, h0, h1, h2, h3, h4, h5, if_true, Bool.false_or, ended]
              have hge : 55 ≤ s.length := by simp only [List.length_drop] at h0 h1 h2 h3 h4 h5; omega
              by_cases hn : s.length = 55
              · rw [if_pos hn, if_neg (by rw [hlen]; omega)]
                by_cases hc : val ((s.drop 22).take 1) ≤ 3
                · rw [if_pos hc]; simp [hc]
                · rw [if_neg hc]; simp [hc]
              · rw [if_neg hn, if_pos (by rw [hlen]; omega)]
            · have hne : ¬ s.length = 55 := by intro e; apply h5; rw [List.length_drop, e]; decide
              rw [if_neg hne]
              simp only [takes, tk, need1_eq, need32_eq, need8_eq, List.drop_drop, Option.map_some, Option.map_none, Option.bind_some, Option.bind_none, Nat.reduceAdd, h0, h1, h2, h3, h4, h5, if_true, if_false, ended]
          · have hne : ¬ s.length = 55 := by intro e; apply h4; rw [List.length_drop, e]; decide
            rw [if_neg hne]
            simp only [takes, tk, need1_eq, need8_eq, List.drop_drop, Option.map_some, Option.map_none, Option.bind_some, Option.bind_none, Nat.reduceAdd, h0, h1, h2, h3, h4, if_true, if_false, ended]
        · have hne : ¬ s.length = 55 := by intro e; apply h3; rw [List.length_drop, e]; decide
          rw [if_neg hne]
          simp only [takes, tk, need1_eq, need8_eq, List.drop_drop, Option.map_some, Option.map_none, Option.bind_some, Option.bind_none, Nat.reduceAdd, h0, h1, h2, h3, if_true, if_false, ended]
      · have hne : ¬ s.length = 55 := by intro e; apply h2; rw [List.length_drop, e]; decide
        rw [if_neg hne]
        simp only [takes, tk, need1_eq, need8_eq, List.drop_drop, Option.map_some, Option.map_none, Option.bind_some, Option.bind_none, Nat.reduceAdd, h0, h1, h2, if_true, if_false, ended]
    · have hne : ¬ s.length = 55 := by intro e; apply h1; rw [List.length_drop, e]; decide
      rw [if_neg hne]
      simp only [takes, tk, need8_eq, List.drop_drop, Option.map_some, Option.map_none, Option.bind_some, Option.bind_none, Nat.reduceAdd, h0, h1, if_true, if_false, ended]
  · have hne : ¬ s.length = 55 := by intro e; apply h0; rw [List.length_drop, e]; decide
    rw [if_neg hne]
    simp only [takes, tk, need8_eq, Option.map_none, Option.bind_none, h0, if_false, ended]
set_option maxRecDepth 100000 in
theorem dec_7 (s : List UInt8) (hl : s.length ≤ 1200) (hm : s.take 3 = magic) (hk : kindL s = 7) : dec s = if s.length = 52 then ({ Dg.zero 7 with session := val ((s.drop 4).take 8), seq := val ((s.drop 12).take 8), tag := ba ((s.drop 20).take 32) }, 0) else (Dg.zero 0, 72) := by
  have hf : fieldsL (kindL s) = [.session, .seq, .tag] := by rw [hk]; rfl
  rw [dec_kind s hl hm (by rw [hf]; simp), hf, hk]
  have hT : (s.drop 4).length = s.length - 4 := List.length_drop
  by_cases h0 : 8 ≤ (s.drop 4).length
  · skip
    by_cases h1 : 8 ≤ (s.drop 12).length
    · skip
      by_cases h2 : 32 ≤ (s.drop 20).length
      · skip
        have hlen : (s.drop 52).length = s.length - 52 := List.length_drop
        simp only [takes, tk, need32_eq, need8_eq, List.drop_drop, Option.map_some, Option.bind_some, Nat.reduceAdd, h0, h1, h2, if_true, ended]
        have hge : 52 ≤ s.length := by simp only [List.length_drop] at h0 h1 h2; omega
        by_cases hn : s.length = 52
        · rw [if_pos hn, if_neg (by rw [hlen]; omega)]
          rfl
        · rw [if_neg hn, if_pos (by rw [hlen]; omega)]
      · have hne : ¬ s.length = 52 := by intro e; apply h2; rw [List.length_drop, e]; decide
        rw [if_neg hne]
        simp only [takes, tk, need32_eq, need8_eq, List.drop_drop, Option.map_some, Option.map_none, Option.bind_some, Option.bind_none, Nat.reduceAdd, h0, h1, h2, if_true, if_false, ended]
    · have hne : ¬ s.length = 52 := by intro e; apply h1; rw [List.length_drop, e]; decide
      rw [if_neg hne]
      simp only [takes, tk, need8_eq, List.drop_drop, Option.map_some, Option.map_none, Option.bind_some, Option.bind_none, Nat.reduceAdd, h0, h1, if_true, if_false, ended]
  · have hne : ¬ s.length = 52 := by intro e; apply h0; rw [List.length_drop, e]; decide
    rw [if_neg hne]
    simp only [takes, tk, need8_eq, Option.map_none, Option.bind_none, h0, if_false, ended]
end Go.Proofs.YtkdjcknikhgfkaaGreatDoor.Pk

namespace Go.Proofs.YtkdjcknikhgfkaaGreatDoor.Pk
open Go Go.RowKit
set_option maxRecDepth 100000 in
theorem dec_6 (s : List UInt8) (hl : s.length ≤ 1200) (hm : s.take 3 = magic) (hk : kindL s = 6) : dec s = if 52 ≤ s.length then ({ Dg.zero 6 with session := val ((s.drop 4).take 8), seq := val ((s.drop 12).take 8), data := ba ((s.drop 20).take (s.length - 52)), tag := ba (s.drop (s.length - 32)) }, 0) else (Dg.zero 0, 72) := by
  have hf : fieldsL (kindL s) = [.session, .seq, .view, .tag] := by rw [hk]; rfl
  rw [dec_kind s hl hm (by rw [hf]; simp), hf, hk]
  by_cases h0 : 8 ≤ (s.drop 4).length
  · by_cases h1 : 8 ≤ (s.drop 12).length
    · simp only [takes, tk, need8_eq, List.drop_drop, Option.map_some, Option.bind_some, Nat.reduceAdd, h0, h1, if_true]
      by_cases h2 : 52 ≤ s.length
      · have e : ((s.drop 20).length : Int) - 32 = ((s.length - 52 : Nat) : Int) := by rw [List.length_drop]; omega
        rw [if_pos h2, e, need_eq, if_pos (by rw [List.length_drop]; omega)]
        simp only [Option.map_some, Option.bind_some, List.drop_drop]
        rw [need32_eq, show 20 + (s.length - 52) = s.length - 32 by omega, if_pos (by rw [List.length_drop]; omega)]
        have e2 : (s.drop (s.length - 32)).take 32 = s.drop (s.length - 32) := List.take_of_length_le (by rw [List.length_drop]; omega)
        simp only [Option.map_some, Option.bind_some, List.drop_drop, ended, e2]
        rw [if_neg (by rw [List.length_drop]; omega)]
        rfl
      · rw [if_neg h2, need, if_pos (.inl (by rw [List.length_drop]; omega))]
        rfl
    · rw [if_neg (by rw [List.length_drop] at h1; omega)]
      simp only [takes, tk, need8_eq, List.drop_drop, Option.map_some, Option.map_none, Option.bind_some, Option.bind_none, Nat.reduceAdd, h0, h1, if_true, if_false, ended]
  · rw [if_neg (by rw [List.length_drop] at h0; omega)]
    simp only [takes, tk, need8_eq, Option.map_none, Option.bind_none, h0, if_false, ended]
set_option maxRecDepth 100000 in
theorem dec_3 (s : List UInt8) (hl : s.length ≤ 1200) (hm : s.take 3 = magic) (hk : kindL s = 3) : dec s = if 93 ≤ s.length ∧ s.length = 93 + (s.getD 60 0).toNat then ({ Dg.zero 3 with nonce := ba ((s.drop 4).take 16), epoch := val ((s.drop 20).take 8), cookie := ba ((s.drop 28).take 32), name := ba ((s.drop 61).take (s.length - 93)), tag := ba (s.drop (s.length - 32)) }, 0) else (Dg.zero 0, 72) := by
  have hf : fieldsL (kindL s) = [.nonce, .epoch, .cookie, .name, .tag] := by rw [hk]; rfl
  rw [dec_kind s hl hm (by rw [hf]; simp), hf, hk]
  by_cases h0 : 16 ≤ (s.drop 4).length
  · by_cases h1 : 8 ≤ (s.drop 20).length
    · by_cases h2 : 32 ≤ (s.drop 28).length
      · by_cases h3 : 1 ≤ (s.drop 60).length
        · simp only [takes, tk, need8_eq, need16_eq, need32_eq, need1_eq, List.drop_drop, Option.map_some, Option.bind_some, Nat.reduceAdd, h0, h1, h2, h3, if_true]
          have hv : val ((s.drop 60).take 1) = (s.getD 60 0).toNat := by
            have hlt : 60 < s.length := by rw [List.length_drop] at h3; omega
            obtain ⟨y, hy⟩ : ∃ y, s[60]? = some y := ⟨_, List.getElem?_eq_getElem hlt⟩
            have e : s.drop 60 = y :: s.drop 61 := by
              rw [List.drop_eq_getElem_cons hlt]
              congr 1
              rw [List.getElem?_eq_getElem hlt] at hy
              exact Option.some.inj hy
            rw [e]
            simp [val, List.getD, hy]
          rw [hv]
          generalize (s.getD 60 0).toNat = v at *
          rw [need_eq]
          by_cases h4 : v ≤ (s.drop 61).length
          · rw [if_pos h4]
            simp only [Option.map_some, Option.bind_some, List.drop_drop]
            by_cases h5 : 32 ≤ (s.drop (61 + v)).length
            · rw [if_pos h5]
              simp only [Option.map_some, Option.bind_some, ended]
              simp only [List.length_drop] at h4 h5
              by_cases hc : s.length = 93 + v
              · have e2 : (s.drop (61 + v)).take 32 = s.drop (s.length - 32) := by
                  rw [show 61 + v = s.length - 32 by omega]
                  exact List.take_of_length_le (by rw [List.length_drop]; omega)
                rw [if_neg (by rw [List.length_drop]; omega), if_neg Bool.false_ne_true, if_pos ⟨by omega, hc⟩, e2, show s.length - 93 = v by omega]
              · rw [if_pos (by rw [List.length_drop]; omega), if_neg (fun q => hc q.2)]
            · rw [if_neg h5, if_neg (by rw [List.length_drop] at h5; omega)]
              rfl
          · rw [if_neg h4, if_neg (by rw [List.length_drop] at h4; omega)]
            rfl
        · rw [if_neg (by rw [List.length_drop] at h3; omega)]
          simp only [takes, tk, need8_eq, need16_eq, need32_eq, need1_eq, List.drop_drop, Option.map_some, Option.bind_some, Option.bind_none, Nat.reduceAdd, h0, h1, h2, h3, if_true, if_false, ended]
      · rw [if_neg (by rw [List.length_drop] at h2; omega)]
        simp only [takes, tk, need8_eq, need16_eq, need32_eq, List.drop_drop, Option.map_some, Option.map_none, Option.bind_some, Option.bind_none, Nat.reduceAdd, h0, h1, h2, if_true, if_false, ended]
    · rw [if_neg (by rw [List.length_drop] at h1; omega)]
      simp only [takes, tk, need8_eq, need16_eq, List.drop_drop, Option.map_some, Option.map_none, Option.bind_some, Option.bind_none, Nat.reduceAdd, h0, h1, if_true, if_false, ended]
  · rw [if_neg (by rw [List.length_drop] at h0; omega)]
    simp only [takes, tk, need16_eq, Option.map_none, Option.bind_none, h0, if_false, ended]
set_option maxRecDepth 100000 in
theorem dec_big (s : List UInt8) (h : 1200 < s.length) : dec s = (Dg.zero 0, 72) := by rw [dec, if_pos h]
set_option maxRecDepth 100000 in
theorem dec_magic (s : List UInt8) (hl : ¬ 1200 < s.length) (hm : s.take 3 ≠ magic) : dec s = (Dg.zero 0, 70) := by rw [dec, if_neg hl, if_pos hm]
set_option maxRecDepth 100000 in
theorem dec_none (s : List UInt8) (hl : ¬ 1200 < s.length) (hm : s.take 3 = magic) (hk : kindL s < 1 ∨ 7 < kindL s) : dec s = (Dg.zero 0, 71) := by
  rw [dec, if_neg hl, if_neg (fun q => q hm), if_pos]
  unfold fieldsL
  repeat rw [if_neg (by omega)]
end Go.Proofs.YtkdjcknikhgfkaaGreatDoor.Pk

namespace Go.Proofs.YtkdjcknikhgfkaaGreatDoor.Pk
open Go Go.RowKit
set_option maxHeartbeats 4000000 in
set_option maxRecDepth 100000 in
theorem rbody_c (s : ByteArray) (w : World) (hs : s.size ≤ 281474976710656) :
    Calls Tryz.prog 75 #[.string s] w fun e w' => e = .returned (.string (bodyB s)) ∧ w' = w := by
  by_cases h36 : s.size < 36
  · have hb : bodyB s = nob := by rw [bodyB, bodyL, if_pos (.inl (by rw [sl_len]; exact h36))]; rfl
    rw [hb]
    have hd : decide ((s.size : Int) < 36) = true := decide_eq_true (by omega)
    have hd2 : (s.size : Int) < 36 := by omega
    unfold nob
    go_enter Tryz.func75, Tryz.ntmps75
    go_wp2_with fail
    go_ret
    exact ⟨rfl, rfl⟩
  · have hd : decide ((s.size : Int) < 36) = false := decide_eq_false (by omega)
    have hd2 : ¬ (s.size : Int) < 36 := by omega
    have i3 : (3 : Int) ≤ (s.size : Int) := by omega
    obtain ⟨Y3, hY3⟩ : ∃ Y, s.extract 0 3 = Y := ⟨_, rfl⟩
    have s3 : sl Y3 = (sl s).take 3 := by rw [← hY3, ext_to]; exact sl_mk _
    have hl3 : 3 < s.size := by omega
    obtain ⟨y, hy⟩ : ∃ y, (sl s)[3]? = some y := ⟨_, List.getElem?_eq_getElem (by rw [sl_len]; exact hl3)⟩
    have ix : ∀ W, (Instr.index 9 (.string s) (.int .i64 3)).run Tryz.prog W = .ok (.int .u8 y.toNat) W := fun W => idx9 s 3 y hl3 hy W
    have hkd : (sl s).take 3 = magic → kindL (sl s) = (y.toNat : Int) := fun q => by
      rw [kindL, if_neg (by rw [sl_len]; simp [q]; omega)]
      simp [List.getD, hy]
    have hyl := UInt8.toNat_lt y
    by_cases hm : (sl s).take 3 = magic
    · have e3 : Y3 = { data := #[74, 48, 49] } := by
        apply sl_inj; rw [s3, hm]; rfl
      subst e3
      have hk := hkd hm
      obtain ⟨z, hz⟩ : ∃ z : Int, (y.toNat : Int) = z := ⟨_, rfl⟩
      rw [hz] at hk
      have ix2 : ∀ W, (Instr.index 9 (.string s) (.int .i64 3)).run Tryz.prog W = .ok (.int .u8 z) W := fun W => by rw [ix W, hz]
      have z0 : 0 ≤ z := by omega
      have z1 : z ≤ 255 := by omega
      clear ix hz hkd
      by_cases k3 : z < 3
      · have hb : bodyB s = nob := by rw [bodyB, bodyL, if_pos (.inr (by rw [hk]; omega))]; rfl
        rw [hb]
        unfold nob
        clear hb hk hm s3
        go_enter Tryz.func75, Tryz.ntmps75
        go_wp2_with fail
        go_ret
        exact ⟨rfl, rfl⟩
      · by_cases k7 : 7 < z
        · have hb : bodyB s = nob := by rw [bodyB, bodyL, if_pos (.inr (by rw [hk]; omega))]; rfl
          rw [hb]
          unfold nob
          clear hb hk hm s3
          go_enter Tryz.func75, Tryz.ntmps75
          go_wp2_with fail
          go_ret
          exact ⟨rfl, rfl⟩
        · obtain ⟨m, hmm⟩ : ∃ m, s.size - 32 = m := ⟨_, rfl⟩
          have hb : bodyB s = s.extract 0 m := by rw [bodyB, bodyL, if_neg (by rw [hk, sl_len]; omega), ext_to, sl_len, hmm]
          have wm : IntKind.i64.wrap ((s.size : Int) - 32) = (m : Int) := by rw [show (s.size : Int) - 32 = (m : Int) by omega]; exact IntWalk.i64_in _ (by omega)
          have m0 : (0 : Int) ≤ (m : Int) := by omega
          have m1 : (m : Int) ≤ (s.size : Int) := by omega
          rw [hb]
          clear hb hk hm s3 hmm
          go_enter Tryz.func75, Tryz.ntmps75
          go_wp2_with fail
          go_ret
          exact ⟨rfl, rfl⟩
    · have hb : bodyB s = nob := by
        have hk : kindL (sl s) = 0 := by rw [kindL, if_pos (.inr hm)]
        rw [bodyB, bodyL, if_pos (.inr (by rw [hk]; omega))]; rfl
      have e1 : (Y3.toList == ({ data := #[74, 48, 49] } : ByteArray).toList) = false := by
        rw [beqL]
        exact decide_eq_false (fun q => hm (by rw [← s3]; exact q))
      have e2 : (Y3.toList != ({ data := #[74, 48, 49] } : ByteArray).toList) = true := by simp only [bne, e1]; rfl
      have e0 : ({ data := #[74, 48, 49] } : ByteArray).toList = [74, 48, 49] := by rw [ByteArray.toList_eq]
      rw [e0] at e1 e2
      have e4 : ¬ Y3.toList = [74, 48, 49] := fun q => by rw [q] at e1; simp at e1
      have e3 : ¬ Y3 = { data := #[74, 48, 49] } := fun q => hm (by rw [← s3, q]; rfl)
      rw [hb]
      unfold nob
      clear hb hm s3 hkd hyl
      go_enter Tryz.func75, Tryz.ntmps75
      go_wp2_with fail
      go_ret
      exact ⟨rfl, rfl⟩
end Go.Proofs.YtkdjcknikhgfkaaGreatDoor.Pk

