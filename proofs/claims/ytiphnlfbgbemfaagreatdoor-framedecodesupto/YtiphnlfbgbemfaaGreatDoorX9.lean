import Derived.Test.YtiphnlfbgbemfaaGreatDoorX8
import Derived.Test.YtiphnlfbgbemfaaGreatDoorX7
import Derived.Test.YtiphnlfbgbemfaaGreatDoorX5
import Derived.Laws.StructEq
import Derived.Test.YtiphnlfbgbemfaaGreatDoorX4
import Derived.Test.YtiphnlfbgbemfaaGreatDoorX1
/- Decode over lists, kind by kind -/
namespace Go.Proofs.YtiphnlfbgbemfaaGreatDoor.Pk
open Go Go.RowKit
theorem need_eq (L : List UInt8) (j : Nat) : need L (j : Int) = if j ≤ L.length then some (L.take j, L.drop j) else none := by
  unfold need
  by_cases h : j ≤ L.length
  · rw [if_pos h, if_neg (by omega), Int.toNat_natCast]
  · rw [if_neg h, if_pos (.inr (by omega))]
theorem need1_eq (L : List UInt8) : need L 1 = if 1 ≤ L.length then some (L.take 1, L.drop 1) else none := need_eq L 1
theorem need8_eq (L : List UInt8) : need L 8 = if 8 ≤ L.length then some (L.take 8, L.drop 8) else none := need_eq L 8
theorem need16_eq (L : List UInt8) : need L 16 = if 16 ≤ L.length then some (L.take 16, L.drop 16) else none := need_eq L 16
theorem need32_eq (L : List UInt8) : need L 32 = if 32 ≤ L.length then some (L.take 32, L.drop 32) else none := need_eq L 32
theorem need76_eq (L : List UInt8) : need L 76 = if 76 ≤ L.length then some (L.take 76, L.drop 76) else none := need_eq L 76
theorem dec_kind (s : List UInt8) (hl : s.length ≤ 1200) (hm : s.take 3 = magic) (hf : fieldsL (kindL s) ≠ []) : dec s = ended (takes (fieldsL (kindL s)) (Dg.zero (kindL s), s.drop 4, false)) := by
  unfold dec
  rw [if_neg (by omega), if_neg (fun h => h hm), if_neg hf]
theorem dec_1 (s : List UInt8) (hl : s.length ≤ 1200) (hm : s.take 3 = magic) (hk : kindL s = 1) : dec s = if s.length = 96 then (if ((s.drop 20).take 76) = zero76 then ({ Dg.zero 1 with nonce := ba ((s.drop 4).take 16) }, 0) else (Dg.zero 0, 73)) else (Dg.zero 0, 72) := by
  have hf : fieldsL (kindL s) = [.nonce, .zeros] := by rw [hk]; rfl
  rw [dec_kind s hl hm (by rw [hf]; simp), hf, hk]
  have hT : (s.drop 4).length = s.length - 4 := List.length_drop
  by_cases h0 : 16 ≤ (s.drop 4).length
  · skip
    by_cases h1 : 76 ≤ (s.drop 20).length
    · skip
      have hlen : (s.drop 96).length = s.length - 96 := List.length_drop
      simp only [takes, tk, need16_eq, need76_eq, List.drop_drop, Option.map_some, Option.bind_some, Nat.reduceAdd, h0, h1, if_true, Bool.false_or, ended]
      have hge : 96 ≤ s.length := by simp only [List.length_drop] at h0 h1; omega
      by_cases hn : s.length = 96
      · rw [if_pos hn, if_neg (by rw [hlen]; omega)]
        by_cases hc : ((s.drop 20).take 76) = zero76
        · rw [if_pos hc]; simp [hc]
        · rw [if_neg hc]; simp [hc]
      · rw [if_neg hn, if_pos (by rw [hlen]; omega)]
    · have hne : ¬ s.length = 96 := by intro e; apply h1; rw [List.length_drop, e]; decide
      rw [if_neg hne]
      simp only [takes, tk, need16_eq, need76_eq, List.drop_drop, Option.map_some, Option.map_none, Option.bind_some, Option.bind_none, Nat.reduceAdd, h0, h1, if_true, if_false, ended]
  · have hne : ¬ s.length = 96 := by intro e; apply h0; rw [List.length_drop, e]; decide
    rw [if_neg hne]
    simp only [takes, tk, need16_eq, Option.map_none, Option.bind_none, h0, if_false, ended]
theorem dec_2 (s : List UInt8) (hl : s.length ≤ 1200) (hm : s.take 3 = magic) (hk : kindL s = 2) : dec s = if s.length = 60 then ({ Dg.zero 2 with nonce := ba ((s.drop 4).take 16), epoch := val ((s.drop 20).take 8), cookie := ba ((s.drop 28).take 32) }, 0) else (Dg.zero 0, 72) := by
  have hf : fieldsL (kindL s) = [.nonce, .epoch, .cookie] := by rw [hk]; rfl
  rw [dec_kind s hl hm (by rw [hf]; simp), hf, hk]
  have hT : (s.drop 4).length = s.length - 4 := List.length_drop
  by_cases h0 : 16 ≤ (s.drop 4).length
  · skip
    by_cases h1 : 8 ≤ (s.drop 20).length
    · skip
      by_cases h2 : 32 ≤ (s.drop 28).length
      · skip
        have hlen : (s.drop 60).length = s.length - 60 := List.length_drop
        simp only [takes, tk, need16_eq, need32_eq, need8_eq, List.drop_drop, Option.map_some, Option.bind_some, Nat.reduceAdd, h0, h1, h2, if_true, ended]
        have hge : 60 ≤ s.length := by simp only [List.length_drop] at h0 h1 h2; omega
        by_cases hn : s.length = 60
        · rw [if_pos hn, if_neg (by rw [hlen]; omega)]
          rfl
        · rw [if_neg hn, if_pos (by rw [hlen]; omega)]
      · have hne : ¬ s.length = 60 := by intro e; apply h2; rw [List.length_drop, e]; decide
        rw [if_neg hne]
        simp only [takes, tk, need16_eq, need32_eq, need8_eq, List.drop_drop, Option.map_some, Option.map_none, Option.bind_some, Option.bind_none, Nat.reduceAdd, h0, h1, h2, if_true, if_false, ended]
    · have hne : ¬ s.length = 60 := by intro e; apply h1; rw [List.length_drop, e]; decide
      rw [if_neg hne]
      simp only [takes, tk, need16_eq, need8_eq, List.drop_drop, Option.map_some, Option.map_none, Option.bind_some, Option.bind_none, Nat.reduceAdd, h0, h1, if_true, if_false, ended]
  · have hne : ¬ s.length = 60 := by intro e; apply h0; rw [List.length_drop, e]; decide
    rw [if_neg hne]
    simp only [takes, tk, need16_eq, Option.map_none, Option.bind_none, h0, if_false, ended]
theorem dec_4 (s : List UInt8) (hl : s.length ≤ 1200) (hm : s.take 3 = magic) (hk : kindL s = 4) : dec s = if s.length = 77 then ({ Dg.zero 4 with nonce := ba ((s.drop 4).take 16), session := val ((s.drop 20).take 8), player := (val ((s.drop 28).take 1) : Nat), salt := ba ((s.drop 29).take 16), tag := ba ((s.drop 45).take 32) }, 0) else (Dg.zero 0, 72) := by
  have hf : fieldsL (kindL s) = [.nonce, .session, .player, .salt, .tag] := by rw [hk]; rfl
  rw [dec_kind s hl hm (by rw [hf]; simp), hf, hk]
  have hT : (s.drop 4).length = s.length - 4 := List.length_drop
  by_cases h0 : 16 ≤ (s.drop 4).length
  · skip
    by_cases h1 : 8 ≤ (s.drop 20).length
    · skip
      by_cases h2 : 1 ≤ (s.drop 28).length
      · skip
        by_cases h3 : 16 ≤ (s.drop 29).length
        · skip
          by_cases h4 : 32 ≤ (s.drop 45).length
          · skip
            have hlen : (s.drop 77).length = s.length - 77 := List.length_drop
            simp only [takes, tk, need16_eq, need1_eq, need32_eq, need8_eq, List.drop_drop, Option.map_some, Option.bind_some, Nat.reduceAdd, h0, h1, h2, h3, h4, if_true, ended]
            have hge : 77 ≤ s.length := by simp only [List.length_drop] at h0 h1 h2 h3 h4; omega
            by_cases hn : s.length = 77
            · rw [if_pos hn, if_neg (by rw [hlen]; omega)]
              rfl
            · rw [if_neg hn, if_pos (by rw [hlen]; omega)]
          · have hne : ¬ s.length = 77 := by intro e; apply h4; rw [List.length_drop, e]; decide
            rw [if_neg hne]
            simp only [takes, tk, need16_eq, need1_eq, need32_eq, need8_eq, List.drop_drop, Option.map_some, Option.map_none, Option.bind_some, Option.bind_none, Nat.reduceAdd, h0, h1, h2, h3, h4, if_true, if_false, ended]
        · have hne : ¬ s.length = 77 := by intro e; apply h3; rw [List.length_drop, e]; decide
          rw [if_neg hne]
          simp only [takes, tk, need16_eq, need1_eq, need8_eq, List.drop_drop, Option.map_some, Option.map_none, Option.bind_some, Option.bind_none, Nat.reduceAdd, h0, h1, h2, h3, if_true, if_false, ended]
      · have hne : ¬ s.length = 77 := by intro e; apply h2; rw [List.length_drop, e]; decide
        rw [if_neg hne]
        simp only [takes, tk, need16_eq, need1_eq, need8_eq, List.drop_drop, Option.map_some, Option.map_none, Option.bind_some, Option.bind_none, Nat.reduceAdd, h0, h1, h2, if_true, if_false, ended]
    · have hne : ¬ s.length = 77 := by intro e; apply h1; rw [List.length_drop, e]; decide
      rw [if_neg hne]
      simp only [takes, tk, need16_eq, need8_eq, List.drop_drop, Option.map_some, Option.map_none, Option.bind_some, Option.bind_none, Nat.reduceAdd, h0, h1, if_true, if_false, ended]
  · have hne : ¬ s.length = 77 := by intro e; apply h0; rw [List.length_drop, e]; decide
    rw [if_neg hne]
    simp only [takes, tk, need16_eq, Option.map_none, Option.bind_none, h0, if_false, ended]
theorem dec_5 (s : List UInt8) (hl : s.length ≤ 1200) (hm : s.take 3 = magic) (hk : kindL s = 5) : dec s = if s.length = 55 then (if val ((s.drop 22).take 1) ≤ 3 then ({ Dg.zero 5 with session := val ((s.drop 4).take 8), seq := val ((s.drop 12).take 8), thr := sval ((s.drop 20).take 1), turn := sval ((s.drop 21).take 1), fire := decide (val ((s.drop 22).take 1) % 2 = 1), boost := decide (val ((s.drop 22).take 1) / 2 % 2 = 1), tag := ba ((s.drop 23).take 32) }, 0) else (Dg.zero 0, 73)) else (Dg.zero 0, 72) := by
  have hf : fieldsL (kindL s) = [.session, .seq, .thr, .turn, .flags, .tag] := by rw [hk]; rfl
  rw [dec_kind s hl hm (by rw [hf]; simp), hf, hk]
  have hT : (s.drop 4).length = s.length - 4 := List.length_drop
  by_cases h0 : 8 ≤ (s.drop 4).length
  · skip
    by_cases h1 : 8 ≤ (s.drop 12).length
    · skip
      by_cases h2 : 1 ≤ (s.drop 20).length
      · skip
        by_cases h3 : 1 ≤ (s.drop 21).length
        · skip
          by_cases h4 : 1 ≤ (s.drop 22).length
          · skip
            by_cases h5 : 32 ≤ (s.drop 23).length
            · skip
              have hlen : (s.drop 55).length = s.length - 55 := List.length_drop
              simp only [takes, tk, need1_eq, need32_eq, need8_eq, List.drop_drop, Option.map_some, Option.bind_some, Nat.reduceAdd, h0, h1, h2, h3, h4, h5, if_true, Bool.false_or, ended]
              have hge : 55 ≤ s.length := by simp only [List.length_drop] at h0 h1 h2 h3 h4 h5; omega
              by_cases hn : s.length = 55
              · rw [if_pos hn, if_neg (by rw [hlen]; omega)]
                by_cases hc : val ((s.drop 22).take 1) ≤ 3
                · rw [if_pos hc]; simp [hc]
                · rw [if_neg hc]; simp [hc]
              · rw [if_neg hn, if_pos (by rw [hlen]; omega)]
            · have hne : ¬ s.length = 55 := by intro e; apply h5; rw [List.length_drop, e]; decide
              rw [if_neg hne]
              simp only [takes, tk, need1_eq, need32_eq, need8_eq, List.drop_drop, Option.map_some, Option.map_none, Option.bind_some, Option.bind_none, Nat.reduceAdd, h0, h1, h2, h3, h4, h5, if_true, if_false, ended]
          · have hne : ¬ s.length = 55 := by intro e; apply h4; rw [List.length_drop, e]; decide
            rw [if_neg hne]
            simp only [takes, tk, need1_eq, need8_eq, List.drop_drop, Option.map_some, Option.map_none, Option.bind_some, Option.bind_none, Nat.reduceAdd, h0, h1, h2, h3, h4, if_true, if_false, ended]
        · have hne : ¬ s.length = 55 := by intro e; apply h3; rw [List.length_drop, e]; decide
          rw [if_neg hne]
          simp only [takes, tk, need1_eq, need8_eq, List.drop_drop, Option.map_some, Option.map_none, Option.bind_some, Option.bind_none, Nat.reduceAdd, h0, h1, h2, h3, if_true, if_false, ended]
      · have hne : ¬ s.length = 55 := by intro e; apply h2; rw [List.length_drop, e]; decide
        rw [if_neg hne]
        simp only [takes, tk, need1_eq, need8_eq, List.drop_drop, Option.map_some, Option.map_none, Option.bind_some, Option.bind_none, Nat.reduceAdd, h0, h1, h2, if_true, if_false, ended]
    · have hne : ¬ s.length = 55 := by intro e; apply h1; rw [List.length_drop, e]; decide
      rw [if_neg hne]
      simp only [takes, tk, need8_eq, List.drop_drop, Option.map_some, Option.map_none, Option.bind_some, Option.bind_none, Nat.reduceAdd, h0, h1, if_true, if_false, ended]
  · have hne : ¬ s.length = 55 := by intro e; apply h0; rw [List.length_drop, e]; decide
    rw [if_neg hne]
    simp only [takes, tk, need8_eq, Option.map_none, Option.bind_none, h0, if_false, ended]
theorem dec_7 (s : List UInt8) (hl : s.length ≤ 1200) (hm : s.take 3 = magic) (hk : kindL s = 7) : dec s = if s.length = 52 then ({ Dg.zero 7 with session := val ((s.drop 4).take 8), seq := val ((s.drop 12).take 8), tag := ba ((s.drop 20).take 32) }, 0) else (Dg.zero 0, 72) := by
  have hf : fieldsL (kindL s) = [.session, .seq, .tag] := by rw [hk]; rfl
  rw [dec_kind s hl hm (by rw [hf]; simp), hf, hk]
  have hT : (s.drop 4).length = s.length - 4 := List.length_drop
  by_cases h0 : 8 ≤ (s.drop 4).length
  · skip
    by_cases h1 : 8 ≤ (s.drop 12).length
    · skip
      by_cases h2 : 32 ≤ (s.drop 20).length
      · skip
        have hlen : (s.drop 52).length = s.length - 52 := List.length_drop
        simp only [takes, tk, need32_eq, need8_eq, List.drop_drop, Option.map_some, Option.bind_some, Nat.reduceAdd, h0, h1, h2, if_true, ended]
        have hge : 52 ≤ s.length := by simp only [List.length_drop] at h0 h1 h2; omega
        by_cases hn : s.length = 52
        · rw [if_pos hn, if_neg (by rw [hlen]; omega)]
          rfl
        · rw [if_neg hn, if_pos (by rw [hlen]; omega)]
      · have hne : ¬ s.length = 52 := by intro e; apply h2; rw [List.length_drop, e]; decide
        rw [if_neg hne]
        simp only [takes, tk, need32_eq, need8_eq, List.drop_drop, Option.map_some, Option.map_none, Option.bind_some, Option.bind_none, Nat.reduceAdd, h0, h1, h2, if_true, if_false, ended]
    · have hne : ¬ s.length = 52 := by intro e; apply h1; rw [List.length_drop, e]; decide
      rw [if_neg hne]
      simp only [takes, tk, need8_eq, List.drop_drop, Option.map_some, Option.map_none, Option.bind_some, Option.bind_none, Nat.reduceAdd, h0, h1, if_true, if_false, ended]
  · have hne : ¬ s.length = 52 := by intro e; apply h0; rw [List.length_drop, e]; decide
    rw [if_neg hne]
    simp only [takes, tk, need8_eq, Option.map_none, Option.bind_none, h0, if_false, ended]
end Go.Proofs.YtiphnlfbgbemfaaGreatDoor.Pk

/- Decode over lists: the third and the sixth kind; what does not begin well -/
namespace Go.Proofs.YtiphnlfbgbemfaaGreatDoor.Pk
open Go Go.RowKit
theorem dec_6 (s : List UInt8) (hl : s.length ≤ 1200) (hm : s.take 3 = magic) (hk : kindL s = 6) : dec s = if 52 ≤ s.length then ({ Dg.zero 6 with session := val ((s.drop 4).take 8), seq := val ((s.drop 12).take 8), data := ba ((s.drop 20).take (s.length - 52)), tag := ba (s.drop (s.length - 32)) }, 0) else (Dg.zero 0, 72) := by
  have hf : fieldsL (kindL s) = [.session, .seq, .view, .tag] := by rw [hk]; rfl
  rw [dec_kind s hl hm (by rw [hf]; simp), hf, hk]
  by_cases h0 : 8 ≤ (s.drop 4).length
  · by_cases h1 : 8 ≤ (s.drop 12).length
    · simp only [takes, tk, need8_eq, List.drop_drop, Option.map_some, Option.bind_some, Nat.reduceAdd, h0, h1, if_true]
      by_cases h2 : 52 ≤ s.length
      · have e : ((s.drop 20).length : Int) - 32 = ((s.length - 52 : Nat) : Int) := by rw [List.length_drop]; omega
        rw [if_pos h2, e, need_eq, if_pos (by rw [List.length_drop]; omega)]
        simp only [Option.map_some, Option.bind_some, List.drop_drop]
        rw [need32_eq, show 20 + (s.length - 52) = s.length - 32 by omega, if_pos (by rw [List.length_drop]; omega)]
        have e2 : (s.drop (s.length - 32)).take 32 = s.drop (s.length - 32) := List.take_of_length_le (by rw [List.length_drop]; omega)
        simp only [Option.map_some, Option.bind_some, List.drop_drop, ended, e2]
        rw [if_neg (by rw [List.length_drop]; omega)]
        rfl
      · rw [if_neg h2, need, if_pos (.inl (by rw [List.length_drop]; omega))]
        rfl
    · rw [if_neg (by rw [List.length_drop] at h1; omega)]
      simp only [takes, tk, need8_eq, List.drop_drop, Option.map_some, Option.map_none, Option.bind_some, Option.bind_none, Nat.reduceAdd, h0, h1, if_true, if_false, ended]
  · rw [if_neg (by rw [List.length_drop] at h0; omega)]
    simp only [takes, tk, need8_eq, Option.map_none, Option.bind_none, h0, if_false, ended]
theorem dec_3 (s : List UInt8) (hl : s.length ≤ 1200) (hm : s.take 3 = magic) (hk : kindL s = 3) : dec s = if 93 ≤ s.length ∧ s.length = 93 + (s.getD 60 0).toNat then ({ Dg.zero 3 with nonce := ba ((s.drop 4).take 16), epoch := val ((s.drop 20).take 8), cookie := ba ((s.drop 28).take 32), name := ba ((s.drop 61).take (s.length - 93)), tag := ba (s.drop (s.length - 32)) }, 0) else (Dg.zero 0, 72) := by
  have hf : fieldsL (kindL s) = [.nonce, .epoch, .cookie, .name, .tag] := by rw [hk]; rfl
  rw [dec_kind s hl hm (by rw [hf]; simp), hf, hk]
  by_cases h0 : 16 ≤ (s.drop 4).length
  · by_cases h1 : 8 ≤ (s.drop 20).length
    · by_cases h2 : 32 ≤ (s.drop 28).length
      · by_cases h3 : 1 ≤ (s.drop 60).length
        · simp only [takes, tk, need8_eq, need16_eq, need32_eq, need1_eq, List.drop_drop, Option.map_some, Option.bind_some, Nat.reduceAdd, h0, h1, h2, h3, if_true]
          have hv : val ((s.drop 60).take 1) = (s.getD 60 0).toNat := by
            have hlt : 60 < s.length := by rw [List.length_drop] at h3; omega
            obtain ⟨y, hy⟩ : ∃ y, s[60]? = some y := ⟨_, List.getElem?_eq_getElem hlt⟩
            have e : s.drop 60 = y :: s.drop 61 := by
              rw [List.drop_eq_getElem_cons hlt]
              congr 1
              rw [List.getElem?_eq_getElem hlt] at hy
              exact Option.some.inj hy
            rw [e]
            simp [val, List.getD, hy]
          rw [hv]
          generalize (s.getD 60 0).toNat = v at *
          rw [need_eq]
          by_cases h4 : v ≤ (s.drop 61).length
          · rw [if_pos h4]
            simp only [Option.map_some, Option.bind_some, List.drop_drop]
            by_cases h5 : 32 ≤ (s.drop (61 + v)).length
            · rw [if_pos h5]
              simp only [Option.map_some, Option.bind_some, ended]
              simp only [List.length_drop] at h4 h5
              by_cases hc : s.length = 93 + v
              · have e2 : (s.drop (61 + v)).take 32 = s.drop (s.length - 32) := by
                  rw [show 61 + v = s.length - 32 by omega]
                  exact List.take_of_length_le (by rw [List.length_drop]; omega)
                rw [if_neg (by rw [List.length_drop]; omega), if_neg Bool.false_ne_true, if_pos ⟨by omega, hc⟩, e2, show s.length - 93 = v by omega]
              · rw [if_pos (by rw [List.length_drop]; omega), if_neg (fun q => hc q.2)]
            · rw [if_neg h5, if_neg (by rw [List.length_drop] at h5; omega)]
              rfl
          · rw [if_neg h4, if_neg (by rw [List.length_drop] at h4; omega)]
            rfl
        · rw [if_neg (by rw [List.length_drop] at h3; omega)]
          simp only [takes, tk, need8_eq, need16_eq, need32_eq, need1_eq, List.drop_drop, Option.map_some, Option.bind_some, Option.bind_none, Nat.reduceAdd, h0, h1, h2, h3, if_true, if_false, ended]
      · rw [if_neg (by rw [List.length_drop] at h2; omega)]
        simp only [takes, tk, need8_eq, need16_eq, need32_eq, List.drop_drop, Option.map_some, Option.map_none, Option.bind_some, Option.bind_none, Nat.reduceAdd, h0, h1, h2, if_true, if_false, ended]
    · rw [if_neg (by rw [List.length_drop] at h1; omega)]
      simp only [takes, tk, need8_eq, need16_eq, List.drop_drop, Option.map_some, Option.map_none, Option.bind_some, Option.bind_none, Nat.reduceAdd, h0, h1, if_true, if_false, ended]
  · rw [if_neg (by rw [List.length_drop] at h0; omega)]
    simp only [takes, tk, need16_eq, Option.map_none, Option.bind_none, h0, if_false, ended]
theorem dec_big (s : List UInt8) (h : 1200 < s.length) : dec s = (Dg.zero 0, 72) := by rw [dec, if_pos h]
theorem dec_magic (s : List UInt8) (hl : ¬ 1200 < s.length) (hm : s.take 3 ≠ magic) : dec s = (Dg.zero 0, 70) := by rw [dec, if_neg hl, if_pos hm]
theorem dec_none (s : List UInt8) (hl : ¬ 1200 < s.length) (hm : s.take 3 = magic) (hk : kindL s < 1 ∨ 7 < kindL s) : dec s = (Dg.zero 0, 71) := by
  rw [dec, if_neg hl, if_neg (fun q => q hm), if_pos]
  unfold fieldsL
  repeat rw [if_neg (by omega)]
end Go.Proofs.YtiphnlfbgbemfaaGreatDoor.Pk

/- the reference's Body -/
namespace Go.Proofs.YtiphnlfbgbemfaaGreatDoor.Pk
open Go Go.RowKit
set_option maxHeartbeats 4000000 in
set_option maxRecDepth 100000 in
theorem rbody_c (s : ByteArray) (w : World) (hs : s.size ≤ 281474976710656) :
    Calls Tryz.prog 23 #[.string s] w fun e w' => e = .returned (.string (bodyB s)) ∧ w' = w := by
  by_cases h36 : s.size < 36
  · have hb : bodyB s = nob := by rw [bodyB, bodyL, if_pos (.inl (by rw [sl_len]; exact h36))]; rfl
    rw [hb]
    have hd : decide ((s.size : Int) < 36) = true := decide_eq_true (by omega)
    have hd2 : (s.size : Int) < 36 := by omega
    unfold nob
    go_enter Tryz.func23, Tryz.ntmps23
    go_wp2_with fail
    go_ret
    exact ⟨rfl, rfl⟩
  · have hd : decide ((s.size : Int) < 36) = false := decide_eq_false (by omega)
    have hd2 : ¬ (s.size : Int) < 36 := by omega
    have i3 : (3 : Int) ≤ (s.size : Int) := by omega
    obtain ⟨Y3, hY3⟩ : ∃ Y, s.extract 0 3 = Y := ⟨_, rfl⟩
    have s3 : sl Y3 = (sl s).take 3 := by rw [← hY3, ext_to]; exact sl_mk _
    have hl3 : 3 < s.size := by omega
    obtain ⟨y, hy⟩ : ∃ y, (sl s)[3]? = some y := ⟨_, List.getElem?_eq_getElem (by rw [sl_len]; exact hl3)⟩
    have ix : ∀ W, (Instr.index 9 (.string s) (.int .i64 3)).run Tryz.prog W = .ok (.int .u8 y.toNat) W := fun W => idx9 s 3 y hl3 hy W
    have hkd : (sl s).take 3 = magic → kindL (sl s) = (y.toNat : Int) := fun q => by
      rw [kindL, if_neg (by rw [sl_len]; simp [q]; omega)]
      simp [List.getD, hy]
    have hyl := UInt8.toNat_lt y
    by_cases hm : (sl s).take 3 = magic
    · have e3 : Y3 = { data := #[74, 48, 49] } := by
        apply sl_inj; rw [s3, hm]; rfl
      subst e3
      have hk := hkd hm
      obtain ⟨z, hz⟩ : ∃ z : Int, (y.toNat : Int) = z := ⟨_, rfl⟩
      rw [hz] at hk
      have ix2 : ∀ W, (Instr.index 9 (.string s) (.int .i64 3)).run Tryz.prog W = .ok (.int .u8 z) W := fun W => by rw [ix W, hz]
      have z0 : 0 ≤ z := by omega
      have z1 : z ≤ 255 := by omega
      clear ix hz hkd
      by_cases k3 : z < 3
      · have hb : bodyB s = nob := by rw [bodyB, bodyL, if_pos (.inr (by rw [hk]; omega))]; rfl
        rw [hb]
        unfold nob
        clear hb hk hm s3
        go_enter Tryz.func23, Tryz.ntmps23
        go_wp2_with fail
        go_ret
        exact ⟨rfl, rfl⟩
      · by_cases k7 : 7 < z
        · have hb : bodyB s = nob := by rw [bodyB, bodyL, if_pos (.inr (by rw [hk]; omega))]; rfl
          rw [hb]
          unfold nob
          clear hb hk hm s3
          go_enter Tryz.func23, Tryz.ntmps23
          go_wp2_with fail
          go_ret
          exact ⟨rfl, rfl⟩
        · obtain ⟨m, hmm⟩ : ∃ m, s.size - 32 = m := ⟨_, rfl⟩
          have hb : bodyB s = s.extract 0 m := by rw [bodyB, bodyL, if_neg (by rw [hk, sl_len]; omega), ext_to, sl_len, hmm]
          have wm : IntKind.i64.wrap ((s.size : Int) - 32) = (m : Int) := by rw [show (s.size : Int) - 32 = (m : Int) by omega]; exact IntWalk.i64_in _ (by omega)
          have m0 : (0 : Int) ≤ (m : Int) := by omega
          have m1 : (m : Int) ≤ (s.size : Int) := by omega
          rw [hb]
          clear hb hk hm s3 hmm
          go_enter Tryz.func23, Tryz.ntmps23
          go_wp2_with fail
          go_ret
          exact ⟨rfl, rfl⟩
    · have hb : bodyB s = nob := by
        have hk : kindL (sl s) = 0 := by rw [kindL, if_pos (.inr hm)]
        rw [bodyB, bodyL, if_pos (.inr (by rw [hk]; omega))]; rfl
      have e1 : (Y3.toList == ({ data := #[74, 48, 49] } : ByteArray).toList) = false := by
        rw [beqL]
        exact decide_eq_false (fun q => hm (by rw [← s3]; exact q))
      have e2 : (Y3.toList != ({ data := #[74, 48, 49] } : ByteArray).toList) = true := by simp only [bne, e1]; rfl
      have e0 : ({ data := #[74, 48, 49] } : ByteArray).toList = [74, 48, 49] := by rw [ByteArray.toList_eq]
      rw [e0] at e1 e2
      have e4 : ¬ Y3.toList = [74, 48, 49] := fun q => by rw [q] at e1; simp at e1
      have e3 : ¬ Y3 = { data := #[74, 48, 49] } := fun q => hm (by rw [← s3, q]; rfl)
      rw [hb]
      unfold nob
      clear hb hm s3 hkd hyl
      go_enter Tryz.func23, Tryz.ntmps23
      go_wp2_with fail
      go_ret
      exact ⟨rfl, rfl⟩
end Go.Proofs.YtiphnlfbgbemfaaGreatDoor.Pk

/- the reference's number and signed -/
namespace Go.Proofs.YtiphnlfbgbemfaaGreatDoor.Pk
open Go Go.RowKit
set_option maxHeartbeats 4000000 in
set_option maxRecDepth 100000 in
theorem rsigned_c (b : UInt8) (w : World) :
    Calls Tryz.prog 45 #[.int .u8 (b.toNat : Int)] w fun e w' => e = .returned (.int .i64 (sval [b])) ∧ w' = w := by
  have hb := UInt8.toNat_lt b
  have hs : sval [b] = if (b.toNat : Int) > 127 then (b.toNat : Int) - 256 else (b.toNat : Int) := by
    unfold sval
    have hv : val [b] = b.toNat := by simp [val]
    rw [hv]
    have e : (256 ^ [b].length : Nat) = 256 := by simp
    rw [e]
    by_cases h : 127 < b.toNat
    · rw [if_neg (by omega), if_pos (by omega)]; rfl
    · rw [if_pos (by omega), if_neg (by omega)]
  rw [hs]
  obtain ⟨z, hz⟩ : ∃ z : Int, (b.toNat : Int) = z := ⟨_, rfl⟩
  have z0 : 0 ≤ z := by omega
  have z1 : z ≤ 255 := by omega
  rw [hz]
  clear hs hz hb
  have w1 : IntKind.i64.wrap z = z := IntWalk.i64_in _ (by omega)
  have w2 : IntKind.i64.wrap (z - 256) = z - 256 := IntWalk.i64_in _ (by omega)
  by_cases h : 127 < z
  · rw [if_pos h]
    go_enter Tryz.func45, Tryz.ntmps45
    go_wp2_with fail
    go_ret
    exact ⟨rfl, rfl⟩
  · rw [if_neg (by omega)]
    go_enter Tryz.func45, Tryz.ntmps45
    go_wp2_with fail
    go_ret
    exact ⟨rfl, rfl⟩
set_option maxHeartbeats 4000000 in
set_option maxRecDepth 100000 in
theorem rnum_c (s : ByteArray) (at' : Nat) (w : World) (h : at' + 8 ≤ s.size) (hs : s.size ≤ 1000000) :
    Calls Tryz.prog 44 #[.string s, .int .i64 (at' : Int)] w fun e w' => e = .returned (.int .u64 (val (((sl s).drop at').take 8) : Nat)) ∧ w' = w := by
  have HB : Keep (∀ i, val (((sl s).drop at').take i) < 256 ^ i ∨ i > 8) := ⟨fun i => by
    by_cases hi : i ≤ 8
    · left
      have := val_lt (((sl s).drop at').take i)
      rwa [List.length_take, List.length_drop, sl_len, Nat.min_eq_left (by omega)] at this
    · right; omega⟩
  go_enter Tryz.func44, Tryz.ntmps44
  go_wp2_with fail
  go_loopw [5, 6] (fun s5 s6 w' => ∃ (i : Nat) (x : Int), i ≤ 8 ∧ s5 = .int .u64 x ∧ s6 = .int .i64 (i : Nat) ∧ w' = w ∧ Keep (x = (val (((sl s).drop at').take i) : Nat))) (fun _ t _ => 8 - (intOf t).toNat)
  case atStart => exact ⟨0, 0, by omega, rfl, rfl, rfl, ⟨by simp [val]⟩⟩
  case round =>
    obtain ⟨i, x, i1, rfl, rfl, rfl, HX⟩ := hrel
    by_cases hi : i < 8
    · have hia : (i : Int) < 8 := by omega
      obtain ⟨y, hy⟩ : ∃ y, (sl s)[at' + i]? = some y := ⟨_, List.getElem?_eq_getElem (by rw [sl_len]; omega)⟩
      have ix : ∀ W, (Instr.index 9 (.string s) (.int .i64 ((at' : Int) + (i : Int)))).run Tryz.prog W = .ok (.int .u8 y.toNat) W := fun W => by
        have := idx9 s (at' + i) y (by omega) hy W
        rwa [show ((at' + i : Nat) : Int) = (at' : Int) + (i : Int) by omega] at this
      have wa : IntKind.i64.wrap ((at' : Int) + (i : Int)) = (at' : Int) + (i : Int) := IntWalk.i64_in _ (by omega)
      have hx7 : 0 ≤ x ∧ x < 72057594037927936 := by
        have h1 := HB.out i
        have h2 : (256 : Nat) ^ i ≤ 256 ^ 7 := Nat.pow_le_pow_right (by decide) (by omega)
        have h3 : (256 : Nat) ^ 7 = 72057594037927936 := by decide
        rw [HX.out]; omega
      have hyl := UInt8.toNat_lt y
      obtain ⟨z, hz⟩ : ∃ z : Int, (y.toNat : Int) = z := ⟨_, rfl⟩
      have z0 : 0 ≤ z := by omega
      have z1 : z ≤ 255 := by omega
      have HN : Keep (x * 256 + z = (val (((sl s).drop at').take (i + 1)) : Nat)) := ⟨by
        have e : ((sl s).drop at').take (i + 1) = ((sl s).drop at').take i ++ [y] := by
          rw [List.take_add_one, List.getElem?_drop, hy]; rfl
        rw [e, val_snoc, HX.out, ← hz]; simp⟩
      have wm : IntKind.u64.wrap (x * 256) = x * 256 := by rw [wu]; omega
      have wp : IntKind.u64.wrap (x * 256 + z) = x * 256 + z := by rw [wu]; omega
      have ix2 : ∀ W, (Instr.index 9 (.string s) (.int .i64 ((at' : Int) + (i : Int)))).run Tryz.prog W = .ok (.int .u8 z) W := fun W => by rw [ix W, hz]
      clear ix hz hyl hy
      go_wp2_with fail
      refine ⟨⟨i + 1, x * 256 + z, by omega, rfl, rfl, by trivial, HN⟩, ?_⟩
      simp only [intOf]; omega
    · have e8 : i = 8 := by omega
      subst e8
      go_wp2_with fail
      go_ret
      exact ⟨by rw [HX.out]; rfl, rfl⟩
end Go.Proofs.YtiphnlfbgbemfaaGreatDoor.Pk

/- the reference's long, by kinds -/
namespace Go.Proofs.YtiphnlfbgbemfaaGreatDoor.Pk
open Go Go.RowKit
set_option maxHeartbeats 4000000 in
set_option maxRecDepth 100000 in
theorem rlong_1 (s : ByteArray) (w : World) (hy : (sl s)[3]? = some 1) (hl : 3 < s.size) :
    Calls Tryz.prog 77 #[.string s] w fun e w' => e = .returned (.bool (decide ((s.size : Int) = 96))) ∧ w' = w := by
  have ix : ∀ W, (Instr.index 9 (.string s) (.int .i64 3)).run Tryz.prog W = .ok (.int .u8 1) W := fun W => idx9 s 3 1 hl hy W
  by_cases h : (s.size : Int) = 96
  · rw [decide_eq_true h]
    have h2 : ((s.size : Int) == 96) = true := by simp; omega
    go_enter Tryz.func77, Tryz.ntmps77
    go_wp2_with fail
    go_ret
    exact ⟨rfl, rfl⟩
  · rw [decide_eq_false h]
    have h2 : ((s.size : Int) == 96) = false := by simp; omega
    have h3 : decide ((s.size : Int) = 96) = false := decide_eq_false h
    go_enter Tryz.func77, Tryz.ntmps77
    go_wp2_with fail
    go_ret
    exact ⟨rfl, rfl⟩
set_option maxHeartbeats 4000000 in
set_option maxRecDepth 100000 in
theorem rlong_2 (s : ByteArray) (w : World) (hy : (sl s)[3]? = some 2) (hl : 3 < s.size) :
    Calls Tryz.prog 77 #[.string s] w fun e w' => e = .returned (.bool (decide ((s.size : Int) = 60))) ∧ w' = w := by
  have ix : ∀ W, (Instr.index 9 (.string s) (.int .i64 3)).run Tryz.prog W = .ok (.int .u8 2) W := fun W => idx9 s 3 2 hl hy W
  by_cases h : (s.size : Int) = 60
  · rw [decide_eq_true h]
    have h2 : ((s.size : Int) == 60) = true := by simp; omega
    go_enter Tryz.func77, Tryz.ntmps77
    go_wp2_with fail
    go_ret
    exact ⟨rfl, rfl⟩
  · rw [decide_eq_false h]
    have h2 : ((s.size : Int) == 60) = false := by simp; omega
    have h3 : decide ((s.size : Int) = 60) = false := decide_eq_false h
    go_enter Tryz.func77, Tryz.ntmps77
    go_wp2_with fail
    go_ret
    exact ⟨rfl, rfl⟩
set_option maxHeartbeats 4000000 in
set_option maxRecDepth 100000 in
theorem rlong_4 (s : ByteArray) (w : World) (hy : (sl s)[3]? = some 4) (hl : 3 < s.size) :
    Calls Tryz.prog 77 #[.string s] w fun e w' => e = .returned (.bool (decide ((s.size : Int) = 77))) ∧ w' = w := by
  have ix : ∀ W, (Instr.index 9 (.string s) (.int .i64 3)).run Tryz.prog W = .ok (.int .u8 4) W := fun W => idx9 s 3 4 hl hy W
  by_cases h : (s.size : Int) = 77
  · rw [decide_eq_true h]
    have h2 : ((s.size : Int) == 77) = true := by simp; omega
    go_enter Tryz.func77, Tryz.ntmps77
    go_wp2_with fail
    go_ret
    exact ⟨rfl, rfl⟩
  · rw [decide_eq_false h]
    have h2 : ((s.size : Int) == 77) = false := by simp; omega
    have h3 : decide ((s.size : Int) = 77) = false := decide_eq_false h
    go_enter Tryz.func77, Tryz.ntmps77
    go_wp2_with fail
    go_ret
    exact ⟨rfl, rfl⟩
set_option maxHeartbeats 4000000 in
set_option maxRecDepth 100000 in
theorem rlong_5 (s : ByteArray) (w : World) (hy : (sl s)[3]? = some 5) (hl : 3 < s.size) :
    Calls Tryz.prog 77 #[.string s] w fun e w' => e = .returned (.bool (decide ((s.size : Int) = 55))) ∧ w' = w := by
  have ix : ∀ W, (Instr.index 9 (.string s) (.int .i64 3)).run Tryz.prog W = .ok (.int .u8 5) W := fun W => idx9 s 3 5 hl hy W
  by_cases h : (s.size : Int) = 55
  · rw [decide_eq_true h]
    have h2 : ((s.size : Int) == 55) = true := by simp; omega
    go_enter Tryz.func77, Tryz.ntmps77
    go_wp2_with fail
    go_ret
    exact ⟨rfl, rfl⟩
  · rw [decide_eq_false h]
    have h2 : ((s.size : Int) == 55) = false := by simp; omega
    have h3 : decide ((s.size : Int) = 55) = false := decide_eq_false h
    go_enter Tryz.func77, Tryz.ntmps77
    go_wp2_with fail
    go_ret
    exact ⟨rfl, rfl⟩
set_option maxHeartbeats 4000000 in
set_option maxRecDepth 100000 in
theorem rlong_6 (s : ByteArray) (w : World) (hy : (sl s)[3]? = some 6) (hl : 3 < s.size) :
    Calls Tryz.prog 77 #[.string s] w fun e w' => e = .returned (.bool (decide (52 ≤ (s.size : Int)))) ∧ w' = w := by
  have ix : ∀ W, (Instr.index 9 (.string s) (.int .i64 3)).run Tryz.prog W = .ok (.int .u8 6) W := fun W => idx9 s 3 6 hl hy W
  by_cases h : 52 ≤ (s.size : Int)
  · rw [decide_eq_true h]
    skip
    go_enter Tryz.func77, Tryz.ntmps77
    go_wp2_with fail
    go_ret
    exact ⟨rfl, rfl⟩
  · rw [decide_eq_false h]
    skip
    have h3 : decide (52 ≤ (s.size : Int)) = false := decide_eq_false h
    go_enter Tryz.func77, Tryz.ntmps77
    go_wp2_with fail
    go_ret
    exact ⟨rfl, rfl⟩
set_option maxHeartbeats 4000000 in
set_option maxRecDepth 100000 in
theorem rlong_7 (s : ByteArray) (w : World) (hy : (sl s)[3]? = some 7) (hl : 3 < s.size) :
    Calls Tryz.prog 77 #[.string s] w fun e w' => e = .returned (.bool (decide ((s.size : Int) = 52))) ∧ w' = w := by
  have ix : ∀ W, (Instr.index 9 (.string s) (.int .i64 3)).run Tryz.prog W = .ok (.int .u8 7) W := fun W => idx9 s 3 7 hl hy W
  by_cases h : (s.size : Int) = 52
  · rw [decide_eq_true h]
    have h2 : ((s.size : Int) == 52) = true := by simp; omega
    go_enter Tryz.func77, Tryz.ntmps77
    go_wp2_with fail
    go_ret
    exact ⟨rfl, rfl⟩
  · rw [decide_eq_false h]
    have h2 : ((s.size : Int) == 52) = false := by simp; omega
    have h3 : decide ((s.size : Int) = 52) = false := decide_eq_false h
    go_enter Tryz.func77, Tryz.ntmps77
    go_wp2_with fail
    go_ret
    exact ⟨rfl, rfl⟩
end Go.Proofs.YtiphnlfbgbemfaaGreatDoor.Pk

/- the reference's long, the third kind -/
namespace Go.Proofs.YtiphnlfbgbemfaaGreatDoor.Pk
open Go Go.RowKit
set_option maxHeartbeats 4000000 in
set_option maxRecDepth 100000 in
theorem rlong_3 (s : ByteArray) (w : World) (hy : (sl s)[3]? = some 3) (hl : 3 < s.size) :
    Calls Tryz.prog 77 #[.string s] w fun e w' => e = .returned (.bool (decide (93 ≤ s.size ∧ s.size = 93 + ((sl s).getD 60 0).toNat))) ∧ w' = w := by
  have ix : ∀ W, (Instr.index 9 (.string s) (.int .i64 3)).run Tryz.prog W = .ok (.int .u8 3) W := fun W => idx9 s 3 3 hl hy W
  by_cases h : 93 ≤ s.size
  · obtain ⟨y, hy6⟩ : ∃ y, (sl s)[60]? = some y := ⟨_, List.getElem?_eq_getElem (by rw [sl_len]; omega)⟩
    have hg : (sl s).getD 60 0 = y := by simp [List.getD, hy6]
    rw [hg]
    have hyl := UInt8.toNat_lt y
    have ix6 : ∀ W, (Instr.index 9 (.string s) (.int .i64 60)).run Tryz.prog W = .ok (.int .u8 y.toNat) W := fun W => idx9 s 60 y (by omega) hy6 W
    obtain ⟨z, hz⟩ : ∃ z : Int, (y.toNat : Int) = z := ⟨_, rfl⟩
    have ix7 : ∀ W, (Instr.index 9 (.string s) (.int .i64 60)).run Tryz.prog W = .ok (.int .u8 z) W := fun W => by rw [ix6 W, hz]
    have z0 : 0 ≤ z := by omega
    have z1 : z ≤ 255 := by omega
    have w1 : IntKind.i64.wrap z = z := IntWalk.i64_in _ (by omega)
    have w2 : IntKind.i64.wrap (93 + z) = 93 + z := IntWalk.i64_in _ (by omega)
    have h93 : (93 : Int) ≤ (s.size : Int) := by omega
    by_cases he : s.size = 93 + y.toNat
    · rw [decide_eq_true ⟨h, he⟩]
      have he2 : (s.size : Int) = 93 + z := by omega
      have h94 : (93 : Int) ≤ 93 + z := by omega
      have h95 : decide ((93 : Int) ≤ 93 + z) = true := decide_eq_true (by omega)
      clear ix6 hz hyl he h hy6 hg h93 hy
      go_enter Tryz.func77, Tryz.ntmps77
      go_wp2_with fail
      go_ret
      exact ⟨rfl, rfl⟩
    · rw [decide_eq_false (fun q => he q.2)]
      obtain ⟨m, hm⟩ : ∃ m : Int, (s.size : Int) = m := ⟨_, rfl⟩
      have he2 : ¬ m = 93 + z := by omega
      have he3 : (m == 93 + z) = false := by simp; omega
      have he4 : decide (m = 93 + z) = false := decide_eq_false he2
      rw [hm] at h93
      clear ix6 hz hyl he h hy6 hg hy
      go_enter Tryz.func77, Tryz.ntmps77
      go_wp2_with fail
      go_ret
      exact ⟨rfl, rfl⟩
  · rw [decide_eq_false (fun q => h q.1)]
    have h1 : ¬ (93 : Int) ≤ (s.size : Int) := by omega
    have h2 : decide ((93 : Int) ≤ (s.size : Int)) = false := decide_eq_false h1
    go_enter Tryz.func77, Tryz.ntmps77
    go_wp2_with fail
    go_ret
    exact ⟨rfl, rfl⟩
end Go.Proofs.YtiphnlfbgbemfaaGreatDoor.Pk

/- the reference's judged -/
namespace Go.Proofs.YtiphnlfbgbemfaaGreatDoor.Pk
open Go Go.RowKit
theorem mg (s : ByteArray) : ((s.extract 0 3).toList == [74, 48, 49]) = decide ((sl s).take 3 = magic) := by
  rw [ByteArray.toList_eq, ext_to, Bool.eq_iff_iff, beq_iff_eq, decide_eq_true_iff]
  exact Iff.rfl
theorem kind_is (s : ByteArray) (hm : (sl s).take 3 = magic) (h4 : 3 < s.size) {y : UInt8} (hy : (sl s)[3]? = some y) : kindL (sl s) = (y.toNat : Int) := by
  unfold kindL
  rw [if_neg (by rw [sl_len]; rintro (q | q); omega; exact q hm)]
  simp [List.getD, hy]
theorem zero_iff (s : List UInt8) (h : s.length = 96) : (s.drop 20).take 76 = zero76 ↔ ∀ j, 20 ≤ j → j < 96 → s.getD j 0 = 0 := by
  constructor
  · intro e j h1 h2
    have := congrArg (fun l => l.getD (j - 20) 0) e
    simp only [List.getD, List.getElem?_take, List.getElem?_drop, zero76] at this
    rw [if_pos (by omega), show 20 + (j - 20) = j by omega, List.getElem?_replicate, if_pos (by omega)] at this
    simpa [List.getD] using this
  · intro e
    apply List.ext_getElem?
    intro i
    rw [List.getElem?_take, List.getElem?_drop, zero76, List.getElem?_replicate]
    by_cases hi : i < 76
    · rw [if_pos hi, if_pos hi]
      have hj := e (20 + i) (by omega) (by omega)
      rw [List.getElem?_eq_getElem (by omega)]
      simp only [List.getD, List.getElem?_eq_getElem (show 20 + i < s.length by omega), Option.getD_some] at hj
      rw [hj]
    · rw [if_neg hi, if_neg hi]
set_option maxHeartbeats 4000000 in
set_option maxRecDepth 100000 in
theorem rj_big (s : ByteArray) (w : World) (h : 1200 < s.size) :
    Calls Tryz.prog 43 #[.string s] w fun e w' => e = .returned (.int .i64 (dec (sl s)).2) ∧ w' = w := by
  have hi : (1200 : Int) < (s.size : Int) := by omega
  rw [dec_big _ (by rw [sl_len]; exact h)]
  go_enter Tryz.func43, Tryz.ntmps43
  go_wp2_with fail
  go_ret
  exact ⟨rfl, rfl⟩
set_option maxHeartbeats 4000000 in
set_option maxRecDepth 100000 in
theorem rj_magic (s : ByteArray) (w : World) (h : ¬ 1200 < s.size) (hm : (sl s).take 3 ≠ magic) :
    Calls Tryz.prog 43 #[.string s] w fun e w' => e = .returned (.int .i64 (dec (sl s)).2) ∧ w' = w := by
  have hi : ¬ (1200 : Int) < (s.size : Int) := by omega
  rw [dec_magic _ (by rw [sl_len]; exact h) hm]
  have hg := mg s
  rw [decide_eq_false hm] at hg
  by_cases h3 : s.size < 3
  · have hi3 : (s.size : Int) < 3 := by omega
    go_enter Tryz.func43, Tryz.ntmps43
    go_wp2_with fail
    go_ret
    exact ⟨rfl, rfl⟩
  · have hi3 : ¬ (s.size : Int) < 3 := by omega
    go_enter Tryz.func43, Tryz.ntmps43
    go_wp2_with fail
    go_ret
    exact ⟨rfl, rfl⟩
theorem magic_len {s : ByteArray} (hm : (sl s).take 3 = magic) : 3 ≤ s.size := by
  have := congrArg List.length hm
  rw [List.length_take, sl_len] at this
  have e : magic.length = 3 := rfl
  omega
set_option maxHeartbeats 4000000 in
set_option maxRecDepth 100000 in
theorem rj_none (s : ByteArray) (w : World) (h : ¬ 1200 < s.size) (hm : (sl s).take 3 = magic) (hk : kindL (sl s) < 1 ∨ 7 < kindL (sl s)) :
    Calls Tryz.prog 43 #[.string s] w fun e w' => e = .returned (.int .i64 (dec (sl s)).2) ∧ w' = w := by
  have hi : ¬ (1200 : Int) < (s.size : Int) := by omega
  have h3 := magic_len hm
  have hi3 : ¬ (s.size : Int) < 3 := by omega
  rw [dec_none _ (by rw [sl_len]; exact h) hm hk]
  have hg := mg s
  rw [decide_eq_true hm] at hg
  by_cases h4 : s.size < 4
  · have hi4 : (s.size : Int) < 4 := by omega
    clear hk
    go_enter Tryz.func43, Tryz.ntmps43
    go_wp2_with fail
    go_ret
    exact ⟨rfl, rfl⟩
  · have hi4 : ¬ (s.size : Int) < 4 := by omega
    obtain ⟨y, hy⟩ : ∃ y, (sl s)[3]? = some y := ⟨_, List.getElem?_eq_getElem (by rw [sl_len]; omega)⟩
    rw [kind_is s hm (by omega) hy] at hk
    have ix : ∀ W, (Instr.index 9 (.string s) (.int .i64 3)).run Tryz.prog W = .ok (.int .u8 y.toNat) W := fun W => idx9 s 3 y (by omega) hy W
    generalize y.toNat = Y at *
    by_cases hk1 : (Y : Int) < 1
    · clear hk
      go_enter Tryz.func43, Tryz.ntmps43
      go_wp2_with fail
      go_ret
      exact ⟨rfl, rfl⟩
    · have hk7 : (7 : Int) < (Y : Int) := by omega
      clear hk
      go_enter Tryz.func43, Tryz.ntmps43
      go_wp2_with fail
      go_ret
      exact ⟨rfl, rfl⟩
set_option maxHeartbeats 4000000 in
set_option maxRecDepth 100000 in
theorem rj_1 (s : ByteArray) (w : World) (h : ¬ 1200 < s.size) (hm : (sl s).take 3 = magic) (hy : (sl s)[3]? = some 1) (h4 : 3 < s.size) :
    Calls Tryz.prog 43 #[.string s] w fun e w' => e = .returned (.int .i64 (dec (sl s)).2) ∧ w' = w := by
  have hi : ¬ (1200 : Int) < (s.size : Int) := by omega
  have hi3 : ¬ (s.size : Int) < 3 := by omega
  have hi4 : ¬ (s.size : Int) < 4 := by omega
  have HD := Keep.mk (dec_1 (sl s) (by rw [sl_len]; omega) hm (kind_is s hm h4 hy))
  rw [sl_len] at HD
  have hg := mg s
  rw [decide_eq_true hm] at hg
  have ix : ∀ W, (Instr.index 9 (.string s) (.int .i64 3)).run Tryz.prog W = .ok (.int .u8 1) W := fun W => idx9 s 3 1 h4 hy W
  have HC := Keep.mk (rlong_1 s w hy h4)
  by_cases hc : s.size = 96
  · have hb : ∀ (q : Prop) [Decidable q], q → decide q = true := fun q _ z => decide_eq_true z
    rw [hb _ (by omega)] at HC
    clear hb
    rw [if_pos hc] at HD
    have HZ := Keep.mk (zero_iff (sl s) (by rw [sl_len]; exact hc))
    obtain ⟨R, hR⟩ : ∃ R, (dec (sl s)).2 = R := ⟨_, rfl⟩
    have HRR := Keep.mk hR
    rw [hR]
    clear hR
    have HCC := Keep.mk hc
    clear hc hm hy
    go_enter Tryz.func43, Tryz.ntmps43
    go_wp2_with fail
    refine HC.out.mono ?_
    rintro e w1 ⟨rfl, rfl⟩
    go_wp2_with fail
    go_loopw [3] (fun x w' => ∃ i : Nat, 20 ≤ i ∧ i ≤ 96 ∧ x = .int .i64 (i : Nat) ∧ Keep (w' = w1) ∧ Keep (∀ j, 20 ≤ j → j < i → (sl s).getD j 0 = 0)) (fun x _ => 96 - (intOf x).toNat)
    case atStart => exact ⟨20, by omega, by omega, rfl, ⟨rfl⟩, ⟨fun j h1 h2 => by omega⟩⟩
    case round =>
      obtain ⟨i, i0, i1, rfl, HW, HL⟩ := hrel
      obtain rfl := HW.out
      clear HW
      by_cases hi9 : i < 96
      · have hia : (i : Int) < 96 := by omega
        have hwi : IntKind.i64.wrap ((i : Int) + 1) = ((i + 1 : Nat) : Int) := by rw [IntKind.wrap_i64]; omega
        obtain ⟨y, hyi⟩ : ∃ y, (sl s)[i]? = some y := ⟨_, List.getElem?_eq_getElem (by rw [sl_len, HCC.out]; omega)⟩
        have ixi : ∀ W, (Instr.index 9 (.string s) (.int .i64 (i : Int))).run Tryz.prog W = .ok (.int .u8 y.toNat) W := fun W => idx9 s i y (by rw [HCC.out]; omega) hyi W
        by_cases hz : y = 0
        · subst hz
          go_wp2_with fail
          refine ⟨⟨i + 1, by omega, by omega, rfl, ⟨by trivial⟩, ⟨fun j h1 h2 => ?_⟩⟩, ?_⟩
          · by_cases hji : j = i
            · subst hji; simp [List.getD, hyi]
            · exact HL.out j h1 (by omega)
          · simp only [intOf]; omega
        · have hyn : ((y.toNat : Int) == 0) = false := by
            have : y.toNat ≠ 0 := fun e => hz (UInt8.toNat_inj.1 (by simpa using e))
            simp; omega
          have hRe : R = 73 := by
            rw [← HRR.out, HD.out, if_neg]
            rw [HZ.out]
            intro e
            have := e i i0 hi9
            simp [List.getD, hyi] at this
            exact hz this
          subst hRe
          go_wp2_with fail
          go_ret
          exact ⟨rfl, rfl⟩
      · have hia : ¬ (i : Int) < 96 := by omega
        have hRe : R = 0 := by
          rw [← HRR.out, HD.out, if_pos]
          rw [HZ.out]
          exact fun j h1 h2 => HL.out j h1 (by omega)
        subst hRe
        go_wp2_with fail
        go_ret
        exact ⟨rfl, rfl⟩
  · have hb : ∀ (q : Prop) [Decidable q], ¬ q → decide q = false := fun q _ z => decide_eq_false z
    rw [hb _ (by omega)] at HC
    clear hb
    rw [if_neg hc] at HD
    rw [HD.out]
    clear hc hm hy
    go_enter Tryz.func43, Tryz.ntmps43
    go_wp2_with fail
    refine HC.out.mono ?_
    rintro e w1 ⟨rfl, rfl⟩
    go_wp2_with fail
    go_ret
    exact ⟨rfl, rfl⟩
set_option maxHeartbeats 4000000 in
set_option maxRecDepth 100000 in
theorem rj_2 (s : ByteArray) (w : World) (h : ¬ 1200 < s.size) (hm : (sl s).take 3 = magic) (hy : (sl s)[3]? = some 2) (h4 : 3 < s.size) :
    Calls Tryz.prog 43 #[.string s] w fun e w' => e = .returned (.int .i64 (dec (sl s)).2) ∧ w' = w := by
  have hi : ¬ (1200 : Int) < (s.size : Int) := by omega
  have hi3 : ¬ (s.size : Int) < 3 := by omega
  have hi4 : ¬ (s.size : Int) < 4 := by omega
  have HD := Keep.mk (dec_2 (sl s) (by rw [sl_len]; omega) hm (kind_is s hm h4 hy))
  rw [sl_len] at HD
  have hg := mg s
  rw [decide_eq_true hm] at hg
  have ix : ∀ W, (Instr.index 9 (.string s) (.int .i64 3)).run Tryz.prog W = .ok (.int .u8 2) W := fun W => idx9 s 3 2 h4 hy W
  have HC := Keep.mk (rlong_2 s w hy h4)
  by_cases hc : s.size = 60
  · have hb : ∀ (q : Prop) [Decidable q], q → decide q = true := fun q _ z => decide_eq_true z
    rw [hb _ (by omega)] at HC
    clear hb
    rw [if_pos hc] at HD
    rw [HD.out]
    clear hc hm hy
    go_enter Tryz.func43, Tryz.ntmps43
    go_wp2_with fail
    refine HC.out.mono ?_
    rintro e w1 ⟨rfl, rfl⟩
    go_wp2_with fail
    go_ret
    exact ⟨rfl, rfl⟩
  · have hb : ∀ (q : Prop) [Decidable q], ¬ q → decide q = false := fun q _ z => decide_eq_false z
    rw [hb _ (by omega)] at HC
    clear hb
    rw [if_neg hc] at HD
    rw [HD.out]
    clear hc hm hy
    go_enter Tryz.func43, Tryz.ntmps43
    go_wp2_with fail
    refine HC.out.mono ?_
    rintro e w1 ⟨rfl, rfl⟩
    go_wp2_with fail
    go_ret
    exact ⟨rfl, rfl⟩
set_option maxHeartbeats 4000000 in
set_option maxRecDepth 100000 in
theorem rj_3 (s : ByteArray) (w : World) (h : ¬ 1200 < s.size) (hm : (sl s).take 3 = magic) (hy : (sl s)[3]? = some 3) (h4 : 3 < s.size) :
    Calls Tryz.prog 43 #[.string s] w fun e w' => e = .returned (.int .i64 (dec (sl s)).2) ∧ w' = w := by
  have hi : ¬ (1200 : Int) < (s.size : Int) := by omega
  have hi3 : ¬ (s.size : Int) < 3 := by omega
  have hi4 : ¬ (s.size : Int) < 4 := by omega
  have HD := Keep.mk (dec_3 (sl s) (by rw [sl_len]; omega) hm (kind_is s hm h4 hy))
  rw [sl_len] at HD
  have hg := mg s
  rw [decide_eq_true hm] at hg
  have ix : ∀ W, (Instr.index 9 (.string s) (.int .i64 3)).run Tryz.prog W = .ok (.int .u8 3) W := fun W => idx9 s 3 3 h4 hy W
  have HC := Keep.mk (rlong_3 s w hy h4)
  by_cases hc : 93 ≤ s.size ∧ s.size = 93 + ((sl s).getD 60 0).toNat
  · have hb : ∀ (q : Prop) [Decidable q], q → decide q = true := fun q _ z => decide_eq_true z
    rw [hb _ (by exact hc)] at HC
    clear hb
    rw [if_pos hc] at HD
    rw [HD.out]
    clear hc hm hy
    go_enter Tryz.func43, Tryz.ntmps43
    go_wp2_with fail
    refine HC.out.mono ?_
    rintro e w1 ⟨rfl, rfl⟩
    go_wp2_with fail
    go_ret
    exact ⟨rfl, rfl⟩
  · have hb : ∀ (q : Prop) [Decidable q], ¬ q → decide q = false := fun q _ z => decide_eq_false z
    rw [hb _ (by exact hc)] at HC
    clear hb
    rw [if_neg hc] at HD
    rw [HD.out]
    clear hc hm hy
    go_enter Tryz.func43, Tryz.ntmps43
    go_wp2_with fail
    refine HC.out.mono ?_
    rintro e w1 ⟨rfl, rfl⟩
    go_wp2_with fail
    go_ret
    exact ⟨rfl, rfl⟩
set_option maxHeartbeats 4000000 in
set_option maxRecDepth 100000 in
theorem rj_4 (s : ByteArray) (w : World) (h : ¬ 1200 < s.size) (hm : (sl s).take 3 = magic) (hy : (sl s)[3]? = some 4) (h4 : 3 < s.size) :
    Calls Tryz.prog 43 #[.string s] w fun e w' => e = .returned (.int .i64 (dec (sl s)).2) ∧ w' = w := by
  have hi : ¬ (1200 : Int) < (s.size : Int) := by omega
  have hi3 : ¬ (s.size : Int) < 3 := by omega
  have hi4 : ¬ (s.size : Int) < 4 := by omega
  have HD := Keep.mk (dec_4 (sl s) (by rw [sl_len]; omega) hm (kind_is s hm h4 hy))
  rw [sl_len] at HD
  have hg := mg s
  rw [decide_eq_true hm] at hg
  have ix : ∀ W, (Instr.index 9 (.string s) (.int .i64 3)).run Tryz.prog W = .ok (.int .u8 4) W := fun W => idx9 s 3 4 h4 hy W
  have HC := Keep.mk (rlong_4 s w hy h4)
  by_cases hc : s.size = 77
  · have hb : ∀ (q : Prop) [Decidable q], q → decide q = true := fun q _ z => decide_eq_true z
    rw [hb _ (by omega)] at HC
    clear hb
    rw [if_pos hc] at HD
    rw [HD.out]
    clear hc hm hy
    go_enter Tryz.func43, Tryz.ntmps43
    go_wp2_with fail
    refine HC.out.mono ?_
    rintro e w1 ⟨rfl, rfl⟩
    go_wp2_with fail
    go_ret
    exact ⟨rfl, rfl⟩
  · have hb : ∀ (q : Prop) [Decidable q], ¬ q → decide q = false := fun q _ z => decide_eq_false z
    rw [hb _ (by omega)] at HC
    clear hb
    rw [if_neg hc] at HD
    rw [HD.out]
    clear hc hm hy
    go_enter Tryz.func43, Tryz.ntmps43
    go_wp2_with fail
    refine HC.out.mono ?_
    rintro e w1 ⟨rfl, rfl⟩
    go_wp2_with fail
    go_ret
    exact ⟨rfl, rfl⟩
set_option maxHeartbeats 4000000 in
set_option maxRecDepth 100000 in
theorem rj_5 (s : ByteArray) (w : World) (h : ¬ 1200 < s.size) (hm : (sl s).take 3 = magic) (hy : (sl s)[3]? = some 5) (h4 : 3 < s.size) :
    Calls Tryz.prog 43 #[.string s] w fun e w' => e = .returned (.int .i64 (dec (sl s)).2) ∧ w' = w := by
  have hi : ¬ (1200 : Int) < (s.size : Int) := by omega
  have hi3 : ¬ (s.size : Int) < 3 := by omega
  have hi4 : ¬ (s.size : Int) < 4 := by omega
  have HD := Keep.mk (dec_5 (sl s) (by rw [sl_len]; omega) hm (kind_is s hm h4 hy))
  rw [sl_len] at HD
  have hg := mg s
  rw [decide_eq_true hm] at hg
  have ix : ∀ W, (Instr.index 9 (.string s) (.int .i64 3)).run Tryz.prog W = .ok (.int .u8 5) W := fun W => idx9 s 3 5 h4 hy W
  have HC := Keep.mk (rlong_5 s w hy h4)
  by_cases hc : s.size = 55
  · have hb : ∀ (q : Prop) [Decidable q], q → decide q = true := fun q _ z => decide_eq_true z
    rw [hb _ (by omega)] at HC
    clear hb
    rw [if_pos hc] at HD
    obtain ⟨y, hy2⟩ : ∃ y, (sl s)[22]? = some y := ⟨_, List.getElem?_eq_getElem (by rw [sl_len, hc]; omega)⟩
    have ix2 : ∀ W, (Instr.index 9 (.string s) (.int .i64 22)).run Tryz.prog W = .ok (.int .u8 y.toNat) W := fun W => idx9 s 22 y (by omega) hy2 W
    have hv : val (((sl s).drop 22).take 1) = y.toNat := by
      have hlt : 22 < (sl s).length := by rw [sl_len]; omega
      have e : (sl s).drop 22 = y :: (sl s).drop 23 := by
        rw [List.drop_eq_getElem_cons hlt]
        congr 1
        rw [List.getElem?_eq_getElem hlt] at hy2
        exact Option.some.inj hy2
      rw [e]
      simp [val]
    rw [hv] at HD
    obtain ⟨R, hR⟩ : ∃ R, (dec (sl s)).2 = R := ⟨_, rfl⟩
    have HRR := Keep.mk hR
    rw [hR]
    clear hR hv hc hm hy hy2
    generalize y.toNat = Y at *
    by_cases hY : Y ≤ 3
    · have hYi : ¬ (3 : Int) < (Y : Int) := by omega
      have hRe : R = 0 := by rw [← HRR.out, HD.out, if_pos hY]
      subst hRe
      go_enter Tryz.func43, Tryz.ntmps43
      go_wp2_with fail
      refine HC.out.mono ?_
      rintro e w1 ⟨rfl, rfl⟩
      go_wp2_with fail
      go_ret
      exact ⟨rfl, rfl⟩
    · have hYi : (3 : Int) < (Y : Int) := by omega
      have hRe : R = 73 := by rw [← HRR.out, HD.out, if_neg hY]
      subst hRe
      go_enter Tryz.func43, Tryz.ntmps43
      go_wp2_with fail
      refine HC.out.mono ?_
      rintro e w1 ⟨rfl, rfl⟩
      go_wp2_with fail
      go_ret
      exact ⟨rfl, rfl⟩
  · have hb : ∀ (q : Prop) [Decidable q], ¬ q → decide q = false := fun q _ z => decide_eq_false z
    rw [hb _ (by omega)] at HC
    clear hb
    rw [if_neg hc] at HD
    rw [HD.out]
    clear hc hm hy
    go_enter Tryz.func43, Tryz.ntmps43
    go_wp2_with fail
    refine HC.out.mono ?_
    rintro e w1 ⟨rfl, rfl⟩
    go_wp2_with fail
    go_ret
    exact ⟨rfl, rfl⟩
set_option maxHeartbeats 4000000 in
set_option maxRecDepth 100000 in
theorem rj_6 (s : ByteArray) (w : World) (h : ¬ 1200 < s.size) (hm : (sl s).take 3 = magic) (hy : (sl s)[3]? = some 6) (h4 : 3 < s.size) :
    Calls Tryz.prog 43 #[.string s] w fun e w' => e = .returned (.int .i64 (dec (sl s)).2) ∧ w' = w := by
  have hi : ¬ (1200 : Int) < (s.size : Int) := by omega
  have hi3 : ¬ (s.size : Int) < 3 := by omega
  have hi4 : ¬ (s.size : Int) < 4 := by omega
  have HD := Keep.mk (dec_6 (sl s) (by rw [sl_len]; omega) hm (kind_is s hm h4 hy))
  rw [sl_len] at HD
  have hg := mg s
  rw [decide_eq_true hm] at hg
  have ix : ∀ W, (Instr.index 9 (.string s) (.int .i64 3)).run Tryz.prog W = .ok (.int .u8 6) W := fun W => idx9 s 3 6 h4 hy W
  have HC := Keep.mk (rlong_6 s w hy h4)
  by_cases hc : 52 ≤ s.size
  · have hb : ∀ (q : Prop) [Decidable q], q → decide q = true := fun q _ z => decide_eq_true z
    rw [hb _ (by omega)] at HC
    clear hb
    rw [if_pos hc] at HD
    rw [HD.out]
    clear hc hm hy
    go_enter Tryz.func43, Tryz.ntmps43
    go_wp2_with fail
    refine HC.out.mono ?_
    rintro e w1 ⟨rfl, rfl⟩
    go_wp2_with fail
    go_ret
    exact ⟨rfl, rfl⟩
  · have hb : ∀ (q : Prop) [Decidable q], ¬ q → decide q = false := fun q _ z => decide_eq_false z
    rw [hb _ (by omega)] at HC
    clear hb
    rw [if_neg hc] at HD
    rw [HD.out]
    clear hc hm hy
    go_enter Tryz.func43, Tryz.ntmps43
    go_wp2_with fail
    refine HC.out.mono ?_
    rintro e w1 ⟨rfl, rfl⟩
    go_wp2_with fail
    go_ret
    exact ⟨rfl, rfl⟩
set_option maxHeartbeats 4000000 in
set_option maxRecDepth 100000 in
theorem rj_7 (s : ByteArray) (w : World) (h : ¬ 1200 < s.size) (hm : (sl s).take 3 = magic) (hy : (sl s)[3]? = some 7) (h4 : 3 < s.size) :
    Calls Tryz.prog 43 #[.string s] w fun e w' => e = .returned (.int .i64 (dec (sl s)).2) ∧ w' = w := by
  have hi : ¬ (1200 : Int) < (s.size : Int) := by omega
  have hi3 : ¬ (s.size : Int) < 3 := by omega
  have hi4 : ¬ (s.size : Int) < 4 := by omega
  have HD := Keep.mk (dec_7 (sl s) (by rw [sl_len]; omega) hm (kind_is s hm h4 hy))
  rw [sl_len] at HD
  have hg := mg s
  rw [decide_eq_true hm] at hg
  have ix : ∀ W, (Instr.index 9 (.string s) (.int .i64 3)).run Tryz.prog W = .ok (.int .u8 7) W := fun W => idx9 s 3 7 h4 hy W
  have HC := Keep.mk (rlong_7 s w hy h4)
  by_cases hc : s.size = 52
  · have hb : ∀ (q : Prop) [Decidable q], q → decide q = true := fun q _ z => decide_eq_true z
    rw [hb _ (by omega)] at HC
    clear hb
    rw [if_pos hc] at HD
    rw [HD.out]
    clear hc hm hy
    go_enter Tryz.func43, Tryz.ntmps43
    go_wp2_with fail
    refine HC.out.mono ?_
    rintro e w1 ⟨rfl, rfl⟩
    go_wp2_with fail
    go_ret
    exact ⟨rfl, rfl⟩
  · have hb : ∀ (q : Prop) [Decidable q], ¬ q → decide q = false := fun q _ z => decide_eq_false z
    rw [hb _ (by omega)] at HC
    clear hb
    rw [if_neg hc] at HD
    rw [HD.out]
    clear hc hm hy
    go_enter Tryz.func43, Tryz.ntmps43
    go_wp2_with fail
    refine HC.out.mono ?_
    rintro e w1 ⟨rfl, rfl⟩
    go_wp2_with fail
    go_ret
    exact ⟨rfl, rfl⟩
theorem rjudged_c (s : ByteArray) (w : World) : Calls Tryz.prog 43 #[.string s] w fun e w' => e = .returned (.int .i64 (dec (sl s)).2) ∧ w' = w := by
  by_cases h : 1200 < s.size
  · exact rj_big s w h
  by_cases hm : (sl s).take 3 = magic
  case neg => exact rj_magic s w h hm
  by_cases hk : kindL (sl s) < 1 ∨ 7 < kindL (sl s)
  · exact rj_none s w h hm hk
  have h3 := magic_len hm
  have h4 : 3 < s.size := by
    refine Classical.byContradiction fun q => hk (.inl ?_)
    unfold kindL
    rw [if_pos (.inl (by rw [sl_len]; omega))]; omega
  obtain ⟨y, hy⟩ : ∃ y, (sl s)[3]? = some y := ⟨_, List.getElem?_eq_getElem (by rw [sl_len]; omega)⟩
  rw [kind_is s hm h4 hy] at hk
  have hc : y = 1 ∨ y = 2 ∨ y = 3 ∨ y = 4 ∨ y = 5 ∨ y = 6 ∨ y = 7 := by
    have e : y = UInt8.ofNat y.toNat := by simp
    have : y.toNat = 1 ∨ y.toNat = 2 ∨ y.toNat = 3 ∨ y.toNat = 4 ∨ y.toNat = 5 ∨ y.toNat = 6 ∨ y.toNat = 7 := by omega
    rcases this with q | q | q | q | q | q | q <;> rw [q] at e <;> simp [e]
  rcases hc with rfl | rfl | rfl | rfl | rfl | rfl | rfl
  · exact rj_1 s w h hm hy h4
  · exact rj_2 s w h hm hy h4
  · exact rj_3 s w h hm hy h4
  · exact rj_4 s w h hm hy h4
  · exact rj_5 s w h hm hy h4
  · exact rj_6 s w h hm hy h4
  · exact rj_7 s w h hm hy h4
end Go.Proofs.YtiphnlfbgbemfaaGreatDoor.Pk

/- '==' of two datagrams that are the same -/
namespace Go.Proofs.YtiphnlfbgbemfaaGreatDoor.Pk
open Go Go.RowKit
set_option maxHeartbeats 8000000 in
set_option maxRecDepth 100000 in
theorem eqI26 (a : Dg) (W : World) : (Op.equalIn 10000 26 (.agg a.cells.toArray) (.agg a.cells.toArray)).run Tryz.prog W = .ok true W := by
  show (Op.equalIn 10000 26 (dv a) (dv a)).run Tryz.prog W = .ok true W
  unfold dv
  rw [show (10000 : Nat) = 9998 + 1 + 1 from rfl]
  go_simp
theorem eq26 (a : Dg) (W : World) : (binOp BinOp.eql 26 (.agg a.cells.toArray) (.agg a.cells.toArray)).run Tryz.prog W = .ok (.bool true) W := by
  rw [run_eql_struct, eqI26]; rfl
theorem neq26 (a : Dg) (W : World) : (binOp BinOp.neq 26 (.agg a.cells.toArray) (.agg a.cells.toArray)).run Tryz.prog W = .ok (.bool false) W := by
  rw [run_neq_struct, eqI26]; rfl
set_option maxRecDepth 100000 in
theorem guard26 (op : BinOp) (x y : Operand) (xs ys : Array Value) (W : World) : (eqGuard op 26 x y (.agg xs) (.agg ys)).run Tryz.prog W = .ok () W :=
  run_eqGuard_agg W op 26 x y xs ys (by kernel_rfl)
end Go.Proofs.YtiphnlfbgbemfaaGreatDoor.Pk

/- the chapter's second example -/
namespace Go.Proofs.YtiphnlfbgbemfaaGreatDoor.Pk
open Go Go.RowKit

def tag0 : ByteArray := ba (List.replicate 32 116)
def d0 : Dg := ⟨5, nob, 0, nob, nob, 1, 0, nob, 2, -1, 5, true, false, nob, tag0⟩
def h0L : List UInt8 := [74, 48, 49, 5, 0, 0, 0, 0, 0, 0, 0, 1, 0, 0, 0, 0, 0, 0, 0, 2, 255, 5, 1]
def S0L : List UInt8 := h0L ++ List.replicate 32 116
set_option maxRecDepth 100000 in
theorem enc0 : enc d0 = (S0L, 0) := by kernel_rfl
set_option maxRecDepth 100000 in
theorem body0 : bodyL S0L = h0L := by kernel_rfl
set_option maxRecDepth 100000 in
theorem encb0 : enc { d0 with tag := ba (List.replicate 32 0) } = (h0L ++ List.replicate 32 0, 0) := by kernel_rfl
set_option maxRecDepth 100000 in
theorem bodyb0 : bodyL (h0L ++ List.replicate 32 0) = h0L := by kernel_rfl
def kB : ByteArray := { data := #[107] }
def lB : ByteArray := { data := #[108] }
def mK : List UInt8 := Mac.hmac [107] h0L
def mL : List UInt8 := Mac.hmac [108] h0L
set_option maxRecDepth 100000 in
theorem mKL : (mK == mL) = false := by kernel_rfl
set_option maxRecDepth 100000 in
theorem mKT : (mK == List.replicate 32 116) = false := by kernel_rfl
set_option maxRecDepth 100000 in
theorem mKl : mK.length = 32 := by kernel_rfl
end Go.Proofs.YtiphnlfbgbemfaaGreatDoor.Pk

/- the laws' times -/
namespace Go.Proofs.YtiphnlfbgbemfaaGreatDoor.Pk
open Go Go.RowKit

def tmL (c : UInt8) (n i : Nat) : List UInt8 := List.replicate i c ++ List.replicate (n - i) 0
theorem tmL_len (c : UInt8) (n i : Nat) (h : i ≤ n) : (tmL c n i).length = n := by simp [tmL]; omega
theorem tmL_step (c : UInt8) (n i : Nat) (h : i < n) : (tmL c n i).set i c = tmL c n (i + 1) := by
  rw [tmL, tmL, List.set_append_right _ _ (by simp), List.length_replicate, Nat.sub_self, show n - i = (n - (i + 1)) + 1 by omega, List.replicate_succ, List.set_cons_zero, List.replicate_succ', List.append_assoc]
  rfl
structure TM (w w' : World) (c : UInt8) (n i : Nat) : Prop where
  h : Has w' w.heap.size ((tmL c n i).map bv) 5
  g : w.grownBy w' none
set_option maxHeartbeats 4000000 in
set_option maxRecDepth 100000 in
theorem times_c (c : UInt8) (x : Nat) (hx : c.toNat = x) (n : Nat) (hn : n ≤ 1048576) (w : World) :
    Calls Tryz.prog 15 #[.int .u8 (x : Int), .int .i64 (n : Int)] w fun e w' => e = .returned (.string (ba (List.replicate n c))) ∧ w.grownBy w' none := by
  have hmk := make28 n (by omega)
  have HZ : Keep (∀ W : World, Has (W.alloc (.cells ((List.replicate n (0 : UInt8)).map bv).toArray 5)) W.heap.size ((List.replicate n (0 : UInt8)).map bv) 5) := ⟨fun W => Has.new _ _ _⟩
  have hmk2 : ∀ W : World, (Instr.makeSlice 39 (.int .i64 (n : Int)) (.int .i64 (n : Int))).run Tryz.prog W = .ok (.slice (some ⟨W.heap.size, 0, none⟩) n n) (W.alloc (.cells ((List.replicate n (0 : UInt8)).map bv).toArray 5)) := hmk
  generalize ((List.replicate n (0 : UInt8)).map bv).toArray = Z at hmk2 HZ
  clear hmk
  have HX := Keep.mk hx
  clear hx
  go_enter Tryz.func15, Tryz.ntmps15
  go_wp2_with fail
  go_loopw [6] (fun t w' => ∃ i : Nat, i ≤ n ∧ t = .int .i64 i ∧ Keep (TM w w' c n i)) (fun t _ => n - (intOf t).toNat)
  case atStart => exact ⟨0, by omega, rfl, ⟨HZ.out _, World.grownBy_alloc _ _ _⟩⟩
  case round =>
    obtain ⟨i, hi, rfl, hrel⟩ := hrel
    by_cases hli : i < n
    · have hl := tmL_len c n i hi
      have hc : ∃ y, wr.cell? ⟨w.heap.size, i, none⟩ = some y := ⟨_, hrel.out.h.cellv i (bv ((tmL c n i)[i]'(by omega))) (by rw [List.getElem?_map, List.getElem?_eq_getElem]; rfl)⟩
      obtain ⟨y, hy⟩ := hc
      have hz : wr.frozen? ⟨w.heap.size, i, none⟩ = false := hrel.out.h.frozen i
      have HN : Keep (TM w (wr.setCell ⟨w.heap.size, i, none⟩ (.int .u8 (x : Int))) c n (i + 1)) := ⟨by
        have := hrel.out.h.setCell i (.int .u8 (x : Int))
        rw [show (Value.int .u8 (x : Int)) = bv c by rw [← HX.out], ← List.map_set, tmL_step c n i hli] at this
        rw [show (Value.int .u8 (x : Int)) = bv c by rw [← HX.out]]
        exact this, gr_new hrel.out.g (gr_set _ _ _ _) (Nat.le_refl _)⟩
      clear hrel hl
      go_wp2_with fail
      go_roundw
      case rel => exact ⟨i + 1, by omega, by go_num, HN⟩
      case measure => simp [intOf]; omega
    · obtain rfl : i = n := by omega
      have hh := hrel.out.h
      rw [show tmL c i i = List.replicate i c by simp [tmL]] at hh
      have hcv : (convert 39 9 (.slice (some ⟨w.heap.size, 0, none⟩) i i)).run Tryz.prog wr = .ok (.string (ba (List.replicate i c))) wr := by
        have := cvt_cells wr (some ⟨w.heap.size, 0, none⟩) i (List.replicate i c) (fun e => by cases e) (fun ad e j z hz => by
          obtain rfl := Option.some.inj e
          rw [Addr.add_mid, Nat.zero_add]
          exact hh.cellv j _ (by rw [List.getElem?_map, hz]; rfl))
        rw [List.length_replicate] at this
        exact this
      have HG := Keep.mk hrel.out.g
      obtain ⟨S, hS⟩ : ∃ S, ba (List.replicate i c) = S := ⟨_, rfl⟩
      rw [hS] at hcv
      have HS := Keep.mk hS
      clear hrel hh hS
      go_wp2_with fail
      go_ret
      exact ⟨by rw [HS.out]; rfl, HG.out⟩
end Go.Proofs.YtiphnlfbgbemfaaGreatDoor.Pk

