import Derived.Test.YtkdjcknikhgfkaaGreatDoorFJ1
import Derived.Test.YtkdjcknikhgfkaaGreatDoorFL1
/- Decode over lists, kind by kind -/
namespace Go.Proofs.YtkdjcknikhgfkaaGreatDoor.Pk
open Go Go.RowKit
set_option maxRecDepth 100000 in
theorem need_eq (L : List UInt8) (j : Nat) : need L (j : Int) = if j ≤ L.length then some (L.take j, L.drop j) else none := by
  unfold need
  by_cases h : j ≤ L.length
  · rw [if_pos h, if_neg (by omega), Int.toNat_natCast]
  · rw [if_neg h, if_pos (.inr (by omega))]
set_option maxRecDepth 100000 in
theorem need1_eq (L : List UInt8) : need L 1 = if 1 ≤ L.length then some (L.take 1, L.drop 1) else none := need_eq L 1
set_option maxRecDepth 100000 in
theorem need8_eq (L : List UInt8) : need L 8 = if 8 ≤ L.length then some (L.take 8, L.drop 8) else none := need_eq L 8
set_option maxRecDepth 100000 in
theorem need16_eq (L : List UInt8) : need L 16 = if 16 ≤ L.length then some (L.take 16, L.drop 16) else none := need_eq L 16
set_option maxRecDepth 100000 in
theorem need32_eq (L : List UInt8) : need L 32 = if 32 ≤ L.length then some (L.take 32, L.drop 32) else none := need_eq L 32
set_option maxRecDepth 100000 in
theorem need76_eq (L : List UInt8) : need L 76 = if 76 ≤ L.length then some (L.take 76, L.drop 76) else none := need_eq L 76
set_option maxRecDepth 100000 in
theorem dec_kind (s : List UInt8) (hl : s.length ≤ 1200) (hm : s.take 3 = magic) (hf : fieldsL (kindL s) ≠ []) : dec s = ended (takes (fieldsL (kindL s)) (Dg.zero (kindL s), s.drop 4, false)) := by
  unfold dec
  rw [if_neg (by omega), if_neg (fun h => h hm), if_neg hf]
set_option maxRecDepth 100000 in
theorem dec_1 (s : List UInt8) (hl : s.length ≤ 1200) (hm : s.take 3 = magic) (hk : kindL s = 1) : dec s = if s.length = 96 then (if ((s.drop 20).take 76) = zero76 then ({ Dg.zero 1 with nonce := ba ((s.drop 4).take 16) }, 0) else (Dg.zero 0, 73)) else (Dg.zero 0, 72) := by
  have hf : fieldsL (kindL s) = [.nonce, .zeros] := by rw [hk]; rfl
  rw [dec_kind s hl hm (by rw [hf]; simp), hf, hk]
  have hT : (s.drop 4).length = s.length - 4 := List.length_drop
  by_cases h0 : 16 ≤ (s.drop 4).length
  · skip
    by_cases h1 : 76 ≤ (s.drop 20).length
    · skip
      have hlen : (s.drop 96).length = s.length - 96 := List.length_drop
      simp only [takes, tk, need16_eq, need76_eq, List.drop_drop, Option.map_some, Option.bind_some, Nat.reduceAdd, h0, h1, if_true, Bool.false_or, ended]
      have hge : 96 ≤ s.length := by simp only [List.length_drop] at h0 h1; omega
      by_cases hn : s.length = 96
      · rw [if_pos hn, if_neg (by rw [hlen]; omega)]
        by_cases hc : ((s.drop 20).take 76) = zero76
        · rw [if_pos hc]; simp [hc]
        · rw [if_neg hc]; simp [hc]
      · rw [if_neg hn, if_pos (by rw [hlen]; omega)]
    · have hne : ¬ s.length = 96 := by intro e; apply h1; rw [List.length_drop, e]; decide
      rw [if_neg hne]
      simp only [takes, tk, need16_eq, need76_eq, List.drop_drop, Option.map_some, Option.map_none, Option.bind_some, Option.bind_none, Nat.reduceAdd, h0, h1, if_true, if_false, ended]
  · have hne : ¬ s.length = 96 := by intro e; apply h0; rw [List.length_drop, e]; decide
    rw [if_neg hne]
    simp only [takes, tk, need16_eq, Option.map_none, Option.bind_none, h0, if_false, ended]
set_option maxRecDepth 100000 in
theorem dec_2 (s : List UInt8) (hl : s.length ≤ 1200) (hm : s.take 3 = magic) (hk : kindL s = 2) : dec s = if s.length = 60 then ({ Dg.zero 2 with nonce := ba ((s.drop 4).take 16), epoch := val ((s.drop 20).take 8), cookie := ba ((s.drop 28).take 32) }, 0) else (Dg.zero 0, 72) := by
  have hf : fieldsL (kindL s) = [.nonce, .epoch, .cookie] := by rw [hk]; rfl
  rw [dec_kind s hl hm (by rw [hf]; simp), hf, hk]
  have hT : (s.drop 4).length = s.length - 4 := List.length_drop
  by_cases h0 : 16 ≤ (s.drop 4).length
  · skip
    by_cases h1 : 8 ≤ (s.drop 20).length
    · skip
      by_cases h2 : 32 ≤ (s.drop 28).length
      · skip
        have hlen : (s.drop 60).length = s.length - 60 := List.length_drop
        simp only [takes, tk, need16_eq, need32_eq, need8_eq, List.drop_drop, Option.map_some, Option.bind_some, Nat.reduceAdd, h0, h1, h2, if_true, ended]
        have hge : 60 ≤ s.length := by simp only [List.length_drop] at h0 h1 h2; omega
        by_cases hn : s.length = 60
        · rw [if_pos hn, if_neg (by rw [hlen]; omega)]
          rfl
        · rw [if_neg hn, if_pos (by rw [hlen]; omega)]
      · have hne : ¬ s.length = 60 := by intro e; apply h2; rw [List.length_drop, e]; decide
        rw [if_neg hne]
        simp only [takes, tk, need16_eq, need32_eq, need8_eq, List.drop_drop, Option.map_some, Option.map_none, Option.bind_some, Option.bind_none, Nat.reduceAdd, h0, h1, h2, if_true, if_false, ended]
    · have hne : ¬ s.length = 60 := by intro e; apply h1; rw [List.length_drop, e]; decide
      rw [if_neg hne]
      simp only [takes, tk, need16_eq, need8_eq, List.drop_drop, Option.map_some, Option.map_none, Option.bind_some, Option.bind_none, Nat.reduceAdd, h0, h1, if_true, if_false, ended]
  · have hne : ¬ s.length = 60 := by intro e; apply h0; rw [List.length_drop, e]; decide
    rw [if_neg hne]
    simp only [takes, tk, need16_eq, Option.map_none, Option.bind_none, h0, if_false, ended]
set_option maxRecDepth 100000 in
theorem dec_4 (s : List UInt8) (hl : s.length ≤ 1200) (hm : s.take 3 = magic) (hk : kindL s = 4) : dec s = if s.length = 77 then ({ Dg.zero 4 with nonce := ba ((s.drop 4).take 16), session := val ((s.drop 20).take 8), player := (val ((s.drop 28).take 1) : Nat), salt := ba ((s.drop 29).take 16), tag := ba ((s.drop 45).take 32) }, 0) else (Dg.zero 0, 72) := by
  have hf : fieldsL (kindL s) = [.nonce, .session, .player, .salt, .tag] := by rw [hk]; rfl
  rw [dec_kind s hl hm (by rw [hf]; simp), hf, hk]
  have hT : (s.drop 4).length = s.length - 4 := List.length_drop
  by_cases h0 : 16 ≤ (s.drop 4).length
  · skip
    by_cases h1 : 8 ≤ (s.drop 20).length
    · skip
      by_cases h2 : 1 ≤ (s.drop 28).length
      · skip
        by_cases h3 : 16 ≤ (s.drop 29).length
        · skip
          by_cases h4 : 32 ≤ (s.drop 45).length
          · skip
            have hlen : (s.drop 77).length = s.length - 77 := List.length_drop
            simp only [takes, tk, need16_eq, need1_eq, need32_eq, need8_eq, List.drop_drop, Option.map_some, Option.bind_some, Nat.reduceAdd, h0, h1, h2, h3, h4, if_true, ended]
            have hge : 77 ≤ s.length := by simp only [List.length_drop] at h0 h1 h2 h3 h4; omega
            by_cases hn : s.length = 77
            · rw [if_pos hn, if_neg (by rw [hlen]; omega)]
              rfl
            · rw [if_neg hn, if_pos (by rw [hlen]; omega)]
          · have hne : ¬ s.length = 77 := by intro e; apply h4; rw [List.length_drop, e]; decide
            rw [if_neg hne]
            simp only [takes, tk, need16_eq, need1_eq, need32_eq, need8_eq, List.drop_drop, Option.map_some, Option.map_none, Option.bind_some, Option.bind_none, Nat.reduceAdd, h0, h1, h2, h3, h4, if_true, if_false, ended]
        · have hne : ¬ s.length = 77 := by intro e; apply h3; rw [List.length_drop, e]; decide
          rw [if_neg hne]
          simp only [takes, tk, need16_eq, need1_eq, need8_eq, List.drop_drop, Option.map_some, Option.map_none, Option.bind_some, Option.bind_none, Nat.reduceAdd, h0, h1, h2, h3, if_true, if_false, ended]
      · have hne : ¬ s.length = 77 := by intro e; apply h2; rw [List.length_drop, e]; decide
        rw [if_neg hne]
        simp only [takes, tk, need16_eq, need1_eq, need8_eq, List.drop_drop, Option.map_some, Option.map_none, Option.bind_some, Option.bind_none, Nat.reduceAdd, h0, h1, h2, if_true, if_false, ended]
    · have hne : ¬ s.length = 77 := by intro e; apply h1; rw [List.length_drop, e]; decide
      rw [if_neg hne]
      simp only [takes, tk, need16_eq, need8_eq, List.drop_drop, Option.map_some, Option.map_none, Option.bind_some, Option.bind_none, Nat.reduceAdd, h0, h1, if_true, if_false, ended]
  · have hne : ¬ s.length = 77 := by intro e; apply h0; rw [List.length_drop, e]; decide
    rw [if_neg hne]
    simp only [takes, tk, need16_eq, Option.map_none, Option.bind_none, h0, if_false, ended]
set_option maxRecDepth 100000 in
theorem dec_5 (s : List UInt8) (hl : s.length ≤ 1200) (hm : s.take 3 = magic) (hk : kindL s = 5) : dec s = if s.length = 55 then (if val ((s.drop 22).take 1) ≤ 3 then ({ Dg.zero 5 with session := val ((s.drop 4).take 8), seq := val ((s.drop 12).take 8), thr := sval ((s.drop 20).take 1), turn := sval ((s.drop 21).take 1), fire := decide (val ((s.drop 22).take 1) % 2 = 1), boost := decide (val ((s.drop 22).take 1) / 2 % 2 = 1), tag := ba ((s.drop 23).take 32) }, 0) else (Dg.zero 0, 73)) else (Dg.zero 0, 72) := by
  have hf : fieldsL (kindL s) = [.session, .seq, .thr, .turn, .flags, .tag] := by rw [hk]; rfl
  rw [dec_kind s hl hm (by rw [hf]; simp), hf, hk]
  have hT : (s.drop 4).length = s.length - 4 := List.length_drop
  by_cases h0 : 8 ≤ (s.drop 4).length
  · skip
    by_cases h1 : 8 ≤ (s.drop 12).length
    · skip
      by_cases h2 : 1 ≤ (s.drop 20).length
      · skip
        by_cases h3 : 1 ≤ (s.drop 21).length
        · skip
          by_cases h4 : 1 ≤ (s.drop 22).length
          · skip
            by_cases h5 : 32 ≤ (s.drop 23).length
            · skip
              have hlen : (s.drop 55).length = s.length - 55 := List.length_drop
              simp only [takes, tk, need1_eq, need32_eq, need8_eq, List.drop_drop, Option.map_some, Option.bind_some, Nat.reduceAdd, h0, h1, h2, h3, h4, h5, if_true, Bool.false_or, ended]
              have hge : 55 ≤ s.length := by simp only [List.length_drop] at h0 h1 h2 h3 h4 h5; omega
              by_cases hn : s.length = 55
              · rw [if_pos hn, if_neg (by rw [hlen]; omega)]
                by_cases hc : val ((s.drop 22).take 1) ≤ 3
                · rw [if_pos hc]; simp [hc]
                · rw [if_neg hc]; simp [hc]
              · rw [if_neg hn, if_pos (by rw [hlen]; omega)]
            · have hne : ¬ s.length = 55 := by intro e; apply h5; rw [List.length_drop, e]; decide
              rw [if_neg hne]
              simp only [takes, tk, need1_eq, need32_eq, need8_eq, List.drop_drop, Option.map_some, Option.map_none, Option.bind_some, Option.bind_none, Nat.reduceAdd, h0, h1, h2, h3, h4, h5, if_true, if_false, ended]
          · have hne : ¬ s.length = 55 := by intro e; apply h4; rw [List.length_drop, e]; decide
            rw [if_neg hne]
            simp only [takes, tk, need1_eq, need8_eq, List.drop_drop, Option.map_some, Option.map_none, Option.bind_some, Option.bind_none, Nat.reduceAdd, h0, h1, h2, h3, h4, if_true, if_false, ended]
        · have hne : ¬ s.length = 55 := by intro e; apply h3; rw [List.length_drop, e]; decide
          rw [if_neg hne]
          simp only [takes, tk, need1_eq, need8_eq, List.drop_drop, Option.map_some, Option.map_none, Option.bind_some, Option.bind_none, Nat.reduceAdd, h0, h1, h2, h3, if_true, if_false, ended]
      · have hne : ¬ s.length = 55 := by intro e; apply h2; rw [List.length_drop, e]; decide
        rw [if_neg hne]
        simp only [takes, tk, need1_eq, need8_eq, List.drop_drop, Option.map_some, Option.map_none, Option.bind_some, Option.bind_none, Nat.reduceAdd, h0, h1, h2, if_true, if_false, ended]
    · have hne : ¬ s.length = 55 := by intro e; apply h1; rw [List.length_drop, e]; decide
      rw [if_neg hne]
      simp only [takes, tk, need8_eq, List.drop_drop, Option.map_some, Option.map_none, Option.bind_some, Option.bind_none, Nat.reduceAdd, h0, h1, if_true, if_false, ended]
  · have hne : ¬ s.length = 55 := by intro e; apply h0; rw [List.length_drop, e]; decide
    rw [if_neg hne]
    simp only [takes, tk, need8_eq, Option.map_none, Option.bind_none, h0, if_false, ended]
set_option maxRecDepth 100000 in
theorem dec_7 (s : List UInt8) (hl : s.length ≤ 1200) (hm : s.take 3 = magic) (hk : kindL s = 7) : dec s = if s.length = 52 then ({ Dg.zero 7 with session := val ((s.drop 4).take 8), seq := val ((s.drop 12).take 8), tag := ba ((s.drop 20).take 32) }, 0) else (Dg.zero 0, 72) := by
  have hf : fieldsL (kindL s) = [.session, .seq, .tag] := by rw [hk]; rfl
  rw [dec_kind s hl hm (by rw [hf]; simp), hf, hk]
  have hT : (s.drop 4).length = s.length - 4 := List.length_drop
  by_cases h0 : 8 ≤ (s.drop 4).length
  · skip
    by_cases h1 : 8 ≤ (s.drop 12).length
    · skip
      by_cases h2 : 32 ≤ (s.drop 20).length
      · skip
        have hlen : (s.drop 52).length = s.length - 52 := List.length_drop
        simp only [takes, tk, need32_eq, need8_eq, List.drop_drop, Option.map_some, Option.bind_some, Nat.reduceAdd, h0, h1, h2, if_true, ended]
        have hge : 52 ≤ s.length := by simp only [List.length_drop] at h0 h1 h2; omega
        by_cases hn : s.length = 52
        · rw [if_pos hn, if_neg (by rw [hlen]; omega)]
          rfl
        · rw [if_neg hn, if_pos (by rw [hlen]; omega)]
      · have hne : ¬ s.length = 52 := by intro e; apply h2; rw [List.length_drop, e]; decide
        rw [if_neg hne]
        simp only [takes, tk, need32_eq, need8_eq, List.drop_drop, Option.map_some, Option.map_none, Option.bind_some, Option.bind_none, Nat.reduceAdd, h0, h1, h2, if_true, if_false, ended]
    · have hne : ¬ s.length = 52 := by intro e; apply h1; rw [List.length_drop, e]; decide
      rw [if_neg hne]
      simp only [takes, tk, need8_eq, List.drop_drop, Option.map_some, Option.map_none, Option.bind_some, Option.bind_none, Nat.reduceAdd, h0, h1, if_true, if_false, ended]
  · have hne : ¬ s.length = 52 := by intro e; apply h0; rw [List.length_drop, e]; decide
    rw [if_neg hne]
    simp only [takes, tk, need8_eq, Option.map_none, Option.bind_none, h0, if_false, ended]
end Go.Proofs.YtkdjcknikhgfkaaGreatDoor.Pk
