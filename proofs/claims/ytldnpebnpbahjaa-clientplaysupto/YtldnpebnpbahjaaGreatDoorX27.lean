import Derived.Test.YtldnpebnpbahjaaGreatDoorX14
import Derived.Test.YtldnpebnpbahjaaGreatDoorX25
import Derived.Test.YtldnpebnpbahjaaGreatDoorX24
set_option maxRecDepth 100000
set_option maxHeartbeats 8000000
namespace Go.Proofs.YtldnpebnpbahjaaGreatDoor.Pk
open Go Go.RowKit
theorem need_eq (L : List UInt8) (j : Nat) : need L (j : Int) = if j ≤ L.length then some (L.take j, L.drop j) else none := by
  unfold need; by_cases h : j ≤ L.length
  · rw [if_pos h, if_neg (by omega), Int.toNat_natCast]
  · rw [if_neg h, if_pos (.inr (by omega))]
theorem need1_eq (L : List UInt8) : need L 1 = if 1 ≤ L.length then some (L.take 1, L.drop 1) else none := need_eq L 1
theorem need8_eq (L : List UInt8) : need L 8 = if 8 ≤ L.length then some (L.take 8, L.drop 8) else none := need_eq L 8
theorem need16_eq (L : List UInt8) : need L 16 = if 16 ≤ L.length then some (L.take 16, L.drop 16) else none := need_eq L 16
theorem need32_eq (L : List UInt8) : need L 32 = if 32 ≤ L.length then some (L.take 32, L.drop 32) else none := need_eq L 32
theorem need76_eq (L : List UInt8) : need L 76 = if 76 ≤ L.length then some (L.take 76, L.drop 76) else none := need_eq L 76
theorem dec_kind (s : List UInt8) (hl : s.length ≤ 1200) (hm : s.take 3 = magic) (hf : fieldsL (kindL s) ≠ []) : dec s = ended (takes (fieldsL (kindL s)) (Dg.zero (kindL s), s.drop 4, false)) := by
  unfold dec; rw [if_neg (by omega), if_neg (fun h => h hm), if_neg hf]
theorem dec_1 (s : List UInt8) (hl : s.length ≤ 1200) (hm : s.take 3 = magic) (hk : kindL s = 1) : dec s = if s.length = 96 then (if ((s.drop 20).take 76) = zero76 then ({ Dg.zero 1 with nonce := ba ((s.drop 4).take 16) }, 0) else (Dg.zero 0, 73)) else (Dg.zero 0, 72) := by
  have hf : fieldsL (kindL s) = [.nonce, .zeros] := by rw [hk]; rfl
  rw [dec_kind s hl hm (by rw [hf]; simp), hf, hk]; have hT : (s.drop 4).length = s.length - 4 := List.length_drop; by_cases h0 : 16 ≤ (s.drop 4).length
  · skip
    by_cases h1 : 76 ≤ (s.drop 20).length
    · skip
      have hlen : (s.drop 96).length = s.length - 96 := List.length_drop; simp only [takes, tk, need16_eq, need76_eq, List.drop_drop, Option.map_some, Option.bind_some, Nat.reduceAdd, h0, h1, if_true, Bool.false_or, ended]; (have hge : 96 ≤ s.length := by simp only [List.length_drop] at h0 h1; omega); by_cases hn : s.length = 96
      · rw [if_pos hn, if_neg (by rw [hlen]; omega)]; by_cases hc : ((s.drop 20).take 76) = zero76
        · rw [if_pos hc]; simp [hc]
        · rw [if_neg hc]; simp [hc]
      · rw [if_neg hn, if_pos (by rw [hlen]; omega)]
    · (have hne : ¬ s.length = 96 := by intro e; apply h1; rw [List.length_drop, e]; decide); rw [if_neg hne]; simp only [takes, tk, need16_eq, need76_eq, List.drop_drop, Option.map_some, Option.map_none, Option.bind_some, Option.bind_none, Nat.reduceAdd, h0, h1, if_true, if_false, ended]
  · (have hne : ¬ s.length = 96 := by intro e; apply h0; rw [List.length_drop, e]; decide); rw [if_neg hne]; simp only [takes, tk, need16_eq, Option.map_none, Option.bind_none, h0, if_false, ended]
theorem dec_2 (s : List UInt8) (hl : s.length ≤ 1200) (hm : s.take 3 = magic) (hk : kindL s = 2) : dec s = if s.length = 60 then ({ Dg.zero 2 with nonce := ba ((s.drop 4).take 16), epoch := val ((s.drop 20).take 8), cookie := ba ((s.drop 28).take 32) }, 0) else (Dg.zero 0, 72) := by
  have hf : fieldsL (kindL s) = [.nonce, .epoch, .cookie] := by rw [hk]; rfl
  rw [dec_kind s hl hm (by rw [hf]; simp), hf, hk]; have hT : (s.drop 4).length = s.length - 4 := List.length_drop; by_cases h0 : 16 ≤ (s.drop 4).length
  · skip
    by_cases h1 : 8 ≤ (s.drop 20).length
    · skip
      by_cases h2 : 32 ≤ (s.drop 28).length
      · skip
        have hlen : (s.drop 60).length = s.length - 60 := List.length_drop; simp only [takes, tk, need16_eq, need32_eq, need8_eq, List.drop_drop, Option.map_some, Option.bind_some, Nat.reduceAdd, h0, h1, h2, if_true, ended]; (have hge : 60 ≤ s.length := by simp only [List.length_drop] at h0 h1 h2; omega); by_cases hn : s.length = 60
        · rw [if_pos hn, if_neg (by rw [hlen]; omega)]; rfl
        · rw [if_neg hn, if_pos (by rw [hlen]; omega)]
      · (have hne : ¬ s.length = 60 := by intro e; apply h2; rw [List.length_drop, e]; decide); rw [if_neg hne]; simp only [takes, tk, need16_eq, need32_eq, need8_eq, List.drop_drop, Option.map_some, Option.map_none, Option.bind_some, Option.bind_none, Nat.reduceAdd, h0, h1, h2, if_true, if_false, ended]
    · (have hne : ¬ s.length = 60 := by intro e; apply h1; rw [List.length_drop, e]; decide); rw [if_neg hne]; simp only [takes, tk, need16_eq, need8_eq, List.drop_drop, Option.map_some, Option.map_none, Option.bind_some, Option.bind_none, Nat.reduceAdd, h0, h1, if_true, if_false, ended]
  · (have hne : ¬ s.length = 60 := by intro e; apply h0; rw [List.length_drop, e]; decide); rw [if_neg hne]; simp only [takes, tk, need16_eq, Option.map_none, Option.bind_none, h0, if_false, ended]
theorem dec_4 (s : List UInt8) (hl : s.length ≤ 1200) (hm : s.take 3 = magic) (hk : kindL s = 4) : dec s = if s.length = 77 then ({ Dg.zero 4 with nonce := ba ((s.drop 4).take 16), session := val ((s.drop 20).take 8), player := (val ((s.drop 28).take 1) : Nat), salt := ba ((s.drop 29).take 16), tag := ba ((s.drop 45).take 32) }, 0) else (Dg.zero 0, 72) := by
  have hf : fieldsL (kindL s) = [.nonce, .session, .player, .salt, .tag] := by rw [hk]; rfl
  rw [dec_kind s hl hm (by rw [hf]; simp), hf, hk]; have hT : (s.drop 4).length = s.length - 4 := List.length_drop; by_cases h0 : 16 ≤ (s.drop 4).length
  · skip
    by_cases h1 : 8 ≤ (s.drop 20).length
    · skip
      by_cases h2 : 1 ≤ (s.drop 28).length
      · skip
        by_cases h3 : 16 ≤ (s.drop 29).length
        · skip
          by_cases h4 : 32 ≤ (s.drop 45).length
          · skip
            have hlen : (s.drop 77).length = s.length - 77 := List.length_drop; simp only [takes, tk, need16_eq, need1_eq, need32_eq, need8_eq, List.drop_drop, Option.map_some, Option.bind_some, Nat.reduceAdd, h0, h1, h2, h3, h4, if_true, ended]; (have hge : 77 ≤ s.length := by simp only [List.length_drop] at h0 h1 h2 h3 h4; omega); by_cases hn : s.length = 77
            · rw [if_pos hn, if_neg (by rw [hlen]; omega)]; rfl
            · rw [if_neg hn, if_pos (by rw [hlen]; omega)]
          · (have hne : ¬ s.length = 77 := by intro e; apply h4; rw [List.length_drop, e]; decide); rw [if_neg hne]; simp only [takes, tk, need16_eq, need1_eq, need32_eq, need8_eq, List.drop_drop, Option.map_some, Option.map_none, Option.bind_some, Option.bind_none, Nat.reduceAdd, h0, h1, h2, h3, h4, if_true, if_false, ended]
        · (have hne : ¬ s.length = 77 := by intro e; apply h3; rw [List.length_drop, e]; decide); rw [if_neg hne]; simp only [takes, tk, need16_eq, need1_eq, need8_eq, List.drop_drop, Option.map_some, Option.map_none, Option.bind_some, Option.bind_none, Nat.reduceAdd, h0, h1, h2, h3, if_true, if_false, ended]
      · (have hne : ¬ s.length = 77 := by intro e; apply h2; rw [List.length_drop, e]; decide); rw [if_neg hne]; simp only [takes, tk, need16_eq, need1_eq, need8_eq, List.drop_drop, Option.map_some, Option.map_none, Option.bind_some, Option.bind_none, Nat.reduceAdd, h0, h1, h2, if_true, if_false, ended]
    · (have hne : ¬ s.length = 77 := by intro e; apply h1; rw [List.length_drop, e]; decide); rw [if_neg hne]; simp only [takes, tk, need16_eq, need8_eq, List.drop_drop, Option.map_some, Option.map_none, Option.bind_some, Option.bind_none, Nat.reduceAdd, h0, h1, if_true, if_false, ended]
  · (have hne : ¬ s.length = 77 := by intro e; apply h0; rw [List.length_drop, e]; decide); rw [if_neg hne]; simp only [takes, tk, need16_eq, Option.map_none, Option.bind_none, h0, if_false, ended]
theorem dec_5 (s : List UInt8) (hl : s.length ≤ 1200) (hm : s.take 3 = magic) (hk : kindL s = 5) : dec s = if s.length = 55 then (if val ((s.drop 22).take 1) ≤ 3 then ({ Dg.zero 5 with session := val ((s.drop 4).take 8), seq := val ((s.drop 12).take 8), thr := sval ((s.drop 20).take 1), turn := sval ((s.drop 21).take 1), fire := decide (val ((s.drop 22).take 1) % 2 = 1), boost := decide (val ((s.drop 22).take 1) / 2 % 2 = 1), tag := ba ((s.drop 23).take 32) }, 0) else (Dg.zero 0, 73)) else (Dg.zero 0, 72) := by
  have hf : fieldsL (kindL s) = [.session, .seq, .thr, .turn, .flags, .tag] := by rw [hk]; rfl
  rw [dec_kind s hl hm (by rw [hf]; simp), hf, hk]; have hT : (s.drop 4).length = s.length - 4 := List.length_drop; by_cases h0 : 8 ≤ (s.drop 4).length
  · skip
    by_cases h1 : 8 ≤ (s.drop 12).length
    · skip
      by_cases h2 : 1 ≤ (s.drop 20).length
      · skip
        by_cases h3 : 1 ≤ (s.drop 21).length
        · skip
          by_cases h4 : 1 ≤ (s.drop 22).length
          · skip
            by_cases h5 : 32 ≤ (s.drop 23).length
            · skip
              have hlen : (s.drop 55).length = s.length - 55 := List.length_drop; simp only [takes, tk, need1_eq, need32_eq, need8_eq, List.drop_drop, Option.map_some, Option.bind_some, Nat.reduceAdd, h0, h1, h2, h3, h4, h5, if_true, Bool.false_or, ended]; (have hge : 55 ≤ s.length := by simp only [List.length_drop] at h0 h1 h2 h3 h4 h5; omega); by_cases hn : s.length = 55
              · rw [if_pos hn, if_neg (by rw [hlen]; omega)]; by_cases hc : val ((s.drop 22).take 1) ≤ 3
                · rw [if_pos hc]; simp [hc]
                · rw [if_neg hc]; simp [hc]
              · rw [if_neg hn, if_pos (by rw [hlen]; omega)]
            · (have hne : ¬ s.length = 55 := by intro e; apply h5; rw [List.length_drop, e]; decide); rw [if_neg hne]; simp only [takes, tk, need1_eq, need32_eq, need8_eq, List.drop_drop, Option.map_some, Option.map_none, Option.bind_some, Option.bind_none, Nat.reduceAdd, h0, h1, h2, h3, h4, h5, if_true, if_false, ended]
          · (have hne : ¬ s.length = 55 := by intro e; apply h4; rw [List.length_drop, e]; decide); rw [if_neg hne]; simp only [takes, tk, need1_eq, need8_eq, List.drop_drop, Option.map_some, Option.map_none, Option.bind_some, Option.bind_none, Nat.reduceAdd, h0, h1, h2, h3, h4, if_true, if_false, ended]
        · (have hne : ¬ s.length = 55 := by intro e; apply h3; rw [List.length_drop, e]; decide); rw [if_neg hne]; simp only [takes, tk, need1_eq, need8_eq, List.drop_drop, Option.map_some, Option.map_none, Option.bind_some, Option.bind_none, Nat.reduceAdd, h0, h1, h2, h3, if_true, if_false, ended]
      · (have hne : ¬ s.length = 55 := by intro e; apply h2; rw [List.length_drop, e]; decide); rw [if_neg hne]; simp only [takes, tk, need1_eq, need8_eq, List.drop_drop, Option.map_some, Option.map_none, Option.bind_some, Option.bind_none, Nat.reduceAdd, h0, h1, h2, if_true, if_false, ended]
    · (have hne : ¬ s.length = 55 := by intro e; apply h1; rw [List.length_drop, e]; decide); rw [if_neg hne]; simp only [takes, tk, need8_eq, List.drop_drop, Option.map_some, Option.map_none, Option.bind_some, Option.bind_none, Nat.reduceAdd, h0, h1, if_true, if_false, ended]
  · (have hne : ¬ s.length = 55 := by intro e; apply h0; rw [List.length_drop, e]; decide); rw [if_neg hne]; simp only [takes, tk, need8_eq, Option.map_none, Option.bind_none, h0, if_false, ended]
theorem dec_7 (s : List UInt8) (hl : s.length ≤ 1200) (hm : s.take 3 = magic) (hk : kindL s = 7) : dec s = if s.length = 52 then ({ Dg.zero 7 with session := val ((s.drop 4).take 8), seq := val ((s.drop 12).take 8), tag := ba ((s.drop 20).take 32) }, 0) else (Dg.zero 0, 72) := by
  have hf : fieldsL (kindL s) = [.session, .seq, .tag] := by rw [hk]; rfl
  rw [dec_kind s hl hm (by rw [hf]; simp), hf, hk]; have hT : (s.drop 4).length = s.length - 4 := List.length_drop; by_cases h0 : 8 ≤ (s.drop 4).length
  · skip
    by_cases h1 : 8 ≤ (s.drop 12).length
    · skip
      by_cases h2 : 32 ≤ (s.drop 20).length
      · skip
        have hlen : (s.drop 52).length = s.length - 52 := List.length_drop; simp only [takes, tk, need32_eq, need8_eq, List.drop_drop, Option.map_some, Option.bind_some, Nat.reduceAdd, h0, h1, h2, if_true, ended]; (have hge : 52 ≤ s.length := by simp only [List.length_drop] at h0 h1 h2; omega); by_cases hn : s.length = 52
        · rw [if_pos hn, if_neg (by rw [hlen]; omega)]; rfl
        · rw [if_neg hn, if_pos (by rw [hlen]; omega)]
      · (have hne : ¬ s.length = 52 := by intro e; apply h2; rw [List.length_drop, e]; decide); rw [if_neg hne]; simp only [takes, tk, need32_eq, need8_eq, List.drop_drop, Option.map_some, Option.map_none, Option.bind_some, Option.bind_none, Nat.reduceAdd, h0, h1, h2, if_true, if_false, ended]
    · (have hne : ¬ s.length = 52 := by intro e; apply h1; rw [List.length_drop, e]; decide); rw [if_neg hne]; simp only [takes, tk, need8_eq, List.drop_drop, Option.map_some, Option.map_none, Option.bind_some, Option.bind_none, Nat.reduceAdd, h0, h1, if_true, if_false, ended]
  · (have hne : ¬ s.length = 52 := by intro e; apply h0; rw [List.length_drop, e]; decide); rw [if_neg hne]; simp only [takes, tk, need8_eq, Option.map_none, Option.bind_none, h0, if_false, ended]
theorem dec_6 (s : List UInt8) (hl : s.length ≤ 1200) (hm : s.take 3 = magic) (hk : kindL s = 6) : dec s = if 52 ≤ s.length then ({ Dg.zero 6 with session := val ((s.drop 4).take 8), seq := val ((s.drop 12).take 8), data := ba ((s.drop 20).take (s.length - 52)), tag := ba (s.drop (s.length - 32)) }, 0) else (Dg.zero 0, 72) := by
  have hf : fieldsL (kindL s) = [.session, .seq, .view, .tag] := by rw [hk]; rfl
  rw [dec_kind s hl hm (by rw [hf]; simp), hf, hk]; by_cases h0 : 8 ≤ (s.drop 4).length
  · by_cases h1 : 8 ≤ (s.drop 12).length
    · simp only [takes, tk, need8_eq, List.drop_drop, Option.map_some, Option.bind_some, Nat.reduceAdd, h0, h1, if_true]; by_cases h2 : 52 ≤ s.length
      · (have e : ((s.drop 20).length : Int) - 32 = ((s.length - 52 : Nat) : Int) := by rw [List.length_drop]; omega); rw [if_pos h2, e, need_eq, if_pos (by rw [List.length_drop]; omega)]; simp only [Option.map_some, Option.bind_some, List.drop_drop]; rw [need32_eq, show 20 + (s.length - 52) = s.length - 32 by omega, if_pos (by rw [List.length_drop]; omega)]; have e2 : (s.drop (s.length - 32)).take 32 = s.drop (s.length - 32) := List.take_of_length_le (by rw [List.length_drop]; omega); simp only [Option.map_some, Option.bind_some, List.drop_drop, ended, e2]; rw [if_neg (by rw [List.length_drop]; omega)]; rfl
      · rw [if_neg h2, need, if_pos (.inl (by rw [List.length_drop]; omega))]; rfl
    · rw [if_neg (by rw [List.length_drop] at h1; omega)]; simp only [takes, tk, need8_eq, List.drop_drop, Option.map_some, Option.map_none, Option.bind_some, Option.bind_none, Nat.reduceAdd, h0, h1, if_true, if_false, ended]
  · rw [if_neg (by rw [List.length_drop] at h0; omega)]; simp only [takes, tk, need8_eq, Option.map_none, Option.bind_none, h0, if_false, ended]
theorem dec_3 (s : List UInt8) (hl : s.length ≤ 1200) (hm : s.take 3 = magic) (hk : kindL s = 3) : dec s = if 93 ≤ s.length ∧ s.length = 93 + (s.getD 60 0).toNat then ({ Dg.zero 3 with nonce := ba ((s.drop 4).take 16), epoch := val ((s.drop 20).take 8), cookie := ba ((s.drop 28).take 32), name := ba ((s.drop 61).take (s.length - 93)), tag := ba (s.drop (s.length - 32)) }, 0) else (Dg.zero 0, 72) := by
  have hf : fieldsL (kindL s) = [.nonce, .epoch, .cookie, .name, .tag] := by rw [hk]; rfl
  rw [dec_kind s hl hm (by rw [hf]; simp), hf, hk]; by_cases h0 : 16 ≤ (s.drop 4).length
  · by_cases h1 : 8 ≤ (s.drop 20).length
    · by_cases h2 : 32 ≤ (s.drop 28).length
      · by_cases h3 : 1 ≤ (s.drop 60).length
        · simp only [takes, tk, need8_eq, need16_eq, need32_eq, need1_eq, List.drop_drop, Option.map_some, Option.bind_some, Nat.reduceAdd, h0, h1, h2, h3, if_true]
          have hv : val ((s.drop 60).take 1) = (s.getD 60 0).toNat := by
            (have hlt : 60 < s.length := by rw [List.length_drop] at h3; omega); obtain ⟨y, hy⟩ : ∃ y, s[60]? = some y := ⟨_, List.getElem?_eq_getElem hlt⟩
            have e : s.drop 60 = y :: s.drop 61 := by
              rw [List.drop_eq_getElem_cons hlt]
              congr 1
              rw [List.getElem?_eq_getElem hlt] at hy; exact Option.some.inj hy
            rw [e]; simp [val, List.getD, hy]
          rw [hv]; generalize (s.getD 60 0).toNat = v at *; rw [need_eq]; by_cases h4 : v ≤ (s.drop 61).length
          · rw [if_pos h4]; simp only [Option.map_some, Option.bind_some, List.drop_drop]; by_cases h5 : 32 ≤ (s.drop (61 + v)).length
            · rw [if_pos h5]; simp only [Option.map_some, Option.bind_some, ended]; simp only [List.length_drop] at h4 h5; by_cases hc : s.length = 93 + v
              · have e2 : (s.drop (61 + v)).take 32 = s.drop (s.length - 32) := by
                  rw [show 61 + v = s.length - 32 by omega]; exact List.take_of_length_le (by rw [List.length_drop]; omega)
                rw [if_neg (by rw [List.length_drop]; omega), if_neg Bool.false_ne_true, if_pos ⟨by omega, hc⟩, e2, show s.length - 93 = v by omega]
              · rw [if_pos (by rw [List.length_drop]; omega), if_neg (fun q => hc q.2)]
            · rw [if_neg h5, if_neg (by rw [List.length_drop] at h5; omega)]; rfl
          · rw [if_neg h4, if_neg (by rw [List.length_drop] at h4; omega)]; rfl
        · rw [if_neg (by rw [List.length_drop] at h3; omega)]; simp only [takes, tk, need8_eq, need16_eq, need32_eq, need1_eq, List.drop_drop, Option.map_some, Option.bind_some, Option.bind_none, Nat.reduceAdd, h0, h1, h2, h3, if_true, if_false, ended]
      · rw [if_neg (by rw [List.length_drop] at h2; omega)]; simp only [takes, tk, need8_eq, need16_eq, need32_eq, List.drop_drop, Option.map_some, Option.map_none, Option.bind_some, Option.bind_none, Nat.reduceAdd, h0, h1, h2, if_true, if_false, ended]
    · rw [if_neg (by rw [List.length_drop] at h1; omega)]; simp only [takes, tk, need8_eq, need16_eq, List.drop_drop, Option.map_some, Option.map_none, Option.bind_some, Option.bind_none, Nat.reduceAdd, h0, h1, if_true, if_false, ended]
  · rw [if_neg (by rw [List.length_drop] at h0; omega)]; simp only [takes, tk, need16_eq, Option.map_none, Option.bind_none, h0, if_false, ended]
theorem dec_big (s : List UInt8) (h : 1200 < s.length) : dec s = (Dg.zero 0, 72) := by rw [dec, if_pos h]
theorem dec_magic (s : List UInt8) (hl : ¬ 1200 < s.length) (hm : s.take 3 ≠ magic) : dec s = (Dg.zero 0, 70) := by rw [dec, if_neg hl, if_pos hm]
theorem dec_none (s : List UInt8) (hl : ¬ 1200 < s.length) (hm : s.take 3 = magic) (hk : kindL s < 1 ∨ 7 < kindL s) : dec s = (Dg.zero 0, 71) := by
  rw [dec, if_neg hl, if_neg (fun q => q hm), if_pos]; unfold fieldsL
  repeat rw [if_neg (by omega)]
open Go.Proofs.Tryz
theorem rsigned_c (b : UInt8) (w : World) :
    CRs 121 #[.int .u8 (b.toNat : Int)] w (.int .i64 (sval [b])) := by
  have hb := UInt8.toNat_lt b
  have hs : sval [b] = if (b.toNat : Int) > 127 then (b.toNat : Int) - 256 else (b.toNat : Int) := by
    unfold sval; (have hv : val [b] = b.toNat := by simp [val]); rw [hv]; (have e : (256 ^ [b].length : Nat) = 256 := by simp); rw [e]; by_cases h : 127 < b.toNat
    · rw [if_neg (by omega), if_pos (by omega)]; rfl
    · rw [if_pos (by omega), if_neg (by omega)]
  rw [hs]; obtain ⟨z, hz⟩ : ∃ z : Int, (b.toNat : Int) = z := ⟨_, rfl⟩; have z0 : 0 ≤ z := by omega
  have z1 : z ≤ 255 := by omega
  rw [hz]; clear hs hz hb; have w1 : IntKind.i64.wrap z = z := IntWalk.i64_in _ (by omega); have w2 : IntKind.i64.wrap (z - 256) = z - 256 := IntWalk.i64_in _ (by omega); by_cases h : 127 < z
  · rw [if_pos h]; go_enter func121, ntmps121; go_wp2_with fail; go_ret; exact ⟨rfl, rfl⟩
  · rw [if_neg (by omega)]; go_enter func121, ntmps121; go_wp2_with fail; go_ret; exact ⟨rfl, rfl⟩
theorem rnum_c (s : ByteArray) (at' : Nat) (w : World) (h : at' + 8 ≤ s.size) (hs : s.size ≤ 1000000) :
    CRs 120 #[.string s, .int .i64 (at' : Int)] w (.int .u64 (val (((sl s).drop at').take 8) : Nat)) := by
  have HB : Kp (∀ i, val (((sl s).drop at').take i) < 256 ^ i ∨ i > 8) := ⟨fun i => by
    by_cases hi : i ≤ 8
    · left
      have := val_lt (((sl s).drop at').take i)
      rwa [List.length_take, List.length_drop, sl_len, Nat.min_eq_left (by omega)] at this
    · right; omega⟩
  go_enter func120, ntmps120; go_wp2_with fail
  go_loopw [5, 6] (fun s5 s6 w' => ∃ (i : Nat) (x : Int), i ≤ 8 ∧ s5 = .int .u64 x ∧ s6 = .int .i64 (i : Nat) ∧ w' = w ∧ Kp (x = (val (((sl s).drop at').take i) : Nat))) (fun _ t _ => 8 - (intOf t).toNat)
  case atStart => exact ⟨0, 0, by omega, rfl, rfl, rfl, ⟨by simp [val]⟩⟩
  case round =>
    obtain ⟨i, x, i1, rfl, rfl, rfl, HX⟩ := hrel; by_cases hi : i < 8
    · (have hia : (i : Int) < 8 := by omega); obtain ⟨y, hy⟩ : ∃ y, (sl s)[at' + i]? = some y := ⟨_, List.getElem?_eq_getElem (by rw [sl_len]; omega)⟩
      have ix : ∀ W, (Instr.index 9 (.string s) (.int .i64 ((at' : Int) + (i : Int)))).run prog W = .ok (.int .u8 y.toNat) W := fun W => by
        have := idx9 s (at' + i) y (by omega) hy W
        rwa [show ((at' + i : Nat) : Int) = (at' : Int) + (i : Int) by omega] at this
      have wa : IntKind.i64.wrap ((at' : Int) + (i : Int)) = (at' : Int) + (i : Int) := IntWalk.i64_in _ (by omega)
      have hx7 : 0 ≤ x ∧ x < 72057594037927936 := by
        have h1 := HB.out i; have h2 : (256 : Nat) ^ i ≤ 256 ^ 7 := Nat.pow_le_pow_right (by decide) (by omega); (have h3 : (256 : Nat) ^ 7 = 72057594037927936 := by decide); rw [HX.out]; omega
      have hyl := UInt8.toNat_lt y; obtain ⟨z, hz⟩ : ∃ z : Int, (y.toNat : Int) = z := ⟨_, rfl⟩; (have z0 : 0 ≤ z := by omega); have z1 : z ≤ 255 := by omega
      have HN : Kp (x * 256 + z = (val (((sl s).drop at').take (i + 1)) : Nat)) := ⟨by
        have e : ((sl s).drop at').take (i + 1) = ((sl s).drop at').take i ++ [y] := by
          rw [List.take_add_one, List.getElem?_drop, hy]; rfl
        rw [e, val_snoc, HX.out, ← hz]; simp⟩
      (have wm : IntKind.u64.wrap (x * 256) = x * 256 := by rw [wu]; omega); (have wp : IntKind.u64.wrap (x * 256 + z) = x * 256 + z := by rw [wu]; omega); (have ix2 : ∀ W, (Instr.index 9 (.string s) (.int .i64 ((at' : Int) + (i : Int)))).run prog W = .ok (.int .u8 z) W := fun W => by rw [ix W, hz]); clear ix hz hyl hy; go_wp2_with fail; refine ⟨⟨i + 1, x * 256 + z, by omega, rfl, rfl, by trivial, HN⟩, ?_⟩; simp only [intOf]; omega
    · (have e8 : i = 8 := by omega); subst e8; go_wp2_with fail; go_ret; exact ⟨by rw [HX.out]; rfl, rfl⟩
theorem rlong_1 (s : ByteArray) (w : World) (hy : (sl s)[3]? = some 1) (hl : 3 < s.size) :
    CRs 173 #[.string s] w (.bool (decide ((s.size : Int) = 96))) := by
  have ix : ∀ W, (Instr.index 9 (.string s) (.int .i64 3)).run prog W = .ok (.int .u8 1) W := fun W => idx9 s 3 1 hl hy W
  by_cases h : (s.size : Int) = 96
  · rw [decide_eq_true h]; (have h2 : ((s.size : Int) == 96) = true := by simp; omega); go_enter func173, ntmps173; go_wp2_with fail; go_ret; exact ⟨rfl, rfl⟩
  · rw [decide_eq_false h]; (have h2 : ((s.size : Int) == 96) = false := by simp; omega); have h3 : decide ((s.size : Int) = 96) = false := decide_eq_false h; go_enter func173, ntmps173; go_wp2_with fail; go_ret; exact ⟨rfl, rfl⟩
theorem rlong_2 (s : ByteArray) (w : World) (hy : (sl s)[3]? = some 2) (hl : 3 < s.size) :
    CRs 173 #[.string s] w (.bool (decide ((s.size : Int) = 60))) := by
  have ix : ∀ W, (Instr.index 9 (.string s) (.int .i64 3)).run prog W = .ok (.int .u8 2) W := fun W => idx9 s 3 2 hl hy W
  by_cases h : (s.size : Int) = 60
  · rw [decide_eq_true h]; (have h2 : ((s.size : Int) == 60) = true := by simp; omega); go_enter func173, ntmps173; go_wp2_with fail; go_ret; exact ⟨rfl, rfl⟩
  · rw [decide_eq_false h]; (have h2 : ((s.size : Int) == 60) = false := by simp; omega); have h3 : decide ((s.size : Int) = 60) = false := decide_eq_false h; go_enter func173, ntmps173; go_wp2_with fail; go_ret; exact ⟨rfl, rfl⟩
theorem rlong_4 (s : ByteArray) (w : World) (hy : (sl s)[3]? = some 4) (hl : 3 < s.size) :
    CRs 173 #[.string s] w (.bool (decide ((s.size : Int) = 77))) := by
  have ix : ∀ W, (Instr.index 9 (.string s) (.int .i64 3)).run prog W = .ok (.int .u8 4) W := fun W => idx9 s 3 4 hl hy W
  by_cases h : (s.size : Int) = 77
  · rw [decide_eq_true h]; (have h2 : ((s.size : Int) == 77) = true := by simp; omega); go_enter func173, ntmps173; go_wp2_with fail; go_ret; exact ⟨rfl, rfl⟩
  · rw [decide_eq_false h]; (have h2 : ((s.size : Int) == 77) = false := by simp; omega); have h3 : decide ((s.size : Int) = 77) = false := decide_eq_false h; go_enter func173, ntmps173; go_wp2_with fail; go_ret; exact ⟨rfl, rfl⟩
theorem rlong_5 (s : ByteArray) (w : World) (hy : (sl s)[3]? = some 5) (hl : 3 < s.size) :
    CRs 173 #[.string s] w (.bool (decide ((s.size : Int) = 55))) := by
  have ix : ∀ W, (Instr.index 9 (.string s) (.int .i64 3)).run prog W = .ok (.int .u8 5) W := fun W => idx9 s 3 5 hl hy W
  by_cases h : (s.size : Int) = 55
  · rw [decide_eq_true h]; (have h2 : ((s.size : Int) == 55) = true := by simp; omega); go_enter func173, ntmps173; go_wp2_with fail; go_ret; exact ⟨rfl, rfl⟩
  · rw [decide_eq_false h]; (have h2 : ((s.size : Int) == 55) = false := by simp; omega); have h3 : decide ((s.size : Int) = 55) = false := decide_eq_false h; go_enter func173, ntmps173; go_wp2_with fail; go_ret; exact ⟨rfl, rfl⟩
theorem rlong_6 (s : ByteArray) (w : World) (hy : (sl s)[3]? = some 6) (hl : 3 < s.size) :
    CRs 173 #[.string s] w (.bool (decide (52 ≤ (s.size : Int)))) := by
  have ix : ∀ W, (Instr.index 9 (.string s) (.int .i64 3)).run prog W = .ok (.int .u8 6) W := fun W => idx9 s 3 6 hl hy W
  by_cases h : 52 ≤ (s.size : Int)
  · rw [decide_eq_true h]
    skip
    go_enter func173, ntmps173; go_wp2_with fail; go_ret; exact ⟨rfl, rfl⟩
  · rw [decide_eq_false h]
    skip
    have h3 : decide (52 ≤ (s.size : Int)) = false := decide_eq_false h; go_enter func173, ntmps173; go_wp2_with fail; go_ret; exact ⟨rfl, rfl⟩
theorem rlong_7 (s : ByteArray) (w : World) (hy : (sl s)[3]? = some 7) (hl : 3 < s.size) :
    CRs 173 #[.string s] w (.bool (decide ((s.size : Int) = 52))) := by
  have ix : ∀ W, (Instr.index 9 (.string s) (.int .i64 3)).run prog W = .ok (.int .u8 7) W := fun W => idx9 s 3 7 hl hy W
  by_cases h : (s.size : Int) = 52
  · rw [decide_eq_true h]; (have h2 : ((s.size : Int) == 52) = true := by simp; omega); go_enter func173, ntmps173; go_wp2_with fail; go_ret; exact ⟨rfl, rfl⟩
  · rw [decide_eq_false h]; (have h2 : ((s.size : Int) == 52) = false := by simp; omega); have h3 : decide ((s.size : Int) = 52) = false := decide_eq_false h; go_enter func173, ntmps173; go_wp2_with fail; go_ret; exact ⟨rfl, rfl⟩
theorem rlong_3 (s : ByteArray) (w : World) (hy : (sl s)[3]? = some 3) (hl : 3 < s.size) :
    CRs 173 #[.string s] w (.bool (decide (93 ≤ s.size ∧ s.size = 93 + ((sl s).getD 60 0).toNat))) := by
  have ix : ∀ W, (Instr.index 9 (.string s) (.int .i64 3)).run prog W = .ok (.int .u8 3) W := fun W => idx9 s 3 3 hl hy W
  by_cases h : 93 ≤ s.size
  · obtain ⟨y, hy6⟩ : ∃ y, (sl s)[60]? = some y := ⟨_, List.getElem?_eq_getElem (by rw [sl_len]; omega)⟩; (have hg : (sl s).getD 60 0 = y := by simp [List.getD, hy6]); rw [hg]; have hyl := UInt8.toNat_lt y; (have ix6 : ∀ W, (Instr.index 9 (.string s) (.int .i64 60)).run prog W = .ok (.int .u8 y.toNat) W := fun W => idx9 s 60 y (by omega) hy6 W); obtain ⟨z, hz⟩ : ∃ z : Int, (y.toNat : Int) = z := ⟨_, rfl⟩; (have ix7 : ∀ W, (Instr.index 9 (.string s) (.int .i64 60)).run prog W = .ok (.int .u8 z) W := fun W => by rw [ix6 W, hz]); (have z0 : 0 ≤ z := by omega); (have z1 : z ≤ 255 := by omega); have w1 : IntKind.i64.wrap z = z := IntWalk.i64_in _ (by omega); have w2 : IntKind.i64.wrap (93 + z) = 93 + z := IntWalk.i64_in _ (by omega); (have h93 : (93 : Int) ≤ (s.size : Int) := by omega); by_cases he : s.size = 93 + y.toNat
    · rw [decide_eq_true ⟨h, he⟩]; (have he2 : (s.size : Int) = 93 + z := by omega); (have h94 : (93 : Int) ≤ 93 + z := by omega); have h95 : decide ((93 : Int) ≤ 93 + z) = true := decide_eq_true (by omega); clear ix6 hz hyl he h hy6 hg h93 hy; go_enter func173, ntmps173; go_wp2_with fail; go_ret; exact ⟨rfl, rfl⟩
    · rw [decide_eq_false (fun q => he q.2)]; obtain ⟨m, hm⟩ : ∃ m : Int, (s.size : Int) = m := ⟨_, rfl⟩; (have he2 : ¬ m = 93 + z := by omega); (have he3 : (m == 93 + z) = false := by simp; omega); have he4 : decide (m = 93 + z) = false := decide_eq_false he2; rw [hm] at h93; clear ix6 hz hyl he h hy6 hg hy; go_enter func173, ntmps173; go_wp2_with fail; go_ret; exact ⟨rfl, rfl⟩
  · rw [decide_eq_false (fun q => h q.1)]; (have h1 : ¬ (93 : Int) ≤ (s.size : Int) := by omega); have h2 : decide ((93 : Int) ≤ (s.size : Int)) = false := decide_eq_false h1; go_enter func173, ntmps173; go_wp2_with fail; go_ret; exact ⟨rfl, rfl⟩
theorem mg (s : ByteArray) : ((s.extract 0 3).toList == [74, 48, 49]) = decide ((sl s).take 3 = magic) := by
  rw [ByteArray.toList_eq, ext_to, Bool.eq_iff_iff, beq_iff_eq, decide_eq_true_iff]; exact Iff.rfl
theorem kind_is (s : ByteArray) (hm : (sl s).take 3 = magic) (h4 : 3 < s.size) {y : UInt8} (hy : (sl s)[3]? = some y) : kindL (sl s) = (y.toNat : Int) := by
  unfold kindL; rw [if_neg (by rw [sl_len]; rintro (q | q); omega; exact q hm)]; simp [List.getD, hy]
theorem zero_iff (s : List UInt8) (h : s.length = 96) : (s.drop 20).take 76 = zero76 ↔ ∀ j, 20 ≤ j → j < 96 → s.getD j 0 = 0 := by
  constructor
  · intro e j h1 h2; have := congrArg (fun l => l.getD (j - 20) 0) e; simp only [List.getD, List.getElem?_take, List.getElem?_drop, zero76] at this; rw [if_pos (by omega), show 20 + (j - 20) = j by omega, List.getElem?_replicate, if_pos (by omega)] at this
    simpa [List.getD] using this
  · intro e; apply List.ext_getElem?; intro i; rw [List.getElem?_take, List.getElem?_drop, zero76, List.getElem?_replicate]; by_cases hi : i < 76
    · rw [if_pos hi, if_pos hi]; have hj := e (20 + i) (by omega) (by omega); rw [List.getElem?_eq_getElem (by omega)]; simp only [List.getD, List.getElem?_eq_getElem (show 20 + i < s.length by omega), Option.getD_some] at hj; rw [hj]
    · rw [if_neg hi, if_neg hi]
theorem rj_big (s : ByteArray) (w : World) (h : 1200 < s.size) :
    CRs 119 #[.string s] w (.int .i64 (dec (sl s)).2) := by
  have hi : (1200 : Int) < (s.size : Int) := by omega
  rw [dec_big _ (by rw [sl_len]; exact h)]; go_enter func119, ntmps119; go_wp2_with fail; go_ret; exact ⟨rfl, rfl⟩
theorem rj_magic (s : ByteArray) (w : World) (h : ¬ 1200 < s.size) (hm : (sl s).take 3 ≠ magic) :
    CRs 119 #[.string s] w (.int .i64 (dec (sl s)).2) := by
  have hi : ¬ (1200 : Int) < (s.size : Int) := by omega
  rw [dec_magic _ (by rw [sl_len]; exact h) hm]; have hg := mg s; rw [decide_eq_false hm] at hg; by_cases h3 : s.size < 3
  · (have hi3 : (s.size : Int) < 3 := by omega); go_enter func119, ntmps119; go_wp2_with fail; go_ret; exact ⟨rfl, rfl⟩
  · (have hi3 : ¬ (s.size : Int) < 3 := by omega); go_enter func119, ntmps119; go_wp2_with fail; go_ret; exact ⟨rfl, rfl⟩
theorem magic_len {s : ByteArray} (hm : (sl s).take 3 = magic) : 3 ≤ s.size := by
  have := congrArg List.length hm; rw [List.length_take, sl_len] at this; have e : magic.length = 3 := rfl; omega
theorem rj_none (s : ByteArray) (w : World) (h : ¬ 1200 < s.size) (hm : (sl s).take 3 = magic) (hk : kindL (sl s) < 1 ∨ 7 < kindL (sl s)) :
    CRs 119 #[.string s] w (.int .i64 (dec (sl s)).2) := by
  have hi : ¬ (1200 : Int) < (s.size : Int) := by omega
  have h3 := magic_len hm; have hi3 : ¬ (s.size : Int) < 3 := by omega
  rw [dec_none _ (by rw [sl_len]; exact h) hm hk]; have hg := mg s; rw [decide_eq_true hm] at hg; by_cases h4 : s.size < 4
  · (have hi4 : (s.size : Int) < 4 := by omega); clear hk; go_enter func119, ntmps119; go_wp2_with fail; go_ret; exact ⟨rfl, rfl⟩
  · (have hi4 : ¬ (s.size : Int) < 4 := by omega); obtain ⟨y, hy⟩ : ∃ y, (sl s)[3]? = some y := ⟨_, List.getElem?_eq_getElem (by rw [sl_len]; omega)⟩; rw [kind_is s hm (by omega) hy] at hk; (have ix : ∀ W, (Instr.index 9 (.string s) (.int .i64 3)).run prog W = .ok (.int .u8 y.toNat) W := fun W => idx9 s 3 y (by omega) hy W); generalize y.toNat = Y at *; by_cases hk1 : (Y : Int) < 1
    · clear hk; go_enter func119, ntmps119; go_wp2_with fail; go_ret; exact ⟨rfl, rfl⟩
    · (have hk7 : (7 : Int) < (Y : Int) := by omega); clear hk; go_enter func119, ntmps119; go_wp2_with fail; go_ret; exact ⟨rfl, rfl⟩
theorem rj_1 (s : ByteArray) (w : World) (h : ¬ 1200 < s.size) (hm : (sl s).take 3 = magic) (hy : (sl s)[3]? = some 1) (h4 : 3 < s.size) :
    CRs 119 #[.string s] w (.int .i64 (dec (sl s)).2) := by
  have hi : ¬ (1200 : Int) < (s.size : Int) := by omega
  have hi3 : ¬ (s.size : Int) < 3 := by omega
  have hi4 : ¬ (s.size : Int) < 4 := by omega
  have HD := Kp.mk (dec_1 (sl s) (by rw [sl_len]; omega) hm (kind_is s hm h4 hy)); rw [sl_len] at HD; have hg := mg s; rw [decide_eq_true hm] at hg; have ix : ∀ W, (Instr.index 9 (.string s) (.int .i64 3)).run prog W = .ok (.int .u8 1) W := fun W => idx9 s 3 1 h4 hy W
  have HC := Kp.mk (rlong_1 s w hy h4); by_cases hc : s.size = 96
  · (have hb : ∀ (q : Prop) [Decidable q], q → decide q = true := fun q _ z => decide_eq_true z); rw [hb _ (by omega)] at HC; clear hb; rw [if_pos hc] at HD; have HZ := Kp.mk (zero_iff (sl s) (by rw [sl_len]; exact hc)); obtain ⟨R, hR⟩ : ∃ R, (dec (sl s)).2 = R := ⟨_, rfl⟩; have HRR := Kp.mk hR; rw [hR]; clear hR; have HCC := Kp.mk hc; clear hc hm hy; go_enter func119, ntmps119; go_wp2_with fail; refine HC.out.mono ?_; rintro e w1 ⟨rfl, rfl⟩; go_wp2_with fail
    go_loopw [3] (fun x w' => ∃ i : Nat, 20 ≤ i ∧ i ≤ 96 ∧ x = .int .i64 (i : Nat) ∧ Kp (w' = w1) ∧ Kp (∀ j, 20 ≤ j → j < i → (sl s).getD j 0 = 0)) (fun x _ => 96 - (intOf x).toNat)
    case atStart => exact ⟨20, by omega, by omega, rfl, ⟨rfl⟩, ⟨fun j h1 h2 => by omega⟩⟩
    case round =>
      obtain ⟨i, i0, i1, rfl, HW, HL⟩ := hrel; obtain rfl := HW.out; clear HW; by_cases hi9 : i < 96
      · (have hia : (i : Int) < 96 := by omega); (have hwi : IntKind.i64.wrap ((i : Int) + 1) = ((i + 1 : Nat) : Int) := by rw [IntKind.wrap_i64]; omega); obtain ⟨y, hyi⟩ : ∃ y, (sl s)[i]? = some y := ⟨_, List.getElem?_eq_getElem (by rw [sl_len, HCC.out]; omega)⟩; (have ixi : ∀ W, (Instr.index 9 (.string s) (.int .i64 (i : Int))).run prog W = .ok (.int .u8 y.toNat) W := fun W => idx9 s i y (by rw [HCC.out]; omega) hyi W); by_cases hz : y = 0
        · subst hz; go_wp2_with fail; refine ⟨⟨i + 1, by omega, by omega, rfl, ⟨by trivial⟩, ⟨fun j h1 h2 => ?_⟩⟩, ?_⟩
          · by_cases hji : j = i
            · subst hji; simp [List.getD, hyi]
            · exact HL.out j h1 (by omega)
          · simp only [intOf]; omega
        · have hyn : ((y.toNat : Int) == 0) = false := by
            (have : y.toNat ≠ 0 := fun e => hz (UInt8.toNat_inj.1 (by simpa using e))); simp; omega
          have hRe : R = 73 := by
            rw [← HRR.out, HD.out, if_neg]; rw [HZ.out]; intro e; have := e i i0 hi9; simp [List.getD, hyi] at this; exact hz this
          subst hRe; go_wp2_with fail; go_ret; exact ⟨rfl, rfl⟩
      · have hia : ¬ (i : Int) < 96 := by omega
        have hRe : R = 0 := by
          rw [← HRR.out, HD.out, if_pos]; rw [HZ.out]; exact fun j h1 h2 => HL.out j h1 (by omega)
        subst hRe; go_wp2_with fail; go_ret; exact ⟨rfl, rfl⟩
  · (have hb : ∀ (q : Prop) [Decidable q], ¬ q → decide q = false := fun q _ z => decide_eq_false z); rw [hb _ (by omega)] at HC; clear hb; rw [if_neg hc] at HD; rw [HD.out]; clear hc hm hy; go_enter func119, ntmps119; go_wp2_with fail; refine HC.out.mono ?_; rintro e w1 ⟨rfl, rfl⟩; go_wp2_with fail; go_ret; exact ⟨rfl, rfl⟩
theorem rj_2 (s : ByteArray) (w : World) (h : ¬ 1200 < s.size) (hm : (sl s).take 3 = magic) (hy : (sl s)[3]? = some 2) (h4 : 3 < s.size) :
    CRs 119 #[.string s] w (.int .i64 (dec (sl s)).2) := by
  have hi : ¬ (1200 : Int) < (s.size : Int) := by omega
  have hi3 : ¬ (s.size : Int) < 3 := by omega
  have hi4 : ¬ (s.size : Int) < 4 := by omega
  have HD := Kp.mk (dec_2 (sl s) (by rw [sl_len]; omega) hm (kind_is s hm h4 hy)); rw [sl_len] at HD; have hg := mg s; rw [decide_eq_true hm] at hg; have ix : ∀ W, (Instr.index 9 (.string s) (.int .i64 3)).run prog W = .ok (.int .u8 2) W := fun W => idx9 s 3 2 h4 hy W
  have HC := Kp.mk (rlong_2 s w hy h4); by_cases hc : s.size = 60
  · (have hb : ∀ (q : Prop) [Decidable q], q → decide q = true := fun q _ z => decide_eq_true z); rw [hb _ (by omega)] at HC; clear hb; rw [if_pos hc] at HD; rw [HD.out]; clear hc hm hy; go_enter func119, ntmps119; go_wp2_with fail; refine HC.out.mono ?_; rintro e w1 ⟨rfl, rfl⟩; go_wp2_with fail; go_ret; exact ⟨rfl, rfl⟩
  · (have hb : ∀ (q : Prop) [Decidable q], ¬ q → decide q = false := fun q _ z => decide_eq_false z); rw [hb _ (by omega)] at HC; clear hb; rw [if_neg hc] at HD; rw [HD.out]; clear hc hm hy; go_enter func119, ntmps119; go_wp2_with fail; refine HC.out.mono ?_; rintro e w1 ⟨rfl, rfl⟩; go_wp2_with fail; go_ret; exact ⟨rfl, rfl⟩
theorem rj_3 (s : ByteArray) (w : World) (h : ¬ 1200 < s.size) (hm : (sl s).take 3 = magic) (hy : (sl s)[3]? = some 3) (h4 : 3 < s.size) :
    CRs 119 #[.string s] w (.int .i64 (dec (sl s)).2) := by
  have hi : ¬ (1200 : Int) < (s.size : Int) := by omega
  have hi3 : ¬ (s.size : Int) < 3 := by omega
  have hi4 : ¬ (s.size : Int) < 4 := by omega
  have HD := Kp.mk (dec_3 (sl s) (by rw [sl_len]; omega) hm (kind_is s hm h4 hy)); rw [sl_len] at HD; have hg := mg s; rw [decide_eq_true hm] at hg; have ix : ∀ W, (Instr.index 9 (.string s) (.int .i64 3)).run prog W = .ok (.int .u8 3) W := fun W => idx9 s 3 3 h4 hy W
  have HC := Kp.mk (rlong_3 s w hy h4); by_cases hc : 93 ≤ s.size ∧ s.size = 93 + ((sl s).getD 60 0).toNat
  · (have hb : ∀ (q : Prop) [Decidable q], q → decide q = true := fun q _ z => decide_eq_true z); rw [hb _ (by exact hc)] at HC; clear hb; rw [if_pos hc] at HD; rw [HD.out]; clear hc hm hy; go_enter func119, ntmps119; go_wp2_with fail; refine HC.out.mono ?_; rintro e w1 ⟨rfl, rfl⟩; go_wp2_with fail; go_ret; exact ⟨rfl, rfl⟩
  · (have hb : ∀ (q : Prop) [Decidable q], ¬ q → decide q = false := fun q _ z => decide_eq_false z); rw [hb _ (by exact hc)] at HC; clear hb; rw [if_neg hc] at HD; rw [HD.out]; clear hc hm hy; go_enter func119, ntmps119; go_wp2_with fail; refine HC.out.mono ?_; rintro e w1 ⟨rfl, rfl⟩; go_wp2_with fail; go_ret; exact ⟨rfl, rfl⟩
theorem rj_4 (s : ByteArray) (w : World) (h : ¬ 1200 < s.size) (hm : (sl s).take 3 = magic) (hy : (sl s)[3]? = some 4) (h4 : 3 < s.size) :
    CRs 119 #[.string s] w (.int .i64 (dec (sl s)).2) := by
  have hi : ¬ (1200 : Int) < (s.size : Int) := by omega
  have hi3 : ¬ (s.size : Int) < 3 := by omega
  have hi4 : ¬ (s.size : Int) < 4 := by omega
  have HD := Kp.mk (dec_4 (sl s) (by rw [sl_len]; omega) hm (kind_is s hm h4 hy)); rw [sl_len] at HD; have hg := mg s; rw [decide_eq_true hm] at hg; have ix : ∀ W, (Instr.index 9 (.string s) (.int .i64 3)).run prog W = .ok (.int .u8 4) W := fun W => idx9 s 3 4 h4 hy W
  have HC := Kp.mk (rlong_4 s w hy h4); by_cases hc : s.size = 77
  · (have hb : ∀ (q : Prop) [Decidable q], q → decide q = true := fun q _ z => decide_eq_true z); rw [hb _ (by omega)] at HC; clear hb; rw [if_pos hc] at HD; rw [HD.out]; clear hc hm hy; go_enter func119, ntmps119; go_wp2_with fail; refine HC.out.mono ?_; rintro e w1 ⟨rfl, rfl⟩; go_wp2_with fail; go_ret; exact ⟨rfl, rfl⟩
  · (have hb : ∀ (q : Prop) [Decidable q], ¬ q → decide q = false := fun q _ z => decide_eq_false z); rw [hb _ (by omega)] at HC; clear hb; rw [if_neg hc] at HD; rw [HD.out]; clear hc hm hy; go_enter func119, ntmps119; go_wp2_with fail; refine HC.out.mono ?_; rintro e w1 ⟨rfl, rfl⟩; go_wp2_with fail; go_ret; exact ⟨rfl, rfl⟩
theorem rj_5 (s : ByteArray) (w : World) (h : ¬ 1200 < s.size) (hm : (sl s).take 3 = magic) (hy : (sl s)[3]? = some 5) (h4 : 3 < s.size) :
    CRs 119 #[.string s] w (.int .i64 (dec (sl s)).2) := by
  have hi : ¬ (1200 : Int) < (s.size : Int) := by omega
  have hi3 : ¬ (s.size : Int) < 3 := by omega
  have hi4 : ¬ (s.size : Int) < 4 := by omega
  have HD := Kp.mk (dec_5 (sl s) (by rw [sl_len]; omega) hm (kind_is s hm h4 hy)); rw [sl_len] at HD; have hg := mg s; rw [decide_eq_true hm] at hg; have ix : ∀ W, (Instr.index 9 (.string s) (.int .i64 3)).run prog W = .ok (.int .u8 5) W := fun W => idx9 s 3 5 h4 hy W
  have HC := Kp.mk (rlong_5 s w hy h4); by_cases hc : s.size = 55
  · (have hb : ∀ (q : Prop) [Decidable q], q → decide q = true := fun q _ z => decide_eq_true z); rw [hb _ (by omega)] at HC; clear hb; rw [if_pos hc] at HD; obtain ⟨y, hy2⟩ : ∃ y, (sl s)[22]? = some y := ⟨_, List.getElem?_eq_getElem (by rw [sl_len, hc]; omega)⟩; have ix2 : ∀ W, (Instr.index 9 (.string s) (.int .i64 22)).run prog W = .ok (.int .u8 y.toNat) W := fun W => idx9 s 22 y (by omega) hy2 W
    have hv : val (((sl s).drop 22).take 1) = y.toNat := by
      have hlt : 22 < (sl s).length := by rw [sl_len]; omega
      have e : (sl s).drop 22 = y :: (sl s).drop 23 := by
        rw [List.drop_eq_getElem_cons hlt]
        congr 1
        rw [List.getElem?_eq_getElem hlt] at hy2; exact Option.some.inj hy2
      rw [e]; simp [val]
    rw [hv] at HD; obtain ⟨R, hR⟩ : ∃ R, (dec (sl s)).2 = R := ⟨_, rfl⟩; have HRR := Kp.mk hR; rw [hR]; clear hR hv hc hm hy hy2; generalize y.toNat = Y at *; by_cases hY : Y ≤ 3
    · (have hYi : ¬ (3 : Int) < (Y : Int) := by omega); (have hRe : R = 0 := by rw [← HRR.out, HD.out, if_pos hY]); subst hRe; go_enter func119, ntmps119; go_wp2_with fail; refine HC.out.mono ?_; rintro e w1 ⟨rfl, rfl⟩; go_wp2_with fail; go_ret; exact ⟨rfl, rfl⟩
    · (have hYi : (3 : Int) < (Y : Int) := by omega); (have hRe : R = 73 := by rw [← HRR.out, HD.out, if_neg hY]); subst hRe; go_enter func119, ntmps119; go_wp2_with fail; refine HC.out.mono ?_; rintro e w1 ⟨rfl, rfl⟩; go_wp2_with fail; go_ret; exact ⟨rfl, rfl⟩
  · (have hb : ∀ (q : Prop) [Decidable q], ¬ q → decide q = false := fun q _ z => decide_eq_false z); rw [hb _ (by omega)] at HC; clear hb; rw [if_neg hc] at HD; rw [HD.out]; clear hc hm hy; go_enter func119, ntmps119; go_wp2_with fail; refine HC.out.mono ?_; rintro e w1 ⟨rfl, rfl⟩; go_wp2_with fail; go_ret; exact ⟨rfl, rfl⟩
theorem rj_6 (s : ByteArray) (w : World) (h : ¬ 1200 < s.size) (hm : (sl s).take 3 = magic) (hy : (sl s)[3]? = some 6) (h4 : 3 < s.size) :
    CRs 119 #[.string s] w (.int .i64 (dec (sl s)).2) := by
  have hi : ¬ (1200 : Int) < (s.size : Int) := by omega
  have hi3 : ¬ (s.size : Int) < 3 := by omega
  have hi4 : ¬ (s.size : Int) < 4 := by omega
  have HD := Kp.mk (dec_6 (sl s) (by rw [sl_len]; omega) hm (kind_is s hm h4 hy)); rw [sl_len] at HD; have hg := mg s; rw [decide_eq_true hm] at hg; have ix : ∀ W, (Instr.index 9 (.string s) (.int .i64 3)).run prog W = .ok (.int .u8 6) W := fun W => idx9 s 3 6 h4 hy W
  have HC := Kp.mk (rlong_6 s w hy h4); by_cases hc : 52 ≤ s.size
  · (have hb : ∀ (q : Prop) [Decidable q], q → decide q = true := fun q _ z => decide_eq_true z); rw [hb _ (by omega)] at HC; clear hb; rw [if_pos hc] at HD; rw [HD.out]; clear hc hm hy; go_enter func119, ntmps119; go_wp2_with fail; refine HC.out.mono ?_; rintro e w1 ⟨rfl, rfl⟩; go_wp2_with fail; go_ret; exact ⟨rfl, rfl⟩
  · (have hb : ∀ (q : Prop) [Decidable q], ¬ q → decide q = false := fun q _ z => decide_eq_false z); rw [hb _ (by omega)] at HC; clear hb; rw [if_neg hc] at HD; rw [HD.out]; clear hc hm hy; go_enter func119, ntmps119; go_wp2_with fail; refine HC.out.mono ?_; rintro e w1 ⟨rfl, rfl⟩; go_wp2_with fail; go_ret; exact ⟨rfl, rfl⟩
theorem rj_7 (s : ByteArray) (w : World) (h : ¬ 1200 < s.size) (hm : (sl s).take 3 = magic) (hy : (sl s)[3]? = some 7) (h4 : 3 < s.size) :
    CRs 119 #[.string s] w (.int .i64 (dec (sl s)).2) := by
  have hi : ¬ (1200 : Int) < (s.size : Int) := by omega
  have hi3 : ¬ (s.size : Int) < 3 := by omega
  have hi4 : ¬ (s.size : Int) < 4 := by omega
  have HD := Kp.mk (dec_7 (sl s) (by rw [sl_len]; omega) hm (kind_is s hm h4 hy)); rw [sl_len] at HD; have hg := mg s; rw [decide_eq_true hm] at hg; have ix : ∀ W, (Instr.index 9 (.string s) (.int .i64 3)).run prog W = .ok (.int .u8 7) W := fun W => idx9 s 3 7 h4 hy W
  have HC := Kp.mk (rlong_7 s w hy h4); by_cases hc : s.size = 52
  · (have hb : ∀ (q : Prop) [Decidable q], q → decide q = true := fun q _ z => decide_eq_true z); rw [hb _ (by omega)] at HC; clear hb; rw [if_pos hc] at HD; rw [HD.out]; clear hc hm hy; go_enter func119, ntmps119; go_wp2_with fail; refine HC.out.mono ?_; rintro e w1 ⟨rfl, rfl⟩; go_wp2_with fail; go_ret; exact ⟨rfl, rfl⟩
  · (have hb : ∀ (q : Prop) [Decidable q], ¬ q → decide q = false := fun q _ z => decide_eq_false z); rw [hb _ (by omega)] at HC; clear hb; rw [if_neg hc] at HD; rw [HD.out]; clear hc hm hy; go_enter func119, ntmps119; go_wp2_with fail; refine HC.out.mono ?_; rintro e w1 ⟨rfl, rfl⟩; go_wp2_with fail; go_ret; exact ⟨rfl, rfl⟩
theorem rjudged_c (s : ByteArray) (w : World) : CRs 119 #[.string s] w (.int .i64 (dec (sl s)).2) := by
  by_cases h : 1200 < s.size
  · exact rj_big s w h
  by_cases hm : (sl s).take 3 = magic
  case neg => exact rj_magic s w h hm
  by_cases hk : kindL (sl s) < 1 ∨ 7 < kindL (sl s)
  · exact rj_none s w h hm hk
  have h3 := magic_len hm
  have h4 : 3 < s.size := by
    (refine Classical.byContradiction fun q => hk (.inl ?_)); unfold kindL; rw [if_pos (.inl (by rw [sl_len]; omega))]; omega
  obtain ⟨y, hy⟩ : ∃ y, (sl s)[3]? = some y := ⟨_, List.getElem?_eq_getElem (by rw [sl_len]; omega)⟩; rw [kind_is s hm h4 hy] at hk
  have hc : y = 1 ∨ y = 2 ∨ y = 3 ∨ y = 4 ∨ y = 5 ∨ y = 6 ∨ y = 7 := by
    (have e : y = UInt8.ofNat y.toNat := by simp); (have : y.toNat = 1 ∨ y.toNat = 2 ∨ y.toNat = 3 ∨ y.toNat = 4 ∨ y.toNat = 5 ∨ y.toNat = 6 ∨ y.toNat = 7 := by omega); rcases this with q | q | q | q | q | q | q <;> rw [q] at e <;> simp [e]
  rcases hc with rfl | rfl | rfl | rfl | rfl | rfl | rfl
  · exact rj_1 s w h hm hy h4
  · exact rj_2 s w h hm hy h4
  · exact rj_3 s w h hm hy h4
  · exact rj_4 s w h hm hy h4
  · exact rj_5 s w h hm hy h4
  · exact rj_6 s w h hm hy h4
  · exact rj_7 s w h hm hy h4
theorem ext_is (s : ByteArray) (a b : Nat) : s.extract a b = ba (((sl s).drop a).take (b - a)) := by
  apply ByteArray.ext; apply Array.toList_inj.1; simp only [sl, ByteArray.data_extract, Array.toList_extract, List.extract]
theorem ext_end (s : ByteArray) (a : Nat) : s.extract a s.size = ba ((sl s).drop a) := by
  rw [ext_is]
  congr 2
  exact List.take_of_length_le (by rw [List.length_drop, sl_len]; omega)
structure DQ (w0 w : World) (rb db : Nat) (cs : List Value) : Prop where
  a : Has w db cs 34
  b : Has w rb (Dg.zero 0).cells 34
  g : w0.grownBy w none
  lo : w0.heap.size ≤ db
  lr : w0.heap.size ≤ rb
  ne : rb ≠ db
theorem DQ.set {w0 w : World} {rb db : Nat} {cs : List Value} (q : DQ w0 w rb db cs) (j : Nat) (v : Value) : DQ w0 (w.setCell ⟨db, j, none⟩ v) rb db (cs.set j v) :=
  ⟨q.a.setCell j v, q.b.other _ _ (Ne.symm q.ne), gr_new q.g (gr_set _ _ _ _) q.lo, q.lo, q.lr, q.ne⟩
theorem DQ.told {w0 w : World} {rb db : Nat} {cs : List Value} (q : DQ w0 w rb db cs) (h : cs.length = 15) : Has (w.setCells rb 0 cs) rb cs 34 ∧ w0.grownBy (w.setCells rb 0 cs) none :=
  ⟨q.b.setAll cs (by rw [h]; rfl), gr_new q.g (gr_sets _ _ _ _) q.lr⟩
theorem val_at {L : List UInt8} {j : Nat} {y : UInt8} (h : j < L.length) (hy : L[j]? = some y) : val ((L.drop j).take 1) = y.toNat := by
  have e : L.drop j = y :: L.drop (j + 1) := by
    rw [List.drop_eq_getElem_cons h]
    congr 1
    rw [List.getElem?_eq_getElem h] at hy; exact Option.some.inj hy
  rw [e]; simp [val]
theorem rd_1 (s : ByteArray) (w : World) (h : ¬ 1200 < s.size) (hm : (sl s).take 3 = magic) (hy : (sl s)[3]? = some 1) (h4 : 3 < s.size) (hc : s.size = 96) (h0 : (dec (sl s)).2 = 0) :
    CRt 60 #[.string s] w (.tuple #[dv (dec (sl s)).1, .int .i64 (dec (sl s)).2]) := by
  obtain ⟨du, hdu, hdr⟩ := under26; have hle : s.size ≤ 1200 := Nat.le_of_not_lt h; have HD := dec_1 (sl s) (by rw [sl_len]; exact hle) hm (kind_is s hm h4 hy); rw [sl_len, if_pos hc] at HD
  have hz : ((sl s).drop 20).take 76 = zero76 := Classical.byContradiction fun q => by
    rw [HD, if_neg q] at h0; cases h0
  rw [if_pos hz] at HD; clear hz; have HJ : Kp (∀ W, CRs 119 #[.string s] W (.int .i64 0)) := ⟨fun W => by have := rjudged_c s W; rw [h0] at this; exact this⟩; clear h0; rw [(show ba (((sl s).drop 4).take 16) = s.extract 4 20 from (ext_is s 4 20).symm)] at HD; rw [HD]; clear HD; have ix : ∀ W, (Instr.index 9 (.string s) (.int .i64 3)).run prog W = .ok (.int .u8 1) W := fun W => idx9 s 3 1 h4 hy W
  have hszi : (s.size : Int) = 96 := by omega
  have HA := Kp.mk (alloc_has (w := w) (D := (Dg.zero 0).cells) rfl); go_enter func60, ntmps60; go_wp2_with fail; refine (HJ.out _).mono ?_; rintro e w1 ⟨rfl, hw1⟩; have HA1 : Kp (Has w1 w.heap.size (Dg.zero 0).cells 34 ∧ w.grownBy w1 none ∧ ∃ r, r = w.heap.size) := ⟨by rw [hw1]; exact ⟨HA.out.1, HA.out.2, _, rfl⟩⟩; clear hw1 HA HJ hm hy h4 h; obtain ⟨rb, hrb⟩ := HA1.out.2.2; rw [← hrb] at HA1 ⊢; have HA2 : Kp (Has w1 rb (Dg.zero 0).cells 34 ∧ w.grownBy w1 none ∧ w.heap.size ≤ rb) := ⟨HA1.out.1, HA1.out.2.1, by omega⟩; clear HA1 hrb
  go_wp2_with (first | (show wpList _ _ _ ({ dst := _, op := Op.load 34 _, type := _, pos := _, after := _, guard := _ } :: _) _ _; refine wpList_load_mid rfl 34 _ rfl _ _ rfl D.cells _ HF.out.a.range hdu hdr info26 ?_) | (show wpList _ _ _ ({ dst := _, op := Op.store 34 _ _, type := _, pos := _, after := _, guard := _ } :: _) _ _; refine wpList_store_mid rfl 34 _ _ rfl rb 0 D.cells.toArray rfl rfl (HF.out.b.there 0 15 (by decide)) (dg_info D) (dg_one D) ?_) | (show wpList _ _ _ ({ dst := _, op := Op.store 34 _ _, type := _, pos := _, after := _, guard := _ } :: _) _ _; refine store_dg w1 (Dg.zero 1) rfl rfl rfl rfl rfl ?_; intro w2 h2 g2; have HQ : Kp (DQ w w2 rb w1.heap.size (Dg.zero 1).cells) := ⟨h2, HA2.out.1.kept g2 (by simp), HA2.out.2.1.trans g2, HA2.out.2.1.size, HA2.out.2.2, by have := HA2.out.1.lt; omega⟩; clear h2 g2; generalize w1.heap.size = db at HQ ⊢; have c0 : w2.cell? ⟨db, 0, none⟩ = some (.int .i64 1) := HQ.out.a.cellv 0 _ rfl; have c1 := HQ.out.a.cellv 1 _ rfl; have z1 := HQ.out.a.frozen 1; have HF : Kp (DQ w (w2.setCell ⟨db, 1, none⟩ (.string (s.extract 4 20))) rb db (Dg.cells { Dg.zero 1 with nonce := s.extract 4 20 })) := ⟨(HQ.out.set 1 (.string (s.extract 4 20)))⟩; have HT := Kp.mk (HF.out.told rfl); obtain ⟨D, hDe⟩ : ∃ D : Dg, ({ Dg.zero 1 with nonce := s.extract 4 20 } : Dg) = D := ⟨_, rfl⟩; rw [hDe] at HF HT; have HDe := Kp.mk hDe; clear hDe HQ HA2))
  refine ret_ct rfl rfl (cs := D.cells) (t := 34) HT.out.1 hdu hdr info26 rfl ⟨?_, HT.out.2⟩; rw [← HDe.out]; rfl
theorem rd_2 (s : ByteArray) (w : World) (h : ¬ 1200 < s.size) (hm : (sl s).take 3 = magic) (hy : (sl s)[3]? = some 2) (h4 : 3 < s.size) (hc : s.size = 60) (h0 : (dec (sl s)).2 = 0) :
    CRt 60 #[.string s] w (.tuple #[dv (dec (sl s)).1, .int .i64 (dec (sl s)).2]) := by
  obtain ⟨du, hdu, hdr⟩ := under26; have hle : s.size ≤ 1200 := Nat.le_of_not_lt h; have HD := dec_2 (sl s) (by rw [sl_len]; exact hle) hm (kind_is s hm h4 hy); rw [sl_len, if_pos hc] at HD; have HJ : Kp (∀ W, CRs 119 #[.string s] W (.int .i64 0)) := ⟨fun W => by have := rjudged_c s W; rw [h0] at this; exact this⟩; clear h0; rw [(show ba (((sl s).drop 4).take 16) = s.extract 4 20 from (ext_is s 4 20).symm), (show ba (((sl s).drop 28).take 32) = s.extract 28 60 from (ext_is s 28 60).symm)] at HD; rw [HD]; clear HD; have HN20 := Kp.mk (fun W => rnum_c s 20 W (by omega) (by omega)); generalize val (((sl s).drop 20).take 8) = n20 at *; have ix : ∀ W, (Instr.index 9 (.string s) (.int .i64 3)).run prog W = .ok (.int .u8 2) W := fun W => idx9 s 3 2 h4 hy W
  have hszi : (s.size : Int) = 60 := by omega
  have HA := Kp.mk (alloc_has (w := w) (D := (Dg.zero 0).cells) rfl); go_enter func60, ntmps60; go_wp2_with fail; refine (HJ.out _).mono ?_; rintro e w1 ⟨rfl, hw1⟩; have HA1 : Kp (Has w1 w.heap.size (Dg.zero 0).cells 34 ∧ w.grownBy w1 none ∧ ∃ r, r = w.heap.size) := ⟨by rw [hw1]; exact ⟨HA.out.1, HA.out.2, _, rfl⟩⟩; clear hw1 HA HJ hm hy h4 h; obtain ⟨rb, hrb⟩ := HA1.out.2.2; rw [← hrb] at HA1 ⊢; have HA2 : Kp (Has w1 rb (Dg.zero 0).cells 34 ∧ w.grownBy w1 none ∧ w.heap.size ≤ rb) := ⟨HA1.out.1, HA1.out.2.1, by omega⟩; clear HA1 hrb
  go_wp2_with (show wpList _ _ _ ({ dst := _, op := Op.store 34 _ _, type := _, pos := _, after := _, guard := _ } :: _) _ _; refine store_dg w1 (Dg.zero 2) rfl rfl rfl rfl rfl ?_; intro w2 h2 g2; have HQ : Kp (DQ w w2 rb w1.heap.size (Dg.zero 2).cells) := ⟨h2, HA2.out.1.kept g2 (by simp), HA2.out.2.1.trans g2, HA2.out.2.1.size, HA2.out.2.2, by have := HA2.out.1.lt; omega⟩; clear h2 g2; generalize w1.heap.size = db at HQ ⊢; have c0 : w2.cell? ⟨db, 0, none⟩ = some (.int .i64 2) := HQ.out.a.cellv 0 _ rfl; have c1 := HQ.out.a.cellv 1 _ rfl; have z1 := HQ.out.a.frozen 1; have c2 := HQ.out.a.cellv 2 _ rfl; have z2 := HQ.out.a.frozen 2; have c3 := HQ.out.a.cellv 3 _ rfl; have z3 := HQ.out.a.frozen 3; have HF : Kp (DQ w (((w2.setCell ⟨db, 1, none⟩ (.string (s.extract 4 20))).setCell ⟨db, 2, none⟩ (.int .u64 ((n20 : Nat) : Int))).setCell ⟨db, 3, none⟩ (.string (s.extract 28 60))) rb db (Dg.cells { Dg.zero 2 with nonce := s.extract 4 20, epoch := n20, cookie := s.extract 28 60 })) := ⟨(((HQ.out.set 1 (.string (s.extract 4 20))).set 2 (.int .u64 ((n20 : Nat) : Int))).set 3 (.string (s.extract 28 60)))⟩; have HT := Kp.mk (HF.out.told rfl); obtain ⟨D, hDe⟩ : ∃ D : Dg, ({ Dg.zero 2 with nonce := s.extract 4 20, epoch := n20, cookie := s.extract 28 60 } : Dg) = D := ⟨_, rfl⟩; rw [hDe] at HF HT; have HDe := Kp.mk hDe; clear hDe HQ HA2)
  refine (HN20.out _).mono ?_; rintro e w5 ⟨rfl, rfl⟩
  go_wp2_with (first | (show wpList _ _ _ ({ dst := _, op := Op.load 34 _, type := _, pos := _, after := _, guard := _ } :: _) _ _; refine wpList_load_mid rfl 34 _ rfl _ _ rfl D.cells _ HF.out.a.range hdu hdr info26 ?_) | (show wpList _ _ _ ({ dst := _, op := Op.store 34 _ _, type := _, pos := _, after := _, guard := _ } :: _) _ _; refine wpList_store_mid rfl 34 _ _ rfl rb 0 D.cells.toArray rfl rfl (HF.out.b.there 0 15 (by decide)) (dg_info D) (dg_one D) ?_))
  refine ret_ct rfl rfl (cs := D.cells) (t := 34) HT.out.1 hdu hdr info26 rfl ⟨?_, HT.out.2⟩; rw [← HDe.out]; rfl
theorem rd_3 (s : ByteArray) (w : World) (h : ¬ 1200 < s.size) (hm : (sl s).take 3 = magic) (hy : (sl s)[3]? = some 3) (h4 : 3 < s.size) (hc : 93 ≤ s.size ∧ s.size = 93 + ((sl s).getD 60 0).toNat) (h0 : (dec (sl s)).2 = 0) :
    CRt 60 #[.string s] w (.tuple #[dv (dec (sl s)).1, .int .i64 (dec (sl s)).2]) := by
  obtain ⟨du, hdu, hdr⟩ := under26; have hle : s.size ≤ 1200 := Nat.le_of_not_lt h; have HD := dec_3 (sl s) (by rw [sl_len]; exact hle) hm (kind_is s hm h4 hy); rw [sl_len, if_pos hc] at HD; have hge : 93 ≤ s.size := hc.1; clear hc; have HJ : Kp (∀ W, CRs 119 #[.string s] W (.int .i64 0)) := ⟨fun W => by have := rjudged_c s W; rw [h0] at this; exact this⟩; clear h0; rw [(show ba (((sl s).drop 4).take 16) = s.extract 4 20 from (ext_is s 4 20).symm), (show ba (((sl s).drop 28).take 32) = s.extract 28 60 from (ext_is s 28 60).symm), (show ba (((sl s).drop 61).take (s.size - 93)) = s.extract 61 (s.size - 32) by rw [ext_is, show s.size - 32 - 61 = s.size - 93 by omega]), (show ba ((sl s).drop (s.size - 32)) = s.extract (s.size - 32) s.size from (ext_end s _).symm)] at HD; rw [HD]; clear HD; have HN20 := Kp.mk (fun W => rnum_c s 20 W (by omega) (by omega)); generalize val (((sl s).drop 20).take 8) = n20 at *; have ix : ∀ W, (Instr.index 9 (.string s) (.int .i64 3)).run prog W = .ok (.int .u8 3) W := fun W => idx9 s 3 3 h4 hy W
  have hwn : IntKind.i64.wrap ((s.size : Int) - 32) = ((s.size - 32 : Nat) : Int) := by rw [IntKind.wrap_i64]; omega
  have hsz1 : s.size - 32 ≤ s.size := by omega
  have hsz2 : 61 ≤ s.size - 32 := by omega
  have HA := Kp.mk (alloc_has (w := w) (D := (Dg.zero 0).cells) rfl); go_enter func60, ntmps60; go_wp2_with fail; refine (HJ.out _).mono ?_; rintro e w1 ⟨rfl, hw1⟩; have HA1 : Kp (Has w1 w.heap.size (Dg.zero 0).cells 34 ∧ w.grownBy w1 none ∧ ∃ r, r = w.heap.size) := ⟨by rw [hw1]; exact ⟨HA.out.1, HA.out.2, _, rfl⟩⟩; clear hw1 HA HJ hm hy h4 h; obtain ⟨rb, hrb⟩ := HA1.out.2.2; rw [← hrb] at HA1 ⊢; have HA2 : Kp (Has w1 rb (Dg.zero 0).cells 34 ∧ w.grownBy w1 none ∧ w.heap.size ≤ rb) := ⟨HA1.out.1, HA1.out.2.1, by omega⟩; clear HA1 hrb
  go_wp2_with (show wpList _ _ _ ({ dst := _, op := Op.store 34 _ _, type := _, pos := _, after := _, guard := _ } :: _) _ _; refine store_dg w1 (Dg.zero 3) rfl rfl rfl rfl rfl ?_; intro w2 h2 g2; have HQ : Kp (DQ w w2 rb w1.heap.size (Dg.zero 3).cells) := ⟨h2, HA2.out.1.kept g2 (by simp), HA2.out.2.1.trans g2, HA2.out.2.1.size, HA2.out.2.2, by have := HA2.out.1.lt; omega⟩; clear h2 g2; generalize w1.heap.size = db at HQ ⊢; have c0 : w2.cell? ⟨db, 0, none⟩ = some (.int .i64 3) := HQ.out.a.cellv 0 _ rfl; have c1 := HQ.out.a.cellv 1 _ rfl; have z1 := HQ.out.a.frozen 1; have c2 := HQ.out.a.cellv 2 _ rfl; have z2 := HQ.out.a.frozen 2; have c3 := HQ.out.a.cellv 3 _ rfl; have z3 := HQ.out.a.frozen 3; have c4 := HQ.out.a.cellv 4 _ rfl; have z4 := HQ.out.a.frozen 4; have c14 := HQ.out.a.cellv 14 _ rfl; have z14 := HQ.out.a.frozen 14; have HF : Kp (DQ w (((((w2.setCell ⟨db, 14, none⟩ (.string (s.extract (s.size - 32) s.size))).setCell ⟨db, 1, none⟩ (.string (s.extract 4 20))).setCell ⟨db, 2, none⟩ (.int .u64 ((n20 : Nat) : Int))).setCell ⟨db, 3, none⟩ (.string (s.extract 28 60))).setCell ⟨db, 4, none⟩ (.string (s.extract 61 (s.size - 32)))) rb db (Dg.cells { Dg.zero 3 with nonce := s.extract 4 20, epoch := n20, cookie := s.extract 28 60, name := s.extract 61 (s.size - 32), tag := s.extract (s.size - 32) s.size })) := ⟨(((((HQ.out.set 14 (.string (s.extract (s.size - 32) s.size))).set 1 (.string (s.extract 4 20))).set 2 (.int .u64 ((n20 : Nat) : Int))).set 3 (.string (s.extract 28 60))).set 4 (.string (s.extract 61 (s.size - 32))))⟩; have HT := Kp.mk (HF.out.told rfl); obtain ⟨D, hDe⟩ : ∃ D : Dg, ({ Dg.zero 3 with nonce := s.extract 4 20, epoch := n20, cookie := s.extract 28 60, name := s.extract 61 (s.size - 32), tag := s.extract (s.size - 32) s.size } : Dg) = D := ⟨_, rfl⟩; rw [hDe] at HF HT; have HDe := Kp.mk hDe; clear hDe HQ HA2)
  refine (HN20.out _).mono ?_; rintro e w5 ⟨rfl, rfl⟩
  go_wp2_with (first | (show wpList _ _ _ ({ dst := _, op := Op.load 34 _, type := _, pos := _, after := _, guard := _ } :: _) _ _; refine wpList_load_mid rfl 34 _ rfl _ _ rfl D.cells _ HF.out.a.range hdu hdr info26 ?_) | (show wpList _ _ _ ({ dst := _, op := Op.store 34 _ _, type := _, pos := _, after := _, guard := _ } :: _) _ _; refine wpList_store_mid rfl 34 _ _ rfl rb 0 D.cells.toArray rfl rfl (HF.out.b.there 0 15 (by decide)) (dg_info D) (dg_one D) ?_))
  refine ret_ct rfl rfl (cs := D.cells) (t := 34) HT.out.1 hdu hdr info26 rfl ⟨?_, HT.out.2⟩; rw [← HDe.out]; rfl
theorem rd_4 (s : ByteArray) (w : World) (h : ¬ 1200 < s.size) (hm : (sl s).take 3 = magic) (hy : (sl s)[3]? = some 4) (h4 : 3 < s.size) (hc : s.size = 77) (h0 : (dec (sl s)).2 = 0) :
    CRt 60 #[.string s] w (.tuple #[dv (dec (sl s)).1, .int .i64 (dec (sl s)).2]) := by
  obtain ⟨du, hdu, hdr⟩ := under26; have hle : s.size ≤ 1200 := Nat.le_of_not_lt h; have HD := dec_4 (sl s) (by rw [sl_len]; exact hle) hm (kind_is s hm h4 hy); rw [sl_len, if_pos hc] at HD; have HJ : Kp (∀ W, CRs 119 #[.string s] W (.int .i64 0)) := ⟨fun W => by have := rjudged_c s W; rw [h0] at this; exact this⟩; clear h0; obtain ⟨y28, hy28⟩ : ∃ y, (sl s)[28]? = some y := ⟨_, List.getElem?_eq_getElem (by rw [sl_len, hc]; omega)⟩; have ix28 : ∀ W, (Instr.index 9 (.string s) (.int .i64 28)).run prog W = .ok (.int .u8 y28.toNat) W := fun W => idx9 s 28 y28 (by omega) hy28 W
  have hv28 : val (((sl s).drop 28).take 1) = y28.toNat := val_at (by rw [sl_len]; omega) hy28; have hw28 : IntKind.i64.wrap (y28.toNat : Int) = (y28.toNat : Int) := by have := UInt8.toNat_lt y28; rw [IntKind.wrap_i64]; omega
  rw [(show ba (((sl s).drop 4).take 16) = s.extract 4 20 from (ext_is s 4 20).symm), (show ba (((sl s).drop 29).take 16) = s.extract 29 45 from (ext_is s 29 45).symm), (show ba (((sl s).drop 45).take 32) = s.extract 45 77 from (ext_is s 45 77).symm), hv28] at HD; rw [HD]; clear HD; have HN20 := Kp.mk (fun W => rnum_c s 20 W (by omega) (by omega)); generalize val (((sl s).drop 20).take 8) = n20 at *; have ix : ∀ W, (Instr.index 9 (.string s) (.int .i64 3)).run prog W = .ok (.int .u8 4) W := fun W => idx9 s 3 4 h4 hy W
  have hszi : (s.size : Int) = 77 := by omega
  have hwn : IntKind.i64.wrap 45 = 45 := by decide
  have HA := Kp.mk (alloc_has (w := w) (D := (Dg.zero 0).cells) rfl); go_enter func60, ntmps60; go_wp2_with fail; refine (HJ.out _).mono ?_; rintro e w1 ⟨rfl, hw1⟩; have HA1 : Kp (Has w1 w.heap.size (Dg.zero 0).cells 34 ∧ w.grownBy w1 none ∧ ∃ r, r = w.heap.size) := ⟨by rw [hw1]; exact ⟨HA.out.1, HA.out.2, _, rfl⟩⟩; clear hw1 HA HJ hm hy h4 h; obtain ⟨rb, hrb⟩ := HA1.out.2.2; rw [← hrb] at HA1 ⊢; have HA2 : Kp (Has w1 rb (Dg.zero 0).cells 34 ∧ w.grownBy w1 none ∧ w.heap.size ≤ rb) := ⟨HA1.out.1, HA1.out.2.1, by omega⟩; clear HA1 hrb
  go_wp2_with (show wpList _ _ _ ({ dst := _, op := Op.store 34 _ _, type := _, pos := _, after := _, guard := _ } :: _) _ _; refine store_dg w1 (Dg.zero 4) rfl rfl rfl rfl rfl ?_; intro w2 h2 g2; have HQ : Kp (DQ w w2 rb w1.heap.size (Dg.zero 4).cells) := ⟨h2, HA2.out.1.kept g2 (by simp), HA2.out.2.1.trans g2, HA2.out.2.1.size, HA2.out.2.2, by have := HA2.out.1.lt; omega⟩; clear h2 g2; generalize w1.heap.size = db at HQ ⊢; have c0 : w2.cell? ⟨db, 0, none⟩ = some (.int .i64 4) := HQ.out.a.cellv 0 _ rfl; have c1 := HQ.out.a.cellv 1 _ rfl; have z1 := HQ.out.a.frozen 1; have c5 := HQ.out.a.cellv 5 _ rfl; have z5 := HQ.out.a.frozen 5; have c6 := HQ.out.a.cellv 6 _ rfl; have z6 := HQ.out.a.frozen 6; have c7 := HQ.out.a.cellv 7 _ rfl; have z7 := HQ.out.a.frozen 7; have c14 := HQ.out.a.cellv 14 _ rfl; have z14 := HQ.out.a.frozen 14; have HF : Kp (DQ w (((((w2.setCell ⟨db, 14, none⟩ (.string (s.extract 45 77))).setCell ⟨db, 1, none⟩ (.string (s.extract 4 20))).setCell ⟨db, 5, none⟩ (.int .u64 ((n20 : Nat) : Int))).setCell ⟨db, 6, none⟩ (.int .i64 (y28.toNat : Int))).setCell ⟨db, 7, none⟩ (.string (s.extract 29 45))) rb db (Dg.cells { Dg.zero 4 with nonce := s.extract 4 20, session := n20, player := (y28.toNat : Int), salt := s.extract 29 45, tag := s.extract 45 77 })) := ⟨(((((HQ.out.set 14 (.string (s.extract 45 77))).set 1 (.string (s.extract 4 20))).set 5 (.int .u64 ((n20 : Nat) : Int))).set 6 (.int .i64 (y28.toNat : Int))).set 7 (.string (s.extract 29 45)))⟩; have HT := Kp.mk (HF.out.told rfl); obtain ⟨D, hDe⟩ : ∃ D : Dg, ({ Dg.zero 4 with nonce := s.extract 4 20, session := n20, player := (y28.toNat : Int), salt := s.extract 29 45, tag := s.extract 45 77 } : Dg) = D := ⟨_, rfl⟩; rw [hDe] at HF HT; have HDe := Kp.mk hDe; clear hDe HQ HA2)
  refine (HN20.out _).mono ?_; rintro e w5 ⟨rfl, rfl⟩
  go_wp2_with (first | (show wpList _ _ _ ({ dst := _, op := Op.load 34 _, type := _, pos := _, after := _, guard := _ } :: _) _ _; refine wpList_load_mid rfl 34 _ rfl _ _ rfl D.cells _ HF.out.a.range hdu hdr info26 ?_) | (show wpList _ _ _ ({ dst := _, op := Op.store 34 _ _, type := _, pos := _, after := _, guard := _ } :: _) _ _; refine wpList_store_mid rfl 34 _ _ rfl rb 0 D.cells.toArray rfl rfl (HF.out.b.there 0 15 (by decide)) (dg_info D) (dg_one D) ?_))
  refine ret_ct rfl rfl (cs := D.cells) (t := 34) HT.out.1 hdu hdr info26 rfl ⟨?_, HT.out.2⟩; rw [← HDe.out]; rfl
theorem rd_6 (s : ByteArray) (w : World) (h : ¬ 1200 < s.size) (hm : (sl s).take 3 = magic) (hy : (sl s)[3]? = some 6) (h4 : 3 < s.size) (hc : 52 ≤ s.size) (h0 : (dec (sl s)).2 = 0) :
    CRt 60 #[.string s] w (.tuple #[dv (dec (sl s)).1, .int .i64 (dec (sl s)).2]) := by
  obtain ⟨du, hdu, hdr⟩ := under26; have hle : s.size ≤ 1200 := Nat.le_of_not_lt h; have HD := dec_6 (sl s) (by rw [sl_len]; exact hle) hm (kind_is s hm h4 hy); rw [sl_len, if_pos hc] at HD; have HJ : Kp (∀ W, CRs 119 #[.string s] W (.int .i64 0)) := ⟨fun W => by have := rjudged_c s W; rw [h0] at this; exact this⟩; clear h0; rw [(show ba (((sl s).drop 20).take (s.size - 52)) = s.extract 20 (s.size - 32) by rw [ext_is, show s.size - 32 - 20 = s.size - 52 by omega]), (show ba ((sl s).drop (s.size - 32)) = s.extract (s.size - 32) s.size from (ext_end s _).symm)] at HD; rw [HD]; clear HD; have HN4 := Kp.mk (fun W => rnum_c s 4 W (by omega) (by omega)); have HN12 := Kp.mk (fun W => rnum_c s 12 W (by omega) (by omega)); generalize val (((sl s).drop 4).take 8) = n4 at *; generalize val (((sl s).drop 12).take 8) = n12 at *; have ix : ∀ W, (Instr.index 9 (.string s) (.int .i64 3)).run prog W = .ok (.int .u8 6) W := fun W => idx9 s 3 6 h4 hy W
  have hwn : IntKind.i64.wrap ((s.size : Int) - 32) = ((s.size - 32 : Nat) : Int) := by rw [IntKind.wrap_i64]; omega
  have hsz1 : s.size - 32 ≤ s.size := by omega
  have hsz2 : 20 ≤ s.size - 32 := by omega
  have HA := Kp.mk (alloc_has (w := w) (D := (Dg.zero 0).cells) rfl); go_enter func60, ntmps60; go_wp2_with fail; refine (HJ.out _).mono ?_; rintro e w1 ⟨rfl, hw1⟩; have HA1 : Kp (Has w1 w.heap.size (Dg.zero 0).cells 34 ∧ w.grownBy w1 none ∧ ∃ r, r = w.heap.size) := ⟨by rw [hw1]; exact ⟨HA.out.1, HA.out.2, _, rfl⟩⟩; clear hw1 HA HJ hm hy h4 h; obtain ⟨rb, hrb⟩ := HA1.out.2.2; rw [← hrb] at HA1 ⊢; have HA2 : Kp (Has w1 rb (Dg.zero 0).cells 34 ∧ w.grownBy w1 none ∧ w.heap.size ≤ rb) := ⟨HA1.out.1, HA1.out.2.1, by omega⟩; clear HA1 hrb
  go_wp2_with (show wpList _ _ _ ({ dst := _, op := Op.store 34 _ _, type := _, pos := _, after := _, guard := _ } :: _) _ _; refine store_dg w1 (Dg.zero 6) rfl rfl rfl rfl rfl ?_; intro w2 h2 g2; have HQ : Kp (DQ w w2 rb w1.heap.size (Dg.zero 6).cells) := ⟨h2, HA2.out.1.kept g2 (by simp), HA2.out.2.1.trans g2, HA2.out.2.1.size, HA2.out.2.2, by have := HA2.out.1.lt; omega⟩; clear h2 g2; generalize w1.heap.size = db at HQ ⊢; have c0 : w2.cell? ⟨db, 0, none⟩ = some (.int .i64 6) := HQ.out.a.cellv 0 _ rfl; have c5 := HQ.out.a.cellv 5 _ rfl; have z5 := HQ.out.a.frozen 5; have c8 := HQ.out.a.cellv 8 _ rfl; have z8 := HQ.out.a.frozen 8; have c13 := HQ.out.a.cellv 13 _ rfl; have z13 := HQ.out.a.frozen 13; have c14 := HQ.out.a.cellv 14 _ rfl; have z14 := HQ.out.a.frozen 14; have HF : Kp (DQ w ((((w2.setCell ⟨db, 14, none⟩ (.string (s.extract (s.size - 32) s.size))).setCell ⟨db, 5, none⟩ (.int .u64 ((n4 : Nat) : Int))).setCell ⟨db, 8, none⟩ (.int .u64 ((n12 : Nat) : Int))).setCell ⟨db, 13, none⟩ (.string (s.extract 20 (s.size - 32)))) rb db (Dg.cells { Dg.zero 6 with session := n4, seq := n12, data := s.extract 20 (s.size - 32), tag := s.extract (s.size - 32) s.size })) := ⟨((((HQ.out.set 14 (.string (s.extract (s.size - 32) s.size))).set 5 (.int .u64 ((n4 : Nat) : Int))).set 8 (.int .u64 ((n12 : Nat) : Int))).set 13 (.string (s.extract 20 (s.size - 32))))⟩; have HT := Kp.mk (HF.out.told rfl); obtain ⟨D, hDe⟩ : ∃ D : Dg, ({ Dg.zero 6 with session := n4, seq := n12, data := s.extract 20 (s.size - 32), tag := s.extract (s.size - 32) s.size } : Dg) = D := ⟨_, rfl⟩; rw [hDe] at HF HT; have HDe := Kp.mk hDe; clear hDe HQ HA2)
  refine (HN4.out _).mono ?_; rintro e w5 ⟨rfl, rfl⟩; go_wp2_with fail; refine (HN12.out _).mono ?_; rintro e w6 ⟨rfl, rfl⟩
  go_wp2_with (first | (show wpList _ _ _ ({ dst := _, op := Op.load 34 _, type := _, pos := _, after := _, guard := _ } :: _) _ _; refine wpList_load_mid rfl 34 _ rfl _ _ rfl D.cells _ HF.out.a.range hdu hdr info26 ?_) | (show wpList _ _ _ ({ dst := _, op := Op.store 34 _ _, type := _, pos := _, after := _, guard := _ } :: _) _ _; refine wpList_store_mid rfl 34 _ _ rfl rb 0 D.cells.toArray rfl rfl (HF.out.b.there 0 15 (by decide)) (dg_info D) (dg_one D) ?_))
  refine ret_ct rfl rfl (cs := D.cells) (t := 34) HT.out.1 hdu hdr info26 rfl ⟨?_, HT.out.2⟩; rw [← HDe.out]; rfl
theorem rd_7 (s : ByteArray) (w : World) (h : ¬ 1200 < s.size) (hm : (sl s).take 3 = magic) (hy : (sl s)[3]? = some 7) (h4 : 3 < s.size) (hc : s.size = 52) (h0 : (dec (sl s)).2 = 0) :
    CRt 60 #[.string s] w (.tuple #[dv (dec (sl s)).1, .int .i64 (dec (sl s)).2]) := by
  obtain ⟨du, hdu, hdr⟩ := under26; have hle : s.size ≤ 1200 := Nat.le_of_not_lt h; have HD := dec_7 (sl s) (by rw [sl_len]; exact hle) hm (kind_is s hm h4 hy); rw [sl_len, if_pos hc] at HD; have HJ : Kp (∀ W, CRs 119 #[.string s] W (.int .i64 0)) := ⟨fun W => by have := rjudged_c s W; rw [h0] at this; exact this⟩; clear h0; rw [(show ba (((sl s).drop 20).take 32) = s.extract 20 52 from (ext_is s 20 52).symm)] at HD; rw [HD]; clear HD; have HN4 := Kp.mk (fun W => rnum_c s 4 W (by omega) (by omega)); have HN12 := Kp.mk (fun W => rnum_c s 12 W (by omega) (by omega)); generalize val (((sl s).drop 4).take 8) = n4 at *; generalize val (((sl s).drop 12).take 8) = n12 at *; have ix : ∀ W, (Instr.index 9 (.string s) (.int .i64 3)).run prog W = .ok (.int .u8 7) W := fun W => idx9 s 3 7 h4 hy W
  have hszi : (s.size : Int) = 52 := by omega
  have hwn : IntKind.i64.wrap 20 = 20 := by decide
  have HA := Kp.mk (alloc_has (w := w) (D := (Dg.zero 0).cells) rfl); go_enter func60, ntmps60; go_wp2_with fail; refine (HJ.out _).mono ?_; rintro e w1 ⟨rfl, hw1⟩; have HA1 : Kp (Has w1 w.heap.size (Dg.zero 0).cells 34 ∧ w.grownBy w1 none ∧ ∃ r, r = w.heap.size) := ⟨by rw [hw1]; exact ⟨HA.out.1, HA.out.2, _, rfl⟩⟩; clear hw1 HA HJ hm hy h4 h; obtain ⟨rb, hrb⟩ := HA1.out.2.2; rw [← hrb] at HA1 ⊢; have HA2 : Kp (Has w1 rb (Dg.zero 0).cells 34 ∧ w.grownBy w1 none ∧ w.heap.size ≤ rb) := ⟨HA1.out.1, HA1.out.2.1, by omega⟩; clear HA1 hrb
  go_wp2_with (show wpList _ _ _ ({ dst := _, op := Op.store 34 _ _, type := _, pos := _, after := _, guard := _ } :: _) _ _; refine store_dg w1 (Dg.zero 7) rfl rfl rfl rfl rfl ?_; intro w2 h2 g2; have HQ : Kp (DQ w w2 rb w1.heap.size (Dg.zero 7).cells) := ⟨h2, HA2.out.1.kept g2 (by simp), HA2.out.2.1.trans g2, HA2.out.2.1.size, HA2.out.2.2, by have := HA2.out.1.lt; omega⟩; clear h2 g2; generalize w1.heap.size = db at HQ ⊢; have c0 : w2.cell? ⟨db, 0, none⟩ = some (.int .i64 7) := HQ.out.a.cellv 0 _ rfl; have c5 := HQ.out.a.cellv 5 _ rfl; have z5 := HQ.out.a.frozen 5; have c8 := HQ.out.a.cellv 8 _ rfl; have z8 := HQ.out.a.frozen 8; have c14 := HQ.out.a.cellv 14 _ rfl; have z14 := HQ.out.a.frozen 14; have HF : Kp (DQ w (((w2.setCell ⟨db, 14, none⟩ (.string (s.extract 20 52))).setCell ⟨db, 5, none⟩ (.int .u64 ((n4 : Nat) : Int))).setCell ⟨db, 8, none⟩ (.int .u64 ((n12 : Nat) : Int))) rb db (Dg.cells { Dg.zero 7 with session := n4, seq := n12, tag := s.extract 20 52 })) := ⟨(((HQ.out.set 14 (.string (s.extract 20 52))).set 5 (.int .u64 ((n4 : Nat) : Int))).set 8 (.int .u64 ((n12 : Nat) : Int)))⟩; have HT := Kp.mk (HF.out.told rfl); obtain ⟨D, hDe⟩ : ∃ D : Dg, ({ Dg.zero 7 with session := n4, seq := n12, tag := s.extract 20 52 } : Dg) = D := ⟨_, rfl⟩; rw [hDe] at HF HT; have HDe := Kp.mk hDe; clear hDe HQ HA2)
  refine (HN4.out _).mono ?_; rintro e w5 ⟨rfl, rfl⟩; go_wp2_with fail; refine (HN12.out _).mono ?_; rintro e w6 ⟨rfl, rfl⟩
  go_wp2_with (first | (show wpList _ _ _ ({ dst := _, op := Op.load 34 _, type := _, pos := _, after := _, guard := _ } :: _) _ _; refine wpList_load_mid rfl 34 _ rfl _ _ rfl D.cells _ HF.out.a.range hdu hdr info26 ?_) | (show wpList _ _ _ ({ dst := _, op := Op.store 34 _ _, type := _, pos := _, after := _, guard := _ } :: _) _ _; refine wpList_store_mid rfl 34 _ _ rfl rb 0 D.cells.toArray rfl rfl (HF.out.b.there 0 15 (by decide)) (dg_info D) (dg_one D) ?_))
  refine ret_ct rfl rfl (cs := D.cells) (t := 34) HT.out.1 hdu hdr info26 rfl ⟨?_, HT.out.2⟩; rw [← HDe.out]; rfl
theorem rd_no (s : ByteArray) (w : World) (h0 : (dec (sl s)).2 ≠ 0) :
    CRt 60 #[.string s] w (.tuple #[dv (dec (sl s)).1, .int .i64 (dec (sl s)).2]) := by
  obtain ⟨du, hdu, hdr⟩ := under26; have HJ := Kp.mk (rjudged_c s)
  have hz : (dec (sl s)).1 = Dg.zero 0 := by
    rcases dec_codes (sl s) with q | q
    · exact absurd q h0
    · exact q.1
  rw [hz]; clear hz; generalize (dec (sl s)).2 = k at *; have hkb : (k == 0) = false := by simpa using h0
  clear h0; go_enter func60, ntmps60; go_wp2_with fail; refine (HJ.out _).mono ?_; rintro e w1 ⟨rfl, rfl⟩
  go_wp2_with (show wpList _ _ _ ({ dst := _, op := Op.store 34 _ _, type := _, pos := _, after := _, guard := _ } :: _) _ _; refine store_dg w (Dg.zero 0) rfl rfl rfl rfl rfl ?_; intro w2 h2 g2; have HT := Kp.mk (And.intro h2 g2); clear h2 g2)
  exact ret_ct rfl rfl (cs := (Dg.zero 0).cells) (t := 34) HT.out.1 hdu hdr info26 rfl ⟨rfl, HT.out.2⟩
theorem drop_one {L : List UInt8} {j : Nat} {y : UInt8} (h : j < L.length) (hy : L[j]? = some y) : (L.drop j).take 1 = [y] := by
  have e : L.drop j = y :: L.drop (j + 1) := by
    rw [List.drop_eq_getElem_cons h]
    congr 1
    rw [List.getElem?_eq_getElem h] at hy; exact Option.some.inj hy
  rw [e]; rfl
theorem rd_5 (s : ByteArray) (w : World) (h : ¬ 1200 < s.size) (hm : (sl s).take 3 = magic) (hy : (sl s)[3]? = some 5) (h4 : 3 < s.size) (hc : s.size = 55) (h0 : (dec (sl s)).2 = 0) :
    CRt 60 #[.string s] w (.tuple #[dv (dec (sl s)).1, .int .i64 (dec (sl s)).2]) := by
  obtain ⟨du, hdu, hdr⟩ := under26; have hle : s.size ≤ 1200 := Nat.le_of_not_lt h; have HD := dec_5 (sl s) (by rw [sl_len]; exact hle) hm (kind_is s hm h4 hy); rw [sl_len, if_pos hc] at HD; obtain ⟨y20, hy20⟩ : ∃ y, (sl s)[20]? = some y := ⟨_, List.getElem?_eq_getElem (by rw [sl_len, hc]; omega)⟩; obtain ⟨y21, hy21⟩ : ∃ y, (sl s)[21]? = some y := ⟨_, List.getElem?_eq_getElem (by rw [sl_len, hc]; omega)⟩; obtain ⟨y22, hy22⟩ : ∃ y, (sl s)[22]? = some y := ⟨_, List.getElem?_eq_getElem (by rw [sl_len, hc]; omega)⟩; have ix20 : ∀ W, (Instr.index 9 (.string s) (.int .i64 20)).run prog W = .ok (.int .u8 y20.toNat) W := fun W => idx9 s 20 y20 (by omega) hy20 W
  have ix21 : ∀ W, (Instr.index 9 (.string s) (.int .i64 21)).run prog W = .ok (.int .u8 y21.toNat) W := fun W => idx9 s 21 y21 (by omega) hy21 W
  have ix22 : ∀ W, (Instr.index 9 (.string s) (.int .i64 22)).run prog W = .ok (.int .u8 y22.toNat) W := fun W => idx9 s 22 y22 (by omega) hy22 W
  rw [drop_one (by rw [sl_len]; omega) hy20, drop_one (by rw [sl_len]; omega) hy21, drop_one (by rw [sl_len]; omega) hy22] at HD; have hv : val [y22] = y22.toNat := by simp [val]
  rw [hv] at HD
  have h3 : y22.toNat ≤ 3 := Classical.byContradiction fun q => by
    rw [HD, if_neg q] at h0; cases h0
  rw [if_pos h3] at HD; have HJ : Kp (∀ W, CRs 119 #[.string s] W (.int .i64 0)) := ⟨fun W => by have := rjudged_c s W; rw [h0] at this; exact this⟩; clear h0; rw [(show ba (((sl s).drop 23).take 32) = s.extract 23 55 from (ext_is s 23 55).symm)] at HD; rw [HD]; clear HD hv; have HN4 := Kp.mk (fun W => rnum_c s 4 W (by omega) (by omega)); have HN12 := Kp.mk (fun W => rnum_c s 12 W (by omega) (by omega)); generalize val (((sl s).drop 4).take 8) = n4 at *; generalize val (((sl s).drop 12).take 8) = n12 at *; have HS20 := Kp.mk (rsigned_c y20); have HS21 := Kp.mk (rsigned_c y21); generalize sval [y20] = t20 at *; generalize sval [y21] = t21 at *; generalize y20.toNat = Y20 at *; generalize y21.toNat = Y21 at *; generalize y22.toNat = Y22 at *; have hmod : (Y22 : Int).tmod 2 = ((Y22 % 2 : Nat) : Int) := by rw [Int.tmod_eq_emod_of_nonneg (by omega)]; omega
  have hwr : IntKind.u8.wrap ((Y22 % 2 : Nat) : Int) = ((Y22 % 2 : Nat) : Int) := by rw [IntKind.wrap_u8']; omega
  obtain ⟨fi, hfi⟩ : ∃ fi, decide (Y22 % 2 = 1) = fi := ⟨_, rfl⟩; obtain ⟨bo, hbo⟩ : ∃ bo, decide (Y22 / 2 % 2 = 1) = bo := ⟨_, rfl⟩; rw [hfi, hbo]
  have hf2 : (((Y22 % 2 : Nat) : Int) == 1) = fi := by
    rw [← hfi, Bool.eq_iff_iff, beq_iff_eq, decide_eq_true_iff]; omega
  have hb2 : decide ((1 : Int) < (Y22 : Int)) = bo := by
    rw [← hbo]; exact decide_eq_decide.2 (by omega)
  generalize Y22 % 2 = m22 at *; clear hfi hbo h3; have ix : ∀ W, (Instr.index 9 (.string s) (.int .i64 3)).run prog W = .ok (.int .u8 5) W := fun W => idx9 s 3 5 h4 hy W
  have hszi : (s.size : Int) = 55 := by omega
  have hwn : IntKind.i64.wrap 23 = 23 := by decide
  have HA := Kp.mk (alloc_has (w := w) (D := (Dg.zero 0).cells) rfl); go_enter func60, ntmps60; go_wp2_with fail; refine (HJ.out _).mono ?_; rintro e w1 ⟨rfl, hw1⟩; have HA1 : Kp (Has w1 w.heap.size (Dg.zero 0).cells 34 ∧ w.grownBy w1 none ∧ ∃ r, r = w.heap.size) := ⟨by rw [hw1]; exact ⟨HA.out.1, HA.out.2, _, rfl⟩⟩; clear hw1 HA HJ hm hy h4 h; obtain ⟨rb, hrb⟩ := HA1.out.2.2; rw [← hrb] at HA1 ⊢; have HA2 : Kp (Has w1 rb (Dg.zero 0).cells 34 ∧ w.grownBy w1 none ∧ w.heap.size ≤ rb) := ⟨HA1.out.1, HA1.out.2.1, by omega⟩; clear HA1 hrb
  go_wp2_with (show wpList _ _ _ ({ dst := _, op := Op.store 34 _ _, type := _, pos := _, after := _, guard := _ } :: _) _ _; refine store_dg w1 (Dg.zero 5) rfl rfl rfl rfl rfl ?_; intro w2 h2 g2; have HQ : Kp (DQ w w2 rb w1.heap.size (Dg.zero 5).cells) := ⟨h2, HA2.out.1.kept g2 (by simp), HA2.out.2.1.trans g2, HA2.out.2.1.size, HA2.out.2.2, by have := HA2.out.1.lt; omega⟩; clear h2 g2; generalize w1.heap.size = db at HQ ⊢; have c0 : w2.cell? ⟨db, 0, none⟩ = some (.int .i64 5) := HQ.out.a.cellv 0 _ rfl; have c5 := HQ.out.a.cellv 5 _ rfl; have z5 := HQ.out.a.frozen 5; have c8 := HQ.out.a.cellv 8 _ rfl; have z8 := HQ.out.a.frozen 8; have c14 := HQ.out.a.cellv 14 _ rfl; have z14 := HQ.out.a.frozen 14; have HF : Kp (DQ w (((w2.setCell ⟨db, 14, none⟩ (.string (s.extract 23 55))).setCell ⟨db, 5, none⟩ (.int .u64 ((n4 : Nat) : Int))).setCell ⟨db, 8, none⟩ (.int .u64 ((n12 : Nat) : Int))) rb db (Dg.cells { Dg.zero 5 with session := n4, seq := n12, tag := s.extract 23 55 })) := ⟨((HQ.out.set 14 (.string (s.extract 23 55))).set 5 (.int .u64 ((n4 : Nat) : Int))).set 8 (.int .u64 ((n12 : Nat) : Int))⟩; clear HQ HA2)
  refine (HN4.out _).mono ?_; rintro e w5 ⟨rfl, rfl⟩; go_wp2_with fail; refine (HN12.out _).mono ?_; rintro e w6 ⟨rfl, rfl⟩; go_wp2_with fail; refine wp_region_held_drew (S := fun _ => True) (by kernel_rfl) trivial (fun hHeld => ?_); have HF1 : Kp (DQ w (((w2.setCell ⟨db, 14, none⟩ (.string (s.extract 23 55))).setCell ⟨db, 5, none⟩ (.int .u64 ((n4 : Nat) : Int))).setCell ⟨db, 8, none⟩ (.int .u64 ((n12 : Nat) : Int))).drew rb db (Dg.cells { Dg.zero 5 with session := n4, seq := n12, tag := s.extract 23 55 })) := ⟨HF.out.a, HF.out.b, HF.out.g.trans (gr_drew _ _), HF.out.lo, HF.out.lr, HF.out.ne⟩; clear HF c0 c5 z5 c8 z8 c14 z14; generalize (((w2.setCell ⟨db, 14, none⟩ (.string (s.extract 23 55))).setCell ⟨db, 5, none⟩ (.int .u64 ((n4 : Nat) : Int))).setCell ⟨db, 8, none⟩ (.int .u64 ((n12 : Nat) : Int))).drew = w9 at *; refine hq 0 rfl ?_; refine hq 1 rfl ?_; refine hq 3 rfl ?_; refine hq 4 rfl ?_; refine hq 6 rfl ?_; refine hq 7 rfl ?_; refine hq 8 rfl ?_; refine hq 9 rfl ?_; refine hq 10 rfl ?_; refine hq 11 rfl ?_; refine hq 12 rfl ?_; simp only [Act.put, uz]; refine ha 2 (fun K hK => ?_) (ho := rfl); go_simp; refine (HS20.out _).mono ?_; rintro e w10 ⟨rfl, hw⟩; rw [hw]; clear hw w10; refine hK.out _ _ trivial (fun _ => ?_); clear hK K; refine ha 5 (fun K hK => ?_) (ho := rfl); go_simp; refine (HS21.out _).mono ?_; rintro e w10 ⟨rfl, hw⟩; rw [hw]; clear hw w10; refine hK.out _ _ trivial (fun _ => ?_); clear hK K; refine hq 13 rfl ?_; refine hq 14 rfl ?_; simp only [Act.put, uz]; have HG : Kp (DQ w ((((w9.setCell ⟨db, 9, none⟩ (.int .i64 t20)).setCell ⟨db, 10, none⟩ (.int .i64 t21)).setCell ⟨db, 11, none⟩ (.bool fi)).setCell ⟨db, 12, none⟩ (.bool bo)) rb db (Dg.cells { Dg.zero 5 with session := n4, seq := n12, thr := t20, turn := t21, fire := fi, boost := bo, tag := s.extract 23 55 })) := ⟨(((HF1.out.set 9 (.int .i64 t20)).set 10 (.int .i64 t21)).set 11 (.bool fi)).set 12 (.bool bo)⟩; have HT := Kp.mk (HG.out.told rfl); have c0 : w9.cell? ⟨db, 0, none⟩ = some (.int .i64 5) := HF1.out.a.cellv 0 _ rfl; have c9 := HF1.out.a.cellv 9 _ rfl; have z9 := HF1.out.a.frozen 9; have c10 := HF1.out.a.cellv 10 _ rfl; have z10 := HF1.out.a.frozen 10; have c11 := HF1.out.a.cellv 11 _ rfl; have z11 := HF1.out.a.frozen 11; have c12 := HF1.out.a.cellv 12 _ rfl; have z12 := HF1.out.a.frozen 12; refine ha 15 (fun K hK => ?_) (ho := rfl); go_simp; refine hK.out _ _ trivial (fun _ => ?_); clear hK K hHeld; refine hd_ ?_
  go_wp2_with (first | (show wpList _ _ _ ({ dst := _, op := Op.load 34 _, type := _, pos := _, after := _, guard := _ } :: _) _ _; refine wpList_load_mid rfl 34 _ rfl _ _ rfl (Dg.cells { Dg.zero 5 with session := n4, seq := n12, thr := t20, turn := t21, fire := fi, boost := bo, tag := s.extract 23 55 }) _ HG.out.a.range hdu hdr info26 ?_) | (show wpList _ _ _ ({ dst := _, op := Op.store 34 _ _, type := _, pos := _, after := _, guard := _ } :: _) _ _; refine wpList_store_mid rfl 34 _ _ rfl rb 0 (Dg.cells { Dg.zero 5 with session := n4, seq := n12, thr := t20, turn := t21, fire := fi, boost := bo, tag := s.extract 23 55 }).toArray rfl rfl (HG.out.b.there 0 15 (by decide)) (dg_info { Dg.zero 5 with session := n4, seq := n12, thr := t20, turn := t21, fire := fi, boost := bo, tag := s.extract 23 55 }) (dg_one { Dg.zero 5 with session := n4, seq := n12, thr := t20, turn := t21, fire := fi, boost := bo, tag := s.extract 23 55 }) ?_))
  exact ret_ct rfl rfl (cs := Dg.cells { Dg.zero 5 with session := n4, seq := n12, thr := t20, turn := t21, fire := fi, boost := bo, tag := s.extract 23 55 }) (t := 34) HT.out.1 hdu hdr info26 rfl ⟨rfl, HT.out.2⟩
theorem rsealed_c (s key : ByteArray) (w : World) (hk : RK w) (h4 : 5 ≤ w.heap.size) (hs : s.size ≤ 2147483648) (hkey : key.size ≤ 2147483648) :
    CRt 61 #[.string s, .string key] w (.bool (sealed s key)) := by
  have HB := Kp.mk (rbody_c s w (by omega)); have hE := emptyS (bodyB s); have hsz := bodyB_size s; have HSD : Kp (sealed s key = decide (bodyB s ≠ nob ∧ s.extract (bodyB s).size s.size = hmacB key (bodyB s))) := ⟨rfl⟩; obtain ⟨B, hB⟩ : ∃ B, bodyB s = B := ⟨_, rfl⟩; rw [hB] at HB hE hsz HSD; have hsz2 : (B.size : Int) ≤ (s.size : Int) := by omega
  have HT := Kp.mk (fun W (g : w.grownBy W none) => rtag_any key B W (hk.kept g) (Nat.le_trans h4 g.size) hkey (by omega)); obtain ⟨H, hH⟩ : ∃ H, hmacB key B = H := ⟨_, rfl⟩; rw [hH] at HT HSD; clear hB hk h4 hH hs hkey; obtain ⟨R, hR⟩ : ∃ R, sealed s key = R := ⟨_, rfl⟩; rw [hR] at HSD ⊢; clear hR; by_cases hb : B = nob
  · rw [decide_eq_true hb] at hE; (have hRe : R = false := by rw [HSD.out]; exact decide_eq_false fun q => q.1 hb); subst hRe; clear HSD hb; go_enter func61, ntmps61; go_wp2_with fail; refine HB.out.mono ?_; rintro e w1 ⟨rfl, rfl⟩; have HG : Kp (w1.grownBy w1.drew none) := ⟨gr_drew _ _⟩; go_wp2_with fail; refine wp_region_held_drew (S := fun _ => True) (by kernel_rfl) trivial (fun hHeld => ?_); refine hq 0 rfl ?_; refine hq 1 rfl ?_; refine hq 2 rfl ?_; simp only [Act.put, uz]; refine wpAnyH_take (i := 3) (oi := _) (v := undef) rfl (by kernel_rfl) (by kernel_rfl) (by kernel_rfl) (fun _ _ _ h => h) (Or.inr ⟨by rfl, rfl⟩) (by assumption) ?_; simp only [Act.put, uz]; refine wpAnyH_take (i := 4) (oi := _) (v := undef) rfl (by kernel_rfl) (by kernel_rfl) (by kernel_rfl) (fun _ _ _ h => h) (Or.inr ⟨by rfl, rfl⟩) (by assumption) ?_; simp only [Act.put, uz]; refine wpAnyH_take (i := 5) (oi := _) (v := undef) rfl (by kernel_rfl) (by kernel_rfl) (by kernel_rfl) (fun _ _ _ h => h) (Or.inr ⟨by rfl, rfl⟩) (by assumption) ?_; simp only [Act.put, uz]; refine wpAnyH_take (i := 6) (oi := _) (v := undef) rfl (by kernel_rfl) (by kernel_rfl) (by kernel_rfl) (fun _ _ _ h => h) (Or.inr ⟨by rfl, rfl⟩) (by assumption) ?_; simp only [Act.put, uz]; refine wpAnyH_take (i := 7) (oi := _) (v := undef) rfl (by kernel_rfl) (by kernel_rfl) (by kernel_rfl) (fun _ _ _ h => h) (Or.inr ⟨by rfl, rfl⟩) (by assumption) ?_; simp only [Act.put, uz]; refine wpAnyH_take (i := 8) (oi := _) (v := undef) rfl (by kernel_rfl) (by kernel_rfl) (by kernel_rfl) (fun _ _ _ h => h) (Or.inr ⟨by rfl, rfl⟩) (by assumption) ?_; simp only [Act.put, uz]; refine wpAnyH_take (i := 9) (oi := _) (v := undef) rfl (by kernel_rfl) (by kernel_rfl) (by kernel_rfl) (fun _ _ _ h => h) (Or.inr ⟨by rfl, rfl⟩) (by assumption) ?_; simp only [Act.put, uz]; refine wpAnyH_take (i := 10) (oi := _) (v := undef) rfl (by kernel_rfl) (by kernel_rfl) (by kernel_rfl) (fun _ _ _ h => h) (Or.inr ⟨by rfl, rfl⟩) (by assumption) ?_; simp only [Act.put, uz]; refine hq 11 rfl ?_; refine hq 12 rfl ?_; simp only [Act.put, uz]; refine hd_ ?_; clear hHeld; go_wp2_with fail; go_ret; exact ⟨rfl, HG.out⟩
  · rw [decide_eq_false hb] at hE; obtain ⟨X, hX⟩ : ∃ X, s.extract B.size s.size = X := ⟨_, rfl⟩; rw [hX] at HSD
    have hRe : R = (X.toList == H.toList) := by
      rw [HSD.out, eqS]; exact decide_eq_decide.2 ⟨fun q => q.2, fun q => ⟨hb, q⟩⟩
    clear HSD hb; rw [hRe]; clear hRe; go_enter func61, ntmps61; go_wp2_with fail; refine HB.out.mono ?_; rintro e w1 ⟨rfl, rfl⟩; have HG : Kp (w1.grownBy w1.drew none) := ⟨gr_drew _ _⟩; go_wp2_with fail; refine wp_region_held_drew (S := fun _ => True) (by kernel_rfl) trivial (fun hHeld => ?_); generalize w1.drew = w2 at *; refine hq 0 rfl ?_; refine hq 1 rfl ?_; refine hq 2 rfl ?_; refine hq 3 rfl ?_; refine hq 4 rfl ?_; refine hq 5 rfl ?_; refine hq 6 rfl ?_; refine hq 7 rfl ?_; refine hq 8 rfl ?_; simp only [Act.put, uz]; refine ha 9 (fun K hK => ?_) (ho := rfl); go_simp; refine (HT.out _ HG.out).mono ?_; rintro e w3 ⟨rfl, g⟩; replace HG := Kp.mk (HG.out.trans g); clear g; refine hK.out _ _ trivial (fun _ => ?_); clear hK K; refine hq 10 rfl ?_; refine hq 11 rfl ?_; refine hq 12 rfl ?_; simp only [Act.put, uz]; refine hd_ ?_; clear hHeld; go_wp2_with fail; go_ret; exact ⟨rfl, HG.out⟩
end Go.Proofs.YtldnpebnpbahjaaGreatDoor.Pk
