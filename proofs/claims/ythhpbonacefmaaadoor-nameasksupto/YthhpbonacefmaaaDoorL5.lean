/- alike, odd. -/
import Derived.Test.YthhpbonacefmaaaDoorL3
import Derived.Deep.DeepCutAuto
namespace Go.Proofs.YthhpbonacefmaaaDoor
open Go Go.RowKit

theorem whole_utf {p : Nat × List UInt8} (h : Whole p) (hx : p.2.length = 1 → p.1 < 128) : p.2 = utfL p.1 := by
  by_cases h1 : p.1 < 128
  · rw [whole_one h h1, utfL, if_pos h1]
  by_cases h2 : p.1 < 2048
  · rw [whole_two h (by omega) h2, utfL, if_neg h1, if_pos h2]
  obtain ⟨h3, h4, h5⟩ := h
  obtain ⟨n, bs⟩ := p
  simp only at *
  match bs, h3 with
  | b :: t, _ =>
    have e := h5 []
    rw [List.append_nil] at e
    have hb2 := b.toNat_lt
    cases form b t with
    | one hb t => rw [dec_ascii hb] at e; have e1 := congrArg Prod.fst e; simp only at e1; omega
    | @two c hb hc hv t => rw [dec_two hb hc hv] at e; have e1 := congrArg Prod.fst e; simp only at e1; omega
    | @three c d hb hc hd hv t =>
      rw [dec_three hb hc hd hv] at e
      have e1 := congrArg Prod.fst e
      have e2 := congrArg Prod.snd e
      simp only [List.length_cons] at e1 e2
      obtain rfl : t = [] := List.eq_nil_of_length_eq_zero (by omega)
      have hc2 := c.toNat_lt
      have hd2 := d.toNat_lt
      rw [utfL, if_neg h1, if_neg h2, if_pos (by omega), show 224 + n / 4096 = b.toNat by omega, show 128 + n / 64 % 64 = c.toNat by omega, show 128 + n % 64 = d.toNat by omega]
      simp
    | @four c d f hb hc hd hf hv t =>
      rw [dec_four hb hc hd hf hv] at e
      have e1 := congrArg Prod.fst e
      have e2 := congrArg Prod.snd e
      simp only [List.length_cons] at e1 e2
      obtain rfl : t = [] := List.eq_nil_of_length_eq_zero (by omega)
      have hc2 := c.toNat_lt
      have hd2 := d.toNat_lt
      have hf2 := f.toNat_lt
      rw [utfL, if_neg h1, if_neg h2, if_neg (by omega), show 240 + n / 262144 = b.toNat by omega, show 128 + n / 4096 % 64 = c.toNat by omega, show 128 + n / 64 % 64 = d.toNat by omega, show 128 + n % 64 = f.toNat by omega]
      simp
    | odd hb _ =>
      exfalso
      rw [hb] at e
      have e2 := congrArg Prod.snd e
      simp only [List.length_cons] at e2
      exact h1 (hx (by rw [List.length_cons]; omega))
theorem kind2 {p : Nat × List UInt8} (h : Whole p ∨ Odd p) : (Whole p ∧ (p.2.length = 1 → p.1 < 128)) ∨ Odd p := by
  rcases h with h | h
  · by_cases hx : p.2.length = 1 → p.1 < 128
    · exact .inl ⟨h, hx⟩
    · right
      have h1 : p.2.length = 1 := Classical.byContradiction fun h2 => hx fun h3 => absurd h3 h2
      have h2 : ¬ p.1 < 128 := fun h2 => hx fun _ => h2
      obtain ⟨n, bs⟩ := p
      match bs, h1 with
      | [b], _ =>
        have e := h.2.2 []
        simp only [List.append_nil] at e
        by_cases hb : b.toNat < 128
        · rw [dec_ascii hb] at e
          have e1 := congrArg Prod.fst e
          simp only at e1 h2
          omega
        · refine ⟨b, ?_, by omega⟩
          have : dec [b] = (65533, 1) := by
            rw [dec_cons]; simp [Lib.decodeN, hb]
          rw [this] at e
          have e1 := congrArg Prod.fst e
          simp only at e1
          rw [e1]
  · exact .inr h
/-- a byte that begins no rune, or U+FFFD -/
def oddL (l : List UInt8) : Bool := (decide (l.length = 1) && decide (128 ≤ (l.getD 0 0).toNat)) || decide (l = [239, 191, 189])
theorem odd_iff {p : Nat × List UInt8} (h : Whole p ∨ Odd p) : oddL p.2 = decide (p.1 = 65533) := by
  rcases kind2 h with ⟨hw, hx⟩ | ⟨b, rfl, hb⟩
  · by_cases h1 : p.1 = 65533
    · have := whole_utf hw hx
      rw [h1] at this
      rw [decide_eq_true h1, this]; decide
    · rw [decide_eq_false h1]
      unfold oddL
      rw [Bool.or_eq_false_iff, Bool.and_eq_false_iff]
      constructor
      · by_cases hl : p.2.length = 1
        · right
          have h2 := whole_one hw (hx hl)
          rw [h2]
          simp only [List.getD_cons_zero, decide_eq_false_iff_not]
          rw [ofn (by have := hx hl; omega)]
          have := hx hl
          omega
        · exact .inl (decide_eq_false hl)
      · apply decide_eq_false
        intro e
        apply h1
        have := hw.2.2 []
        rw [List.append_nil, e] at this
        have e2 := congrArg Prod.fst this
        rw [show (dec [239, 191, 189]).1 = 65533 by decide] at e2
        exact e2.symm
  · simp [oddL, hb]
/-- two runes are one just if their bytes are, or both are odd -/
theorem piece_eq {p q : Nat × List UInt8} (hp : Whole p ∨ Odd p) (hq : Whole q ∨ Odd q) : p.1 = q.1 ↔ (p.2 = q.2 ∨ (oddL p.2 = true ∧ oddL q.2 = true)) := by
  rw [odd_iff hp, odd_iff hq, decide_eq_true_eq, decide_eq_true_eq]
  constructor
  · intro h
    by_cases h1 : p.1 = 65533
    · exact .inr ⟨h1, by omega⟩
    · left
      rcases kind2 hp with ⟨pw, px⟩ | ⟨b, rfl, hb⟩
      · rcases kind2 hq with ⟨qw, qx⟩ | ⟨b, rfl, hb⟩
        · rw [whole_utf pw px, whole_utf qw qx, h]
        · exact absurd h h1
      · exact absurd rfl h1
  · rintro (h | ⟨h1, h2⟩)
    · by_cases h1 : p.1 = 65533
      · have e := odd_iff hp
        rw [h, odd_iff hq, decide_eq_decide] at e
        rw [h1, e.2 h1]
      · have h2 : q.1 ≠ 65533 := fun h2 => h1 (by
          have e := odd_iff hp
          rw [h, odd_iff hq, decide_eq_decide] at e
          exact e.1 h2)
        rcases kind2 hp with ⟨pw, px⟩ | ⟨b, rfl, hb⟩
        · rcases kind2 hq with ⟨qw, qx⟩ | ⟨b, rfl, hb⟩
          · have e1 := pw.2.2 []
            have e2 := qw.2.2 []
            rw [h, e2] at e1
            exact (congrArg Prod.fst e1).symm
          · exact absurd rfl h2
        · exact absurd rfl h1
    · omega
theorem good_kind {p : Nat × List UInt8} {ps : List (Nat × List UInt8)} (g : Good (p :: ps)) : (Whole p ∨ Odd p) ∧ Good ps ∧ p.2 ≠ [] := by
  cases g with
  | whole h g => exact ⟨.inl h, g, h.1⟩
  | odd hb h g => exact ⟨.inr ⟨_, rfl, hb⟩, g, by simp⟩

theorem strEq (x y : ByteArray) : (x.toList == y.toList) = decide (sl x = sl y) := by
  rw [ByteArray.toList_eq, ByteArray.toList_eq]
  by_cases h : sl x = sl y
  · rw [decide_eq_true h]; unfold sl at h; rw [h]; simp
  · rw [decide_eq_false h]; unfold sl at h; simpa using h
theorem sl_at' (s : ByteArray) (i : Nat) (h : i < s.size) : (sl s)[i]? = some s[i] := by
  unfold sl
  rw [Array.getElem?_toList]
  exact Array.getElem?_eq_getElem h
theorem idx9' (s : ByteArray) (i : Nat) (y : UInt8) (h : i < s.size) (hy : (sl s)[i]? = some y) (W : World) : (Instr.index 9 (.string s) (.int .i64 (i : Int))).run Tryd.prog W = .ok (.int .u8 y.toNat) W := by
  rw [run_index_string W 9 s .i64 i (by kernel_rfl), dif_pos ⟨by omega, by omega⟩]
  rw [sl_at' s i h] at hy
  simp only [Int.toNat_natCast, Option.some.inj hy]

set_option maxRecDepth 100000 in
set_option maxHeartbeats 2000000 in
theorem odd_c (x : ByteArray) (w : World) : Calls Tryd.prog 31 #[.string x] w fun e w' => e = .returned (.bool (oddL (sl x))) ∧ w' = w := by
  have hE : (x.toList == [239, 191, 189]) = decide (sl x = [239, 191, 189]) := by
    have := strEq x ⟨#[239, 191, 189]⟩
    rw [ByteArray.toList_eq ⟨#[239, 191, 189]⟩] at this
    exact this
  go_enter Tryd.func31, Tryd.ntmps31
  by_cases h1 : x.size = 1
  · obtain ⟨b, hb⟩ : ∃ b, sl x = [b] := by
      have : (sl x).length = 1 := h1
      match hx : sl x, this with
      | [b], _ => exact ⟨b, rfl⟩
    have hix : ∀ W, (Instr.index 9 (.string x) (.int .i64 0)).run Tryd.prog W = .ok (.int .u8 b.toNat) W := idx9' x 0 b (by omega) (by rw [hb]; rfl)
    rw [hb, decide_eq_false (by simp)] at hE
    have hb2 := b.toNat_lt
    have HO : Keep (oddL (sl x) = decide (128 ≤ b.toNat)) := ⟨by rw [hb]; simp [oddL]⟩
    obtain ⟨v, hv⟩ : ∃ v : Int, (b.toNat : Int) = v := ⟨_, rfl⟩
    have hv0 : 0 ≤ v := by omega
    have hv1 : v < 256 := by omega
    rw [hv] at hix
    have H2 : Keep (128 ≤ b.toNat ↔ 128 ≤ v) := ⟨by omega⟩
    clear hv hb2 hb
    by_cases h2 : 128 ≤ v
    · rw [decide_eq_true (H2.out.2 h2)] at HO
      go_wp2_with fail
      go_ret
      rw [HO.out]
      exact ⟨rfl, rfl⟩
    · rw [decide_eq_false (fun h => h2 (H2.out.1 h))] at HO
      go_wp2_with fail
      go_ret
      rw [HO.out]
      exact ⟨rfl, rfl⟩
  · have HO : Keep (oddL (sl x) = decide (sl x = [239, 191, 189])) := ⟨by
      unfold oddL; rw [decide_eq_false (show ¬ (sl x).length = 1 from h1)]; simp⟩
    generalize decide (sl x = [239, 191, 189]) = Q at hE HO
    go_wp2_with fail
    go_ret
    rw [HO.out]
    exact ⟨rfl, rfl⟩
end Go.Proofs.YthhpbonacefmaaaDoor
