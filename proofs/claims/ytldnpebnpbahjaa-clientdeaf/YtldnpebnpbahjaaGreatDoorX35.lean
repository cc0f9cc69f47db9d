import Derived.Lib.DecodeN
import Derived.KernelRfl
import Derived.Test.YtldnpebnpbahjaaGreatDoorX3
import Derived.Laws.RangeAny
import Derived.Laws.ShiftsVarLaws
import Derived.Lib.ConvBytes
import Derived.Maps.AppendAt
import Derived.Laws.EntriesVeiled
import Derived.Lib.OthersKept
import Derived.Laws.ResultCell
import Derived.Test.YtldnpebnpbahjaaGreatDoorX8
namespace Go.Proofs.YtldnpebnpbahjaaGreatDoor.Pk.Na
open Go Go.Lib

/-- the rune that bytes begin with, and how many bytes it has -/
def dec (l : List UInt8) : Nat × Nat := decodeN l.length (l.getD 0 0).toNat (l.getD 1 0).toNat (l.getD 2 0).toNat (l.getD 3 0).toNat
/-- does a byte go on? -/
def cont (b : UInt8) : Bool := b.toNat / 64 == 2

set_option maxRecDepth 100000 in
theorem dec_cons (b : UInt8) (t : List UInt8) : dec (b :: t) = decodeN (t.length + 1) b.toNat (t.getD 0 0).toNat (t.getD 1 0).toNat (t.getD 2 0).toNat := rfl

/-- of what stands behind the first byte only the bytes that go on count, three at most -/
theorem dec_tw (b : UInt8) (t : List UInt8) : dec (b :: t.takeWhile cont) = dec (b :: t) := by
  rw [dec_cons, dec_cons]
  have h0 : (0 : UInt8).toNat = 0 := rfl
  match t with
  | [] => rfl
  | c :: t =>
    by_cases hc : cont c = true
    · rw [List.takeWhile_cons_of_pos hc]
      match t with
      | [] => rfl
      | d :: t =>
        by_cases hd : cont d = true
        · rw [List.takeWhile_cons_of_pos hd]
          match t with
          | [] => rfl
          | e :: t =>
            by_cases he : cont e = true
            · rw [List.takeWhile_cons_of_pos he]
              simp only [List.getD_cons_zero, List.getD_cons_succ, List.length_cons]
              simp [decodeN]
            · rw [List.takeWhile_cons_of_neg he]
              simp only [cont, beq_iff_eq] at hc hd he
              simp only [List.getD_cons_zero, List.getD_cons_succ, List.length_cons, List.getD_nil, h0]
              simp [decodeN, hc, hd, he]
        · rw [List.takeWhile_cons_of_neg hd]
          simp only [cont, beq_iff_eq] at hc hd
          simp only [List.getD_cons_zero, List.getD_cons_succ, List.length_cons, List.getD_nil, h0]
          simp [decodeN, hc, hd]
    · rw [List.takeWhile_cons_of_neg hc]
      simp only [cont, beq_iff_eq] at hc
      simp only [List.getD_cons_zero, List.getD_cons_succ, List.length_cons, List.getD_nil, h0]
      simp [decodeN, hc]
set_option maxRecDepth 100000 in
theorem dec_tw2 {b : UInt8} {t t' : List UInt8} (h : t.takeWhile cont = t'.takeWhile cont) : dec (b :: t) = dec (b :: t') := by
  rw [← dec_tw b t, h, dec_tw]

/-- how many bytes: at least one, at most all -/
theorem decodeN_w (n b0 b1 b2 b3 : Nat) (hn : 1 ≤ n) : 1 ≤ (decodeN n b0 b1 b2 b3).2 ∧ (decodeN n b0 b1 b2 b3).2 ≤ n ∧ (decodeN n b0 b1 b2 b3).2 ≤ 4 := by
  unfold decodeN
  repeat' split
  all_goals simp only
  all_goals omega
set_option maxRecDepth 100000 in
theorem dec_w {l : List UInt8} (h : l ≠ []) : 1 ≤ (dec l).2 ∧ (dec l).2 ≤ l.length ∧ (dec l).2 ≤ 4 := by
  apply decodeN_w
  cases l with
  | nil => exact absurd rfl h
  | cons b t => simp

set_option maxRecDepth 100000 in
theorem dec_ascii {b : UInt8} (h : b.toNat < 128) (t : List UInt8) : dec (b :: t) = (b.toNat, 1) := by
  rw [dec_cons, decodeN, if_pos h]

set_option maxRecDepth 100000 in
theorem dec_two {b c : UInt8} (h : b.toNat / 32 = 6) (hc : c.toNat / 64 = 2) (hv : 128 ≤ b.toNat % 32 * 64 + c.toNat % 64) (t : List UInt8) :
    dec (b :: c :: t) = (b.toNat % 32 * 64 + c.toNat % 64, 2) := by
  rw [dec_cons]
  simp only [List.getD_cons_zero, List.length_cons]
  rw [decodeN, if_neg (by omega), if_pos (by omega), if_pos (by omega)]
set_option maxRecDepth 100000 in
theorem dec_three {b c d : UInt8} (h : b.toNat / 16 = 14) (hc : c.toNat / 64 = 2) (hd : d.toNat / 64 = 2)
    (hv : b.toNat % 16 * 4096 + c.toNat % 64 * 64 + d.toNat % 64 ≥ 2048 ∧ (b.toNat % 16 * 4096 + c.toNat % 64 * 64 + d.toNat % 64 < 55296 ∨ (57344 ≤ b.toNat % 16 * 4096 + c.toNat % 64 * 64 + d.toNat % 64 ∧ b.toNat % 16 * 4096 + c.toNat % 64 * 64 + d.toNat % 64 ≤ 1114111))) (t : List UInt8) :
    dec (b :: c :: d :: t) = (b.toNat % 16 * 4096 + c.toNat % 64 * 64 + d.toNat % 64, 3) := by
  rw [dec_cons]
  simp only [List.getD_cons_zero, List.getD_cons_succ, List.length_cons]
  rw [decodeN, if_neg (by omega), if_neg (by omega), if_pos (by omega), if_pos hv]
set_option maxRecDepth 100000 in
theorem dec_four {b c d e : UInt8} (h : b.toNat / 8 = 30) (hc : c.toNat / 64 = 2) (hd : d.toNat / 64 = 2) (he : e.toNat / 64 = 2)
    (hv : b.toNat % 8 * 262144 + c.toNat % 64 * 4096 + d.toNat % 64 * 64 + e.toNat % 64 ≥ 65536 ∧ (b.toNat % 8 * 262144 + c.toNat % 64 * 4096 + d.toNat % 64 * 64 + e.toNat % 64 < 55296 ∨ (57344 ≤ b.toNat % 8 * 262144 + c.toNat % 64 * 4096 + d.toNat % 64 * 64 + e.toNat % 64 ∧ b.toNat % 8 * 262144 + c.toNat % 64 * 4096 + d.toNat % 64 * 64 + e.toNat % 64 ≤ 1114111))) (t : List UInt8) :
    dec (b :: c :: d :: e :: t) = (b.toNat % 8 * 262144 + c.toNat % 64 * 4096 + d.toNat % 64 * 64 + e.toNat % 64, 4) := by
  rw [dec_cons]
  simp only [List.getD_cons_zero, List.getD_cons_succ, List.length_cons]
  rw [decodeN, if_neg (by omega), if_neg (by omega), if_neg (by omega), if_pos (by omega), if_pos hv]

/-- a byte that begins none, or a whole rune: of one, two, three, four bytes -/
inductive Form : UInt8 → List UInt8 → Prop
  | one {b : UInt8} (h : b.toNat < 128) (t : List UInt8) : Form b t
  | two {b c : UInt8} (h : b.toNat / 32 = 6) (hc : c.toNat / 64 = 2) (hv : 128 ≤ b.toNat % 32 * 64 + c.toNat % 64) (t : List UInt8) : Form b (c :: t)
  | three {b c d : UInt8} (h : b.toNat / 16 = 14) (hc : c.toNat / 64 = 2) (hd : d.toNat / 64 = 2)
    (hv : b.toNat % 16 * 4096 + c.toNat % 64 * 64 + d.toNat % 64 ≥ 2048 ∧ (b.toNat % 16 * 4096 + c.toNat % 64 * 64 + d.toNat % 64 < 55296 ∨ (57344 ≤ b.toNat % 16 * 4096 + c.toNat % 64 * 64 + d.toNat % 64 ∧ b.toNat % 16 * 4096 + c.toNat % 64 * 64 + d.toNat % 64 ≤ 1114111))) (t : List UInt8) : Form b (c :: d :: t)
  | four {b c d e : UInt8} (h : b.toNat / 8 = 30) (hc : c.toNat / 64 = 2) (hd : d.toNat / 64 = 2) (he : e.toNat / 64 = 2)
    (hv : b.toNat % 8 * 262144 + c.toNat % 64 * 4096 + d.toNat % 64 * 64 + e.toNat % 64 ≥ 65536 ∧ (b.toNat % 8 * 262144 + c.toNat % 64 * 4096 + d.toNat % 64 * 64 + e.toNat % 64 < 55296 ∨ (57344 ≤ b.toNat % 8 * 262144 + c.toNat % 64 * 4096 + d.toNat % 64 * 64 + e.toNat % 64 ∧ b.toNat % 8 * 262144 + c.toNat % 64 * 4096 + d.toNat % 64 * 64 + e.toNat % 64 ≤ 1114111))) (t : List UInt8) : Form b (c :: d :: e :: t)
  | odd {b : UInt8} {t : List UInt8} (h : dec (b :: t) = (65533, 1)) (hb : 128 ≤ b.toNat) : Form b t

set_option maxRecDepth 100000 in
theorem form (b : UInt8) (t : List UInt8) : Form b t := by
  by_cases h1 : b.toNat < 128
  · exact .one h1 t
  by_cases hd : dec (b :: t) = (65533, 1)
  · exact .odd hd (by omega)
  have hx := hd
  rw [dec_cons] at hd
  match t with
  | [] => exact absurd (by simp [decodeN, h1]) hd
  | c :: t =>
    simp only [List.getD_cons_zero, List.getD_cons_succ, List.length_cons] at hd
    by_cases h2 : b.toNat / 32 = 6 ∧ c.toNat / 64 = 2 ∧ 128 ≤ b.toNat % 32 * 64 + c.toNat % 64
    · exact .two h2.1 h2.2.1 h2.2.2 t
    match t with
    | [] =>
      refine absurd ?_ hd
      rw [decodeN, if_neg h1]
      split
      · rw [if_neg (by omega)]
      · rw [if_neg (by simp), if_neg (by simp)]
    | d :: t =>
      simp only [List.getD_cons_zero, List.getD_cons_succ, List.length_cons] at hd
      by_cases h3 : b.toNat / 16 = 14 ∧ c.toNat / 64 = 2 ∧ d.toNat / 64 = 2 ∧ (b.toNat % 16 * 4096 + c.toNat % 64 * 64 + d.toNat % 64 ≥ 2048 ∧ (b.toNat % 16 * 4096 + c.toNat % 64 * 64 + d.toNat % 64 < 55296 ∨ (57344 ≤ b.toNat % 16 * 4096 + c.toNat % 64 * 64 + d.toNat % 64 ∧ b.toNat % 16 * 4096 + c.toNat % 64 * 64 + d.toNat % 64 ≤ 1114111)))
      · exact .three h3.1 h3.2.1 h3.2.2.1 h3.2.2.2 t
      match t with
      | [] =>
        refine absurd ?_ hd
        rw [decodeN, if_neg h1]
        split
        · rw [if_neg (by omega)]
        · split
          · rw [if_neg (by omega)]
          · rw [if_neg (by simp)]
      | e :: t =>
        simp only [List.getD_cons_zero, List.length_cons] at hd
        by_cases h4 : b.toNat / 8 = 30 ∧ c.toNat / 64 = 2 ∧ d.toNat / 64 = 2 ∧ e.toNat / 64 = 2 ∧ (b.toNat % 8 * 262144 + c.toNat % 64 * 4096 + d.toNat % 64 * 64 + e.toNat % 64 ≥ 65536 ∧ (b.toNat % 8 * 262144 + c.toNat % 64 * 4096 + d.toNat % 64 * 64 + e.toNat % 64 < 55296 ∨ (57344 ≤ b.toNat % 8 * 262144 + c.toNat % 64 * 4096 + d.toNat % 64 * 64 + e.toNat % 64 ∧ b.toNat % 8 * 262144 + c.toNat % 64 * 4096 + d.toNat % 64 * 64 + e.toNat % 64 ≤ 1114111)))
        · exact .four h4.1 h4.2.1 h4.2.2.1 h4.2.2.2.1 h4.2.2.2.2 t
        refine absurd ?_ hd
        rw [decodeN, if_neg h1]
        split
        · rw [if_neg (by omega)]
        · split
          · rw [if_neg (by omega)]
          · split
            · rw [if_neg (by omega)]
            · rfl

/-- a piece that is whole: whatever stands behind it -/
def Whole (p : Nat × List UInt8) : Prop := p.2 ≠ [] ∧ cont (p.2.getD 0 0) = false ∧ ∀ t, dec (p.2 ++ t) = (p.1, p.2.length)
/-- a byte that begins none -/
def Odd (p : Nat × List UInt8) : Prop := ∃ b : UInt8, p = (65533, [b]) ∧ 128 ≤ b.toNat

set_option maxRecDepth 100000 in
theorem form_whole {b : UInt8} {t : List UInt8} (h : Form b t) : (dec (b :: t) = (65533, 1) ∧ 128 ≤ b.toNat) ∨ Whole ((dec (b :: t)).1, (b :: t).take (dec (b :: t)).2) := by
  cases h with
  | one h t =>
    refine .inr ?_
    rw [dec_ascii h]
    exact ⟨by simp, by simp [cont]; omega, fun t' => by simp [dec_ascii h]⟩
  | two h hc hv t =>
    refine .inr ?_
    rw [dec_two h hc hv]
    exact ⟨by simp, by simp [cont]; omega, fun t' => by simp [dec_two h hc hv]⟩
  | three h hc hd hv t =>
    refine .inr ?_
    rw [dec_three h hc hd hv]
    exact ⟨by simp, by simp [cont]; omega, fun t' => by simp only [List.take_succ_cons, List.take_zero, List.cons_append, List.nil_append, dec_three h hc hd hv]; rfl⟩
  | four h hc hd he hv t =>
    refine .inr ?_
    rw [dec_four h hc hd he hv]
    exact ⟨by simp, by simp [cont]; omega, fun t' => by simp only [List.take_succ_cons, List.take_zero, List.cons_append, List.nil_append, dec_four h hc hd he hv]; rfl⟩
  | odd h hb => exact .inl ⟨h, hb⟩

set_option maxRecDepth 100000 in
theorem odd_prefix {b : UInt8} {t u : List UInt8} (h : dec (b :: t) = (65533, 1)) (hp : u.takeWhile cont <+: t.takeWhile cont) : dec (b :: u) = (65533, 1) := by
  obtain ⟨x, hx⟩ := hp
  rw [← dec_tw] at h ⊢
  rw [← hx] at h
  generalize u.takeWhile cont = v at h ⊢
  rcases form_whole (form b v) with ⟨h2, _⟩ | ⟨_, _, h2⟩
  · exact h2
  · have := h2 ((b :: v).drop (dec (b :: v)).2 ++ x)
    rw [← List.append_assoc, List.take_append_drop, List.cons_append, h] at this
    have hw := dec_w (l := b :: v) (by simp)
    have e1 := congrArg Prod.fst this
    have e2 := congrArg Prod.snd this
    simp only [List.length_take] at e1 e2
    rw [Nat.min_eq_left hw.2.1] at e2
    exact Prod.ext e1.symm e2.symm

/-- the runes of a text: each one's number, and its bytes -/
def pieces (l : List UInt8) : List (Nat × List UInt8) :=
  match l with
  | [] => []
  | b :: t => ((dec (b :: t)).1, (b :: t).take (dec (b :: t)).2) :: pieces (t.drop ((dec (b :: t)).2 - 1))
termination_by l.length
decreasing_by simp only [List.length_drop, List.length_cons]; omega

set_option maxRecDepth 100000 in
theorem pieces_nil : pieces [] = [] := by rw [pieces]
set_option maxRecDepth 100000 in
theorem pieces_cons (l : List UInt8) (h : l ≠ []) : pieces l = ((dec l).1, l.take (dec l).2) :: pieces (l.drop (dec l).2) := by
  match l, h with
  | b :: t, _ =>
    rw [pieces]
    have hw := (dec_w (l := b :: t) (by simp)).1
    congr 2
    obtain ⟨k, hk⟩ : ∃ k, (dec (b :: t)).2 = k + 1 := ⟨(dec (b :: t)).2 - 1, by omega⟩
    rw [hk]; simp

/-- what the pieces say, one behind the other -/
def flat (ps : List (Nat × List UInt8)) : List UInt8 := (ps.map Prod.snd).flatten
set_option maxRecDepth 100000 in
theorem flat_cons (p : Nat × List UInt8) (ps : List (Nat × List UInt8)) : flat (p :: ps) = p.2 ++ flat ps := by simp [flat]
set_option maxRecDepth 100000 in
theorem flat_nil : flat [] = [] := rfl
set_option maxRecDepth 100000 in
theorem flat_app (a b : List (Nat × List UInt8)) : flat (a ++ b) = flat a ++ flat b := by simp [flat]
set_option maxRecDepth 100000 in
theorem flat_pieces (l : List UInt8) : flat (pieces l) = l := by
  generalize hn : l.length = n
  induction n using Nat.strongRecOn generalizing l with
  | _ n ih =>
    by_cases h : l = []
    · subst h; rw [pieces_nil]; rfl
    · have hw := dec_w h
      have hl : 0 < l.length := List.length_pos_iff.2 h
      rw [pieces_cons l h, flat_cons, ih _ (by rw [List.length_drop]; omega) _ rfl, List.take_append_drop]

/-- pieces that are read just so -/
inductive Good : List (Nat × List UInt8) → Prop
  | nil : Good []
  | whole {p : Nat × List UInt8} {ps : List (Nat × List UInt8)} (h : Whole p) (g : Good ps) : Good (p :: ps)
  | odd {b : UInt8} {ps : List (Nat × List UInt8)} (hb : 128 ≤ b.toNat) (h : dec (b :: flat ps) = (65533, 1)) (g : Good ps) : Good ((65533, [b]) :: ps)

set_option maxRecDepth 100000 in
theorem good_pieces (l : List UInt8) : Good (pieces l) := by
  generalize hn : l.length = n
  induction n using Nat.strongRecOn generalizing l with
  | _ n ih =>
    match l with
    | [] => rw [pieces_nil]; exact .nil
    | b :: t =>
      have h : b :: t ≠ [] := by simp
      have hw := dec_w h
      have hl : 0 < (b :: t).length := List.length_pos_iff.2 h
      have hg := ih _ (by rw [List.length_drop]; omega) ((b :: t).drop (dec (b :: t)).2) rfl
      rw [pieces_cons _ h]
      rcases form_whole (form b t) with ⟨h2, hb⟩ | h2
      · rw [h2] at hg ⊢
        refine .odd hb ?_ hg
        rw [flat_pieces]
        exact h2
      · exact .whole h2 hg
set_option maxRecDepth 100000 in
theorem pieces_of_good {ps : List (Nat × List UInt8)} (g : Good ps) : pieces (flat ps) = ps := by
  induction g with
  | nil => rw [flat_nil, pieces_nil]
  | @whole p ps h g ih =>
    obtain ⟨h1, _, h2⟩ := h
    rw [flat_cons, pieces_cons _ (by simp [h1]), h2]
    simp [ih]
  | @odd b ps hb h g ih =>
    rw [flat_cons]
    show pieces (b :: flat ps) = _
    rw [pieces_cons _ (by simp), h]
    simp [ih]

set_option maxRecDepth 100000 in
theorem flat_prefix (ps : List (Nat × List UInt8)) (n : Nat) : flat (ps.take n) <+: flat ps := by
  refine ⟨flat (ps.drop n), ?_⟩
  rw [← flat_app, List.take_append_drop]
set_option maxRecDepth 100000 in
theorem tw_prefix {a b : List UInt8} (h : a <+: b) : a.takeWhile cont <+: b.takeWhile cont := by
  obtain ⟨c, rfl⟩ := h
  rw [List.takeWhile_append]
  split
  · rename_i h2
    rw [(List.takeWhile_prefix (l := a) cont).eq_of_length h2]
    exact ⟨_, rfl⟩
  · exact List.prefix_rfl
set_option maxRecDepth 100000 in
theorem good_take {ps : List (Nat × List UInt8)} (g : Good ps) : ∀ n, Good (ps.take n) := by
  induction g with
  | nil => intro n; simp; exact .nil
  | @whole p ps h g ih =>
    intro n
    cases n with
    | zero => exact .nil
    | succ n => exact .whole h (ih n)
  | @odd b ps hb h g ih =>
    intro n
    cases n with
    | zero => exact .nil
    | succ n => exact .odd hb (odd_prefix h (tw_prefix (flat_prefix ps n))) (ih n)
set_option maxRecDepth 100000 in
theorem pieces_take (l : List UInt8) (n : Nat) : pieces (flat ((pieces l).take n)) = (pieces l).take n := pieces_of_good (good_take (good_pieces l) n)

set_option maxRecDepth 100000 in
theorem whole_ascii {b : UInt8} (h : b.toNat < 128) : Whole (b.toNat, [b]) :=
  ⟨by simp, by simp [cont]; omega, fun t => by simp [dec_ascii h]⟩
set_option maxRecDepth 100000 in
theorem good_ascii : ∀ l : List UInt8, (∀ b ∈ l, b.toNat < 128) → Good (l.map fun b => (b.toNat, [b]))
  | [], _ => .nil
  | b :: l, h => .whole (whole_ascii (h b (by simp))) (good_ascii l fun c hc => h c (by simp [hc]))
set_option maxRecDepth 100000 in
theorem flat_ascii (l : List UInt8) : flat (l.map fun b => (b.toNat, [b])) = l := by
  induction l with
  | nil => rfl
  | cons b l ih => rw [List.map_cons, flat_cons, ih]; rfl
set_option maxRecDepth 100000 in
theorem pieces_ascii {l : List UInt8} (h : ∀ b ∈ l, b.toNat < 128) : pieces l = l.map fun b => (b.toNat, [b]) := by
  have := pieces_of_good (good_ascii l h)
  rwa [flat_ascii] at this
/-- pieces, and such behind them as begin with a byte that doesn't go on -/
theorem good_app {ps qs : List (Nat × List UInt8)} (g : Good ps) (g2 : Good qs) (h : (flat qs).takeWhile cont = []) : Good (ps ++ qs) := by
  induction g with
  | nil => exact g2
  | @whole p ps hw g ih => exact .whole hw ih
  | @odd b ps hb hd g ih =>
    refine .odd hb ?_ ih
    show dec (b :: flat (ps ++ qs)) = _
    rw [flat_app]
    refine odd_prefix hd ?_
    rw [List.takeWhile_append]
    split
    · rename_i e
      rw [h, List.append_nil, (List.takeWhile_prefix (l := flat ps) cont).eq_of_length e]
      exact List.prefix_rfl
    · exact List.prefix_rfl

/-- a string's bytes -/
def sl (s : ByteArray) : List UInt8 := s.data.toList
set_option maxRecDepth 100000 in
theorem sl_len (s : ByteArray) : (sl s).length = s.size := rfl
set_option maxRecDepth 100000 in
theorem sl_get (s : ByteArray) (i : Nat) : s.get! i = (sl s).getD i 0 := by
  unfold sl
  show s.data[i]! = _
  rw [List.getD_eq_getElem?_getD, Array.getElem?_toList, getElem!_def]
  cases s.data[i]? <;> rfl
set_option maxRecDepth 100000 in
theorem dec_at (s : ByteArray) (i : Nat) : Utf8.decode s i = dec ((sl s).drop i) := by
  rw [decode_at, dec]
  simp only [sl_get, List.length_drop, sl_len, List.getD_eq_getElem?_getD, List.getElem?_drop, Nat.add_zero]

/-- at the place behind the first pieces -/
theorem pieces_drop (l : List UInt8) (k : Nat) : pieces (l.drop (flat ((pieces l).take k)).length) = (pieces l).drop k := by
  induction k generalizing l with
  | zero => simp [flat_nil]
  | succ k ih =>
    by_cases h : l = []
    · subst h; simp [pieces_nil, flat_nil]
    · have hw := dec_w h
      rw [pieces_cons l h, List.take_succ_cons, flat_cons, List.drop_succ_cons, ← ih]
      congr 1
      rw [List.length_append, ← List.drop_drop]
      congr 2
      simp only [List.length_take]
      omega
set_option maxRecDepth 100000 in
theorem piece_len {l : List UInt8} {k : Nat} {p : Nat × List UInt8} (h : (pieces l)[k]? = some p) : 1 ≤ p.2.length ∧ p.2.length ≤ 4 ∧ dec (l.drop (flat ((pieces l).take k)).length) = (p.1, p.2.length) ∧ (flat ((pieces l).take k)).length < l.length ∧
    (flat ((pieces l).take (k + 1))).length = (flat ((pieces l).take k)).length + p.2.length ∧ (flat ((pieces l).take (k + 1))).length ≤ l.length ∧ (l.drop (flat ((pieces l).take k)).length).take p.2.length = p.2 := by
  have hd := pieces_drop l k
  have hk : k < (pieces l).length := (List.getElem?_eq_some_iff.1 h).1
  have hk2 : (pieces l)[k] = p := (List.getElem?_eq_some_iff.1 h).2
  rw [List.drop_eq_getElem_cons hk, hk2] at hd
  have hne : l.drop (flat ((pieces l).take k)).length ≠ [] := fun e => by
    rw [e, pieces_nil] at hd; cases hd
  have hw := dec_w hne
  rw [pieces_cons _ hne] at hd
  injection hd with hd1 hd2
  have hp2 : p.2.length = (dec (l.drop (flat ((pieces l).take k)).length)).2 := by
    rw [← hd1]; simp only [List.length_take]; omega
  have hs : (flat ((pieces l).take (k + 1))).length = (flat ((pieces l).take k)).length + p.2.length := by
    rw [List.take_add_one, h, flat_app]; simp [flat]
  have hl : (l.drop (flat ((pieces l).take k)).length).length = l.length - (flat ((pieces l).take k)).length := List.length_drop
  refine ⟨by omega, by omega, ?_, by omega, hs, by omega, ?_⟩
  · rw [← hd1]; apply Prod.ext; rfl; simp only [List.length_take]; omega
  · rw [hp2, ← hd1]
set_option maxRecDepth 100000 in
theorem piece_end {l : List UInt8} {k : Nat} (h : k = (pieces l).length) : (flat ((pieces l).take k)).length = l.length := by
  subst h; rw [List.take_length, flat_pieces]
set_option maxRecDepth 100000 in
theorem pieces_le (l : List UInt8) : (pieces l).length ≤ l.length := by
  generalize hn : l.length = n
  induction n using Nat.strongRecOn generalizing l with
  | _ n ih =>
    by_cases h : l = []
    · subst h; simp [pieces_nil]
    · have hw := dec_w h
      have hl : 0 < l.length := List.length_pos_iff.2 h
      rw [pieces_cons l h, List.length_cons]
      have := ih _ (by rw [List.length_drop]; omega) (l.drop (dec l).2) rfl
      rw [List.length_drop] at this
      omega
end Go.Proofs.YtldnpebnpbahjaaGreatDoor.Pk.Na

namespace Go.Proofs.YtldnpebnpbahjaaGreatDoor.Pk.Na
open Go Go.RowKit

/-- where the piece number k begins -/
def posn (s : ByteArray) (k : Nat) : Nat := (flat ((pieces (sl s)).take k)).length
/-- how many runes -/
def rn (s : ByteArray) : Nat := (pieces (sl s)).length
set_option maxRecDepth 100000 in
theorem rn_le (s : ByteArray) : rn s ≤ s.size := by rw [← sl_len]; exact pieces_le _
set_option maxRecDepth 100000 in
theorem posn_zero (s : ByteArray) : posn s 0 = 0 := rfl
set_option maxRecDepth 100000 in
theorem posn_end (s : ByteArray) : posn s (rn s) = s.size := by rw [← sl_len]; exact piece_end rfl

structure It (w : World) (kb : Nat) (s : ByteArray) (k : Nat) : Prop where
  at_ : w.heap[kb]? = some (.stringIter s (posn s k))
  le : k ≤ rn s

set_option maxRecDepth 100000 in
theorem It.new (w : World) (s : ByteArray) : It (w.iter s 0) w.heap.size s 0 := ⟨World.iter_heap w s 0, Nat.zero_le _⟩
set_option maxRecDepth 100000 in
theorem It.lt {w : World} {kb : Nat} {s : ByteArray} {k : Nat} (h : It w kb s k) : kb < w.heap.size := (Array.getElem?_eq_some_iff.1 h.at_).1
set_option maxRecDepth 100000 in
theorem It.pos {w : World} {kb : Nat} {s : ByteArray} {k : Nat} (h : It w kb s k) : w.iterPos kb = posn s k := by simp [World.iterPos, h.at_]
set_option maxRecDepth 100000 in
theorem It.step {w : World} {kb : Nat} {s : ByteArray} {k : Nat} (h : It w kb s k) {p : Nat × List UInt8} (hp : (pieces (sl s))[k]? = some p) (ty : TypeId) :
    (Instr.next (.pointer (some ⟨kb, 0, none⟩)) true ty).run Tryz.prog w = .ok (.tuple #[.bool true, .int .i64 (posn s k), .int .i32 p.1]) (w.iterAt kb s (posn s (k + 1))) := by
  obtain ⟨h1, h2, h3, h4, h5, h6, h7⟩ := piece_len hp
  rw [Lib.run_next_any_at w kb s (posn s k) ty h.at_ (by rw [← sl_len]; exact h4), dec_at]
  unfold posn
  rw [h3, h5]
set_option maxRecDepth 100000 in
theorem It.stop {w : World} {kb : Nat} {s : ByteArray} {k : Nat} (h : It w kb s k) (hk : k = rn s) (ty : TypeId) :
    (Instr.next (.pointer (some ⟨kb, 0, none⟩)) true ty).run Tryz.prog w = .ok (.tuple #[.bool false]) w := by
  subst hk
  exact Lib.run_next_end_at w kb s _ ty h.at_ (by rw [posn_end]; omega)
set_option maxRecDepth 100000 in
theorem It.next {w : World} {kb : Nat} {s : ByteArray} {k : Nat} (h : It w kb s k) (hk : k < rn s) : It (w.iterAt kb s (posn s (k + 1))) kb s (k + 1) :=
  ⟨Lib.iterAt_heap w kb s _ _ h.at_, hk⟩
set_option maxRecDepth 100000 in
theorem It.kept {w w' : World} {kb : Nat} {s : ByteArray} {k : Nat} (h : It w kb s k) (hg : w.grownBy w' none) : It w' kb s k :=
  ⟨by rw [hg.block kb h.lt (by simp)]; exact h.at_, h.le⟩
set_option maxRecDepth 100000 in
theorem It.fr {S : Nat → Prop} {w w' : World} {kb : Nat} {s : ByteArray} {k : Nat} (h : It w kb s k) (hg : Fr S w w') (hs : ¬ S kb) : It w' kb s k :=
  ⟨by rw [hg.block kb h.lt hs]; exact h.at_, h.le⟩
set_option maxRecDepth 100000 in
theorem posn_step {s : ByteArray} {k : Nat} {p : Nat × List UInt8} (hp : (pieces (sl s))[k]? = some p) : posn s (k + 1) = posn s k + p.2.length ∧ 1 ≤ p.2.length ∧ p.2.length ≤ 4 ∧ posn s (k + 1) ≤ s.size := by
  obtain ⟨h1, h2, h3, h4, h5, h6, h7⟩ := piece_len hp
  exact ⟨h5, h1, h2, by rw [← sl_len]; exact h6⟩
set_option maxRecDepth 100000 in
theorem It.has {w : World} {kb : Nat} {s : ByteArray} {k : Nat} (h : It w kb s k) (hk : k ≠ rn s) : ∃ p, (pieces (sl s))[k]? = some p :=
  ⟨_, List.getElem?_eq_getElem (show k < (pieces (sl s)).length by have := h.le; unfold rn at this hk; omega)⟩
set_option maxRecDepth 100000 in
theorem gr_iterAt (w : World) (kb : Nat) (s : ByteArray) (p : Nat) : w.grownBy (w.iterAt kb s p) (some kb) :=
  ⟨rfl, rfl, rfl, by rw [Lib.iterAt_size]; exact Nat.le_refl _, fun i _ hi => Lib.iterAt_other w kb i s p (fun e => hi (by rw [e]))⟩
set_option maxRecDepth 100000 in
theorem gr_iter (w : World) (s : ByteArray) (p : Nat) : w.grownBy (w.iter s p) none := World.grownBy_alloc w _ none

set_option maxRecDepth 100000 in
theorem It.move {w : World} {kb : Nat} {s : ByteArray} {k : Nat} (h : It w kb s k) (hk : k ≠ rn s) : ∃ p w2, Keep ((pieces (sl s))[k]? = some p) ∧
    (∀ ty, (Instr.next (.pointer (some ⟨kb, 0, none⟩)) true ty).run Tryz.prog w = .ok (.tuple #[.bool true, .int .i64 (posn s k), .int .i32 p.1]) w2) ∧
    It w2 kb s (k + 1) ∧ w.grownBy w2 (some kb) ∧ Keep (s.size - w2.iterPos kb < s.size - w.iterPos kb) := by
  obtain ⟨p, hp⟩ := h.has hk
  have hst := posn_step hp
  have hN := h.next (show k < rn s by have := h.le; omega)
  refine ⟨p, _, ⟨hp⟩, h.step hp, hN, gr_iterAt w kb s _, ⟨?_⟩⟩
  rw [hN.pos, h.pos]
  omega

set_option maxRecDepth 100000 in
set_option maxHeartbeats 2000000 in
theorem runes_c (s : ByteArray) (w : World) (hs : s.size ≤ 4611686018427387904) :
    Calls Tryz.prog 101 #[.string s] w fun e w' => e = .returned (iv (rn s)) ∧ w.grownBy w' none := by
  have hr := rn_le s
  go_enter Tryz.func101, Tryz.ntmps101
  go_wp2
  go_loopw [3] (fun n w' => ∃ k : Nat, n = .int .i64 k ∧ It w' w.heap.size s k ∧ w.grownBy w' none) (fun _ w' => s.size - w'.iterPos w.heap.size)
  case atStart => exact ⟨0, rfl, It.new w s, gr_iter w s 0⟩
  case round =>
    obtain ⟨k, rfl, hI, hg⟩ := hrel
    by_cases hk : k = rn s
    · have hnx := hI.stop hk
      clear hI
      subst hk
      go_wp2
      go_ret
      exact ⟨rfl, hg⟩
    · obtain ⟨p, w2, hp, hnx, hN, hG2, hm⟩ := hI.move hk
      have hle := hI.le
      have hG := gr_new hg hG2 (Nat.le_refl _)
      clear hI hp hG2
      go_wp2
      go_roundw
      case rel => exact ⟨k + 1, by simp, hN, hG⟩
      case measure => exact hm.out

/-- so many runes are cut off -/
def cutk (s : ByteArray) (n : Int) : Nat := min n.toNat (rn s)
end Go.Proofs.YtldnpebnpbahjaaGreatDoor.Pk.Na

namespace Go.Proofs.YtldnpebnpbahjaaGreatDoor.Pk.Na
open Go Go.RowKit

abbrev rv (x : Int) : Value := .int .i32 x
/-- the program's table -/
def spn : List (Int × Int × Int) := [(45, 45, 0), (48, 57, 0), (65, 90, 32), (95, 95, 0), (97, 122, 0), (192, 214, 32), (216, 222, 32), (223, 246, 0), (248, 255, 0), (945, 969, 0)]
def spc : List Value := [rv 45, rv 45, rv 0, rv 48, rv 57, rv 0, rv 65, rv 90, rv 32, rv 95, rv 95, rv 0, rv 97, rv 122, rv 0, rv 192, rv 214, rv 32, rv 216, rv 222, rv 32, rv 223, rv 246, rv 0, rv 248, rv 255, rv 0, rv 945, rv 969, rv 0]
def fnd (r : Int) : Option (Int × Int × Int) := spn.find? fun p => decide (p.1 ≤ r ∧ r ≤ p.2.1)
/-- what find tells -/
def fndV : Option (Int × Int × Int) → Value
  | some (a, b, c) => .tuple #[.agg #[rv a, rv b, rv c], .bool true]
  | none => .tuple #[.agg #[rv 0, rv 0, rv 0], .bool false]
/-- the variable holds the table -/
def Kc (w : World) : Prop := w.rangeAt 0 0 spc
set_option maxRecDepth 100000 in
theorem Kc.kept {w w' : World} (h : Kc w) (hg : w.grownBy w' none) : Kc w' := by
  intro j v hv
  have := h j v hv
  exact hg.cell this (by simp)

set_option maxRecDepth 100000 in
theorem underSp : Tryz.prog.underlying 210 = some (.array 10 149) := by kernel_rfl
set_option maxRecDepth 100000 in
theorem infoSp : (Tryz.prog.info? 210).map (·.size) = some spc.length := by kernel_rfl
/-- the spans from k on -/
def fndK (k : Nat) (r : Int) : Option (Int × Int × Int) := (spn.drop k).find? fun p => decide (p.1 ≤ r ∧ r ≤ p.2.1)

set_option maxRecDepth 100000 in
set_option maxHeartbeats 4000000 in
theorem idxSp (k : Nat) (hk : k < 10) (W : World) : (Instr.index 210 (.agg spc.toArray) (.int .i64 k)).run Tryz.prog W = .ok (.agg #[rv (spn.getD k (0, 0, 0)).1, rv (spn.getD k (0, 0, 0)).2.1, rv (spn.getD k (0, 0, 0)).2.2]) W := by
  rcases (by omega : k = 0 ∨ k = 1 ∨ k = 2 ∨ k = 3 ∨ k = 4 ∨ k = 5 ∨ k = 6 ∨ k = 7 ∨ k = 8 ∨ k = 9) with rfl | rfl | rfl | rfl | rfl | rfl | rfl | rfl | rfl | rfl
  all_goals kernel_rfl
set_option maxRecDepth 100000 in
theorem fndK_step {k : Nat} (hk : k < 10) (r : Int) : fndK k r = if (spn.getD k (0, 0, 0)).1 ≤ r ∧ r ≤ (spn.getD k (0, 0, 0)).2.1 then some (spn.getD k (0, 0, 0)) else fndK (k + 1) r := by
  have hl : k < spn.length := hk
  unfold fndK
  rw [List.drop_eq_getElem_cons hl, List.find?_cons, List.getD_eq_getElem?_getD, List.getElem?_eq_getElem hl]
  simp only [Option.getD_some]
  split
  · rename_i h; rw [if_pos (of_decide_eq_true h)]
  · rename_i h; rw [if_neg (of_decide_eq_false h)]
set_option maxRecDepth 100000 in
theorem fndK_end (r : Int) : fndK 10 r = none := rfl

set_option pp.deepTerms false in
set_option maxRecDepth 100000 in
set_option maxHeartbeats 4000000 in
theorem find_c (r : Int) (w : World) (hk : Kc w) :
    Calls Tryz.prog 102 #[rv r] w fun e w' => e = .returned (fndV (fnd r)) ∧ w.grownBy w' none := by
  go_enter Tryz.func102, Tryz.ntmps102
  have H1 : Keep (Kc (w.alloc (Obj.cells #[Value.int IntKind.i32 0, Value.int IntKind.i32 0, Value.int IntKind.i32 0] 149))) := ⟨hk.kept (World.grownBy_alloc _ _ _)⟩
  obtain ⟨V, hV⟩ : ∃ V, Value.agg spc.toArray = V := ⟨_, rfl⟩
  go_wp2_with (refine wpList_load_mid rfl 210 _ rfl _ _ rfl _ _ H1.out underSp rfl infoSp ?_; rw [hV])
  have HV : Keep (Value.agg spc.toArray = V) := ⟨hV⟩
  clear hV
  go_loopw [7] (fun i w' => ∃ k : Nat, i = .int .i64 k ∧ k ≤ 10 ∧ Keep (fnd r = fndK k r) ∧ Has w' w.heap.size [rv 0, rv 0, rv 0] 149 ∧ w.grownBy w' none) (fun i _ => (10 - intOf i).toNat)
  case atStart => exact ⟨0, rfl, by omega, ⟨rfl⟩, Has.newA _ _ _, World.grownBy_alloc _ _ _⟩
  case round =>
    obtain ⟨k, rfl, hk10, HF, hH, hg⟩ := hrel
    by_cases hk2 : k = 10
    · subst hk2
      have f0 := hH.frozen 0
      have f1 := hH.frozen 1
      have f2 := hH.frozen 2
      have c0 := hH.cellv 0 _ rfl
      have c1 := hH.cellv 1 _ rfl
      have c2 := hH.cellv 2 _ rfl
      go_wp2_with fail
      refine bodyPost_ret (v := fndV (fnd r)) ?_ rfl ⟨rfl, ?_⟩
      · rw [results_cell_tmp rfl, HF.out, fndK_end]
        go_simp
        rfl
      · exact gr_new (gr_new (gr_new hg (gr_set _ _ _ _) (Nat.le_refl _)) (gr_set _ _ _ _) (Nat.le_refl _)) (gr_set _ _ _ _) (Nat.le_refl _)
    · have hix : ∀ W, (Instr.index 210 V (.int .i64 k)).run Tryz.prog W = .ok (.agg #[rv (spn.getD k (0, 0, 0)).1, rv (spn.getD k (0, 0, 0)).2.1, rv (spn.getD k (0, 0, 0)).2.2]) W := fun W => by rw [← HV.out]; exact idxSp k (by omega) W
      have HS : Keep (fndK k r = if (spn.getD k (0, 0, 0)).1 ≤ r ∧ r ≤ (spn.getD k (0, 0, 0)).2.1 then some (spn.getD k (0, 0, 0)) else fndK (k + 1) r) := ⟨fndK_step (by omega) r⟩
      obtain ⟨⟨A, B, C⟩, hT⟩ : ∃ T, spn.getD k (0, 0, 0) = T := ⟨_, rfl⟩
      rw [hT] at hix HS
      simp only at hix HS
      clear hT
      have hHa := hH.alloc (Obj.cells #[Value.int IntKind.i32 A, Value.int IntKind.i32 B, Value.int IntKind.i32 C] 149)
      have hga : w.grownBy (wr.alloc (Obj.cells #[Value.int IntKind.i32 A, Value.int IntKind.i32 B, Value.int IntKind.i32 C] 149)) none := hg.trans (World.grownBy_alloc _ _ _)
      by_cases hA : A ≤ r
      · by_cases hB : r ≤ B
        · have f0 := hHa.frozen 0
          have f1 := hHa.frozen 1
          have f2 := hHa.frozen 2
          have c0 := hHa.cellv 0 _ rfl
          have c1 := hHa.cellv 1 _ rfl
          have c2 := hHa.cellv 2 _ rfl
          go_wp2_with fail
          refine bodyPost_ret (v := fndV (fnd r)) ?_ rfl ⟨rfl, ?_⟩
          · rw [results_cell_tmp rfl, HF.out, HS.out, if_pos ⟨hA, hB⟩]
            go_simp
            rfl
          · exact gr_new (gr_new (gr_new hga (gr_set _ _ _ _) (Nat.le_refl _)) (gr_set _ _ _ _) (Nat.le_refl _)) (gr_set _ _ _ _) (Nat.le_refl _)
        · go_wp2_with fail
          go_roundw
          case rel => exact ⟨k + 1, by simp, by omega, ⟨by rw [HF.out, HS.out, if_neg (by omega)]⟩, hHa, hga⟩
          case measure => simp [intOf]; omega
      · go_wp2_with fail
        go_roundw
        case rel => exact ⟨k + 1, by simp, by omega, ⟨by rw [HF.out, HS.out, if_neg (by omega)]⟩, hHa, hga⟩
        case measure => simp [intOf]; omega
end Go.Proofs.YtldnpebnpbahjaaGreatDoor.Pk.Na

namespace Go.Proofs.YtldnpebnpbahjaaGreatDoor.Pk.Na
open Go Go.RowKit

/-- a string of these bytes -/
def mk (l : List UInt8) : ByteArray := ⟨l.toArray⟩
set_option maxRecDepth 100000 in
theorem sl_mk (l : List UInt8) : sl (mk l) = l := by simp [sl, mk]
set_option maxRecDepth 100000 in
theorem mk_sl (s : ByteArray) : mk (sl s) = s := by apply ByteArray.ext; simp [sl, mk]
set_option maxRecDepth 100000 in
theorem sl_inj {a b : ByteArray} (h : sl a = sl b) : a = b := by rw [← mk_sl a, h, mk_sl]
set_option maxRecDepth 100000 in
theorem sl_app (a b : ByteArray) : sl (a ++ b) = sl a ++ sl b := by simp [sl]
set_option maxRecDepth 100000 in
theorem sl_ext (s : ByteArray) (a b : Nat) : sl (s.extract a b) = ((sl s).take b).drop a := by
  simp [sl, ByteArray.data_extract, List.extract_eq_take_drop, List.drop_take]
set_option maxRecDepth 100000 in
theorem mk_size (l : List UInt8) : (mk l).size = l.length := by simp [mk, ByteArray.size]

set_option maxRecDepth 100000 in
theorem gr_below {w w' : World} (h : Below w.heap.size w w') : w.grownBy w' none := ⟨h.os, h.tape, h.output, h.size, fun k hk _ => h.block k hk⟩
set_option maxRecDepth 100000 in
theorem clone_c (s : ByteArray) (w : World) (hs : s.size ≤ 281474976710656) :
    Calls Tryz.prog 51 #[.string s] w fun e w' => e = .returned (.string s) ∧ w.grownBy w' none := by
  go_enter Tryz.func51, Tryz.ntmps51
  go_wp2_with fail
  refine (Tryz.stringslite_Clone s _ hs).mono ?_
  rintro e w1 ⟨rfl, hB⟩
  have HG : Keep (w.grownBy w1 none) := ⟨gr_below hB⟩
  clear hB
  go_wp2_with fail
  go_ret
  exact ⟨rfl, HG.out⟩

/-- may it be a name? -/
def chkOK (s : ByteArray) : Bool := decide (s.size ≠ 0) && decide (s.size ≤ 24) && decide (rn s ≤ 12) && (pieces (sl s)).all fun p => (fnd p.1).isSome
def chk (s : ByteArray) : Int := if chkOK s then 0 else 60
set_option maxRecDepth 100000 in
theorem chk_no {s : ByteArray} (h : ¬ chkOK s = true) : chk s = 60 := if_neg h
set_option maxRecDepth 100000 in
theorem fndV_some {r : Int} (h : (fnd r).isSome = true) : ∃ A B C, fndV (fnd r) = .tuple #[.agg #[rv A, rv B, rv C], .bool true] := by
  match hf : fnd r with
  | some (a, b, c) => exact ⟨a, b, c, rfl⟩
  | none => rw [hf] at h; cases h
set_option maxRecDepth 100000 in
theorem fndV_none {r : Int} (h : (fnd r).isSome = false) : fndV (fnd r) = .tuple #[.agg #[rv 0, rv 0, rv 0], .bool false] := by
  match hf : fnd r with
  | some (a, b, c) => rw [hf] at h; cases h
  | none => rfl
set_option maxRecDepth 100000 in
theorem isEmptyL {s : ByteArray} (h : s.size ≠ 0) : s.toList.isEmpty = false := by
  rw [ByteArray.toList_eq]
  cases hl : s.data.toList with
  | nil => exact absurd (by rw [← sl_len, sl, hl]; rfl) h
  | cons a b => rfl

set_option maxRecDepth 100000 in
set_option maxHeartbeats 4000000 in
theorem check_c (s : ByteArray) (w : World) (hs : s.size ≤ 281474976710656) (hk : Kc w) :
    Calls Tryz.prog 50 #[.string s] w fun e w' => e = .returned (iv (chk s)) ∧ w.grownBy w' none := by
  go_enter Tryz.func50, Tryz.ntmps50
  by_cases h0 : s.size = 0
  · obtain rfl : s = ⟨#[]⟩ := by
      apply sl_inj
      exact List.eq_nil_of_length_eq_zero h0
    have HC : Keep (chk ⟨#[]⟩ = 60) := ⟨by simp [chk, chkOK, ByteArray.size]⟩
    go_wp2_with fail
    go_ret
    rw [HC.out]
    exact ⟨rfl, World.grownBy.refl _ _⟩
  have hE := isEmptyL h0
  by_cases h24 : 24 < s.size
  · have HC : Keep (chk s = 60) := ⟨chk_no (by simp [chkOK]; intro _ h; omega)⟩
    go_wp2_with fail
    go_ret
    rw [HC.out]
    exact ⟨rfl, World.grownBy.refl _ _⟩
  go_wp2_with fail
  refine (runes_c s _ (by omega)).mono ?_
  rintro e w1 ⟨rfl, hG⟩
  have HG : Keep (w.grownBy w1 none) := ⟨hG⟩
  have HK1 : Keep (Kc w1) := ⟨hk.kept hG⟩
  clear hG hk
  have hrs := rn_le s
  by_cases h12 : 12 < rn s
  · have HC : Keep (chk s = 60) := ⟨chk_no (by simp [chkOK]; intro _ _ h; omega)⟩
    go_wp2_with fail
    go_ret
    rw [HC.out]
    exact ⟨rfl, HG.out⟩
  go_wp2_with fail
  go_loopw [] (fun w' => ∃ k : Nat, It w' w1.heap.size s k ∧ w1.grownBy w' none ∧ Keep (∀ p ∈ (pieces (sl s)).take k, (fnd p.1).isSome = true)) (fun w' => s.size - w'.iterPos w1.heap.size)
  case atStart => exact ⟨0, It.new w1 s, gr_iter w1 s 0, ⟨by simp⟩⟩
  case round =>
    obtain ⟨k, hI, hg, HA⟩ := hrel
    by_cases hk : k = rn s
    · have hnx := hI.stop hk
      have HC : Keep (chk s = 0) := ⟨by
        unfold chk
        rw [if_pos]
        have hA := HA.out
        rw [hk, rn, List.take_length] at hA
        simp only [chkOK, Bool.and_eq_true, decide_eq_true_eq, List.all_eq_true]
        exact ⟨⟨⟨by omega, by omega⟩, by omega⟩, hA⟩⟩
      have HG2 : Keep (w.grownBy wr none) := ⟨HG.out.trans hg⟩
      clear hI hg
      go_wp2_with fail
      go_ret
      rw [HC.out]
      exact ⟨rfl, HG2.out⟩
    · obtain ⟨p, w2, hp, hnx, hN, hG2, hm⟩ := hI.move hk
      have hG := gr_new hg hG2 (Nat.le_refl _)
      clear hI hG2 hg
      go_wp2_with fail
      refine (find_c p.1 w2 (HK1.out.kept hG)).mono ?_
      rintro e w3 ⟨rfl, hG3⟩
      have HG3 : Keep (w1.grownBy w3 none) := ⟨hG.trans hG3⟩
      have HI3 : Keep (It w3 w1.heap.size s (k + 1)) := ⟨hN.kept hG3⟩
      have hm3 : Keep (s.size - w3.iterPos w1.heap.size < s.size - wr.iterPos w1.heap.size) := ⟨by rw [HI3.out.pos, ← hN.pos]; exact hm.out⟩
      clear hG3 hN hG hnx hm
      by_cases hf : (fnd p.1).isSome = true
      · obtain ⟨A, B, C, hv⟩ := fndV_some hf
        rw [hv]
        have HA2 : Keep (∀ p ∈ (pieces (sl s)).take (k + 1), (fnd p.1).isSome = true) := ⟨by
          rw [List.take_add_one, hp.out]
          intro q hq
          rcases List.mem_append.1 hq with hq | hq
          · exact HA.out q hq
          · simp at hq; subst hq; exact hf⟩
        clear hf hv
        go_wp2_with fail
        go_roundw
        case rel => exact ⟨k + 1, HI3.out.kept (World.grownBy_alloc _ _ _), HG3.out.trans (World.grownBy_alloc _ _ _), HA2⟩
        case measure =>
          rw [(HI3.out.kept (World.grownBy_alloc _ _ _)).pos, ← HI3.out.pos]; exact hm3.out
      · have hf' : (fnd p.1).isSome = false := by simpa using hf
        rw [fndV_none hf']
        have HC : Keep (chk s = 60) := ⟨chk_no (by
          intro h
          simp only [chkOK, Bool.and_eq_true, List.all_eq_true] at h
          exact hf (h.2 p (List.mem_of_getElem? hp.out)))⟩
        have HG4 : Keep (w.grownBy w3 none) := ⟨HG.out.trans HG3.out⟩
        clear hf hf'
        go_wp2_with fail
        go_ret
        rw [HC.out]
        exact ⟨rfl, HG4.out.trans (World.grownBy_alloc _ _ _)⟩
end Go.Proofs.YtldnpebnpbahjaaGreatDoor.Pk.Na

