/- a text's runes, over lists of bytes. -/
import Derived.Lib.DecodeN
import Derived.KernelRfl
namespace Go.Proofs.YthhpbonacefmaaaDoor
open Go Go.Lib

/-- the rune that bytes begin with, and how many bytes it has -/
def dec (l : List UInt8) : Nat × Nat := decodeN l.length (l.getD 0 0).toNat (l.getD 1 0).toNat (l.getD 2 0).toNat (l.getD 3 0).toNat
/-- does a byte go on? -/
def cont (b : UInt8) : Bool := b.toNat / 64 == 2

theorem dec_cons (b : UInt8) (t : List UInt8) : dec (b :: t) = decodeN (t.length + 1) b.toNat (t.getD 0 0).toNat (t.getD 1 0).toNat (t.getD 2 0).toNat := rfl

/-- of what stands behind the first byte only the bytes that go on count, three at most -/
theorem dec_tw (b : UInt8) (t : List UInt8) : dec (b :: t.takeWhile cont) = dec (b :: t) := by
  rw [dec_cons, dec_cons]
  have h0 : (0 : UInt8).toNat = 0 := rfl
  match t with
  | [] => rfl
  | c :: t =>
    by_cases hc : cont c = true
    · rw [List.takeWhile_cons_of_pos hc]
      match t with
      | [] => rfl
      | d :: t =>
        by_cases hd : cont d = true
        · rw [List.takeWhile_cons_of_pos hd]
          match t with
          | [] => rfl
          | e :: t =>
            by_cases he : cont e = true
            · rw [List.takeWhile_cons_of_pos he]
              simp only [List.getD_cons_zero, List.getD_cons_succ, List.length_cons]
              simp [decodeN]
            · rw [List.takeWhile_cons_of_neg he]
              simp only [cont, beq_iff_eq] at hc hd he
              simp only [List.getD_cons_zero, List.getD_cons_succ, List.length_cons, List.getD_nil, h0]
              simp [decodeN, hc, hd, he]
        · rw [List.takeWhile_cons_of_neg hd]
          simp only [cont, beq_iff_eq] at hc hd
          simp only [List.getD_cons_zero, List.getD_cons_succ, List.length_cons, List.getD_nil, h0]
          simp [decodeN, hc, hd]
    · rw [List.takeWhile_cons_of_neg hc]
      simp only [cont, beq_iff_eq] at hc
      simp only [List.getD_cons_zero, List.getD_cons_succ, List.length_cons, List.getD_nil, h0]
      simp [decodeN, hc]
theorem dec_tw2 {b : UInt8} {t t' : List UInt8} (h : t.takeWhile cont = t'.takeWhile cont) : dec (b :: t) = dec (b :: t') := by
  rw [← dec_tw b t, h, dec_tw]

/-- how many bytes: at least one, at most all -/
theorem decodeN_w (n b0 b1 b2 b3 : Nat) (hn : 1 ≤ n) : 1 ≤ (decodeN n b0 b1 b2 b3).2 ∧ (decodeN n b0 b1 b2 b3).2 ≤ n ∧ (decodeN n b0 b1 b2 b3).2 ≤ 4 := by
  unfold decodeN
  repeat' split
  all_goals simp only
  all_goals omega
theorem dec_w {l : List UInt8} (h : l ≠ []) : 1 ≤ (dec l).2 ∧ (dec l).2 ≤ l.length ∧ (dec l).2 ≤ 4 := by
  apply decodeN_w
  cases l with
  | nil => exact absurd rfl h
  | cons b t => simp

theorem dec_ascii {b : UInt8} (h : b.toNat < 128) (t : List UInt8) : dec (b :: t) = (b.toNat, 1) := by
  rw [dec_cons, decodeN, if_pos h]

theorem dec_two {b c : UInt8} (h : b.toNat / 32 = 6) (hc : c.toNat / 64 = 2) (hv : 128 ≤ b.toNat % 32 * 64 + c.toNat % 64) (t : List UInt8) :
    dec (b :: c :: t) = (b.toNat % 32 * 64 + c.toNat % 64, 2) := by
  rw [dec_cons]
  simp only [List.getD_cons_zero, List.length_cons]
  rw [decodeN, if_neg (by omega), if_pos (by omega), if_pos (by omega)]
theorem dec_three {b c d : UInt8} (h : b.toNat / 16 = 14) (hc : c.toNat / 64 = 2) (hd : d.toNat / 64 = 2)
    (hv : b.toNat % 16 * 4096 + c.toNat % 64 * 64 + d.toNat % 64 ≥ 2048 ∧ (b.toNat % 16 * 4096 + c.toNat % 64 * 64 + d.toNat % 64 < 55296 ∨ (57344 ≤ b.toNat % 16 * 4096 + c.toNat % 64 * 64 + d.toNat % 64 ∧ b.toNat % 16 * 4096 + c.toNat % 64 * 64 + d.toNat % 64 ≤ 1114111))) (t : List UInt8) :
    dec (b :: c :: d :: t) = (b.toNat % 16 * 4096 + c.toNat % 64 * 64 + d.toNat % 64, 3) := by
  rw [dec_cons]
  simp only [List.getD_cons_zero, List.getD_cons_succ, List.length_cons]
  rw [decodeN, if_neg (by omega), if_neg (by omega), if_pos (by omega), if_pos hv]
theorem dec_four {b c d e : UInt8} (h : b.toNat / 8 = 30) (hc : c.toNat / 64 = 2) (hd : d.toNat / 64 = 2) (he : e.toNat / 64 = 2)
    (hv : b.toNat % 8 * 262144 + c.toNat % 64 * 4096 + d.toNat % 64 * 64 + e.toNat % 64 ≥ 65536 ∧ (b.toNat % 8 * 262144 + c.toNat % 64 * 4096 + d.toNat % 64 * 64 + e.toNat % 64 < 55296 ∨ (57344 ≤ b.toNat % 8 * 262144 + c.toNat % 64 * 4096 + d.toNat % 64 * 64 + e.toNat % 64 ∧ b.toNat % 8 * 262144 + c.toNat % 64 * 4096 + d.toNat % 64 * 64 + e.toNat % 64 ≤ 1114111))) (t : List UInt8) :
    dec (b :: c :: d :: e :: t) = (b.toNat % 8 * 262144 + c.toNat % 64 * 4096 + d.toNat % 64 * 64 + e.toNat % 64, 4) := by
  rw [dec_cons]
  simp only [List.getD_cons_zero, List.getD_cons_succ, List.length_cons]
  rw [decodeN, if_neg (by omega), if_neg (by omega), if_neg (by omega), if_pos (by omega), if_pos hv]

/-- a byte that begins none, or a whole rune: of one, two, three, four bytes -/
inductive Form : UInt8 → List UInt8 → Prop
  | one {b : UInt8} (h : b.toNat < 128) (t : List UInt8) : Form b t
  | two {b c : UInt8} (h : b.toNat / 32 = 6) (hc : c.toNat / 64 = 2) (hv : 128 ≤ b.toNat % 32 * 64 + c.toNat % 64) (t : List UInt8) : Form b (c :: t)
  | three {b c d : UInt8} (h : b.toNat / 16 = 14) (hc : c.toNat / 64 = 2) (hd : d.toNat / 64 = 2)
    (hv : b.toNat % 16 * 4096 + c.toNat % 64 * 64 + d.toNat % 64 ≥ 2048 ∧ (b.toNat % 16 * 4096 + c.toNat % 64 * 64 + d.toNat % 64 < 55296 ∨ (57344 ≤ b.toNat % 16 * 4096 + c.toNat % 64 * 64 + d.toNat % 64 ∧ b.toNat % 16 * 4096 + c.toNat % 64 * 64 + d.toNat % 64 ≤ 1114111))) (t : List UInt8) : Form b (c :: d :: t)
  | four {b c d e : UInt8} (h : b.toNat / 8 = 30) (hc : c.toNat / 64 = 2) (hd : d.toNat / 64 = 2) (he : e.toNat / 64 = 2)
    (hv : b.toNat % 8 * 262144 + c.toNat % 64 * 4096 + d.toNat % 64 * 64 + e.toNat % 64 ≥ 65536 ∧ (b.toNat % 8 * 262144 + c.toNat % 64 * 4096 + d.toNat % 64 * 64 + e.toNat % 64 < 55296 ∨ (57344 ≤ b.toNat % 8 * 262144 + c.toNat % 64 * 4096 + d.toNat % 64 * 64 + e.toNat % 64 ∧ b.toNat % 8 * 262144 + c.toNat % 64 * 4096 + d.toNat % 64 * 64 + e.toNat % 64 ≤ 1114111))) (t : List UInt8) : Form b (c :: d :: e :: t)
  | odd {b : UInt8} {t : List UInt8} (h : dec (b :: t) = (65533, 1)) (hb : 128 ≤ b.toNat) : Form b t

theorem form (b : UInt8) (t : List UInt8) : Form b t := by
  by_cases h1 : b.toNat < 128
  · exact .one h1 t
  by_cases hd : dec (b :: t) = (65533, 1)
  · exact .odd hd (by omega)
  have hx := hd
  rw [dec_cons] at hd
  match t with
  | [] => exact absurd (by simp [decodeN, h1]) hd
  | c :: t =>
    simp only [List.getD_cons_zero, List.getD_cons_succ, List.length_cons] at hd
    by_cases h2 : b.toNat / 32 = 6 ∧ c.toNat / 64 = 2 ∧ 128 ≤ b.toNat % 32 * 64 + c.toNat % 64
    · exact .two h2.1 h2.2.1 h2.2.2 t
    match t with
    | [] =>
      refine absurd ?_ hd
      rw [decodeN, if_neg h1]
      split
      · rw [if_neg (by omega)]
      · rw [if_neg (by simp), if_neg (by simp)]
    | d :: t =>
      simp only [List.getD_cons_zero, List.getD_cons_succ, List.length_cons] at hd
      by_cases h3 : b.toNat / 16 = 14 ∧ c.toNat / 64 = 2 ∧ d.toNat / 64 = 2 ∧ (b.toNat % 16 * 4096 + c.toNat % 64 * 64 + d.toNat % 64 ≥ 2048 ∧ (b.toNat % 16 * 4096 + c.toNat % 64 * 64 + d.toNat % 64 < 55296 ∨ (57344 ≤ b.toNat % 16 * 4096 + c.toNat % 64 * 64 + d.toNat % 64 ∧ b.toNat % 16 * 4096 + c.toNat % 64 * 64 + d.toNat % 64 ≤ 1114111)))
      · exact .three h3.1 h3.2.1 h3.2.2.1 h3.2.2.2 t
      match t with
      | [] =>
        refine absurd ?_ hd
        rw [decodeN, if_neg h1]
        split
        · rw [if_neg (by omega)]
        · split
          · rw [if_neg (by omega)]
          · rw [if_neg (by simp)]
      | e :: t =>
        simp only [List.getD_cons_zero, List.length_cons] at hd
        by_cases h4 : b.toNat / 8 = 30 ∧ c.toNat / 64 = 2 ∧ d.toNat / 64 = 2 ∧ e.toNat / 64 = 2 ∧ (b.toNat % 8 * 262144 + c.toNat % 64 * 4096 + d.toNat % 64 * 64 + e.toNat % 64 ≥ 65536 ∧ (b.toNat % 8 * 262144 + c.toNat % 64 * 4096 + d.toNat % 64 * 64 + e.toNat % 64 < 55296 ∨ (57344 ≤ b.toNat % 8 * 262144 + c.toNat % 64 * 4096 + d.toNat % 64 * 64 + e.toNat % 64 ∧ b.toNat % 8 * 262144 + c.toNat % 64 * 4096 + d.toNat % 64 * 64 + e.toNat % 64 ≤ 1114111)))
        · exact .four h4.1 h4.2.1 h4.2.2.1 h4.2.2.2.1 h4.2.2.2.2 t
        refine absurd ?_ hd
        rw [decodeN, if_neg h1]
        split
        · rw [if_neg (by omega)]
        · split
          · rw [if_neg (by omega)]
          · split
            · rw [if_neg (by omega)]
            · rfl

/-- a piece that is whole: whatever stands behind it -/
def Whole (p : Nat × List UInt8) : Prop := p.2 ≠ [] ∧ cont (p.2.getD 0 0) = false ∧ ∀ t, dec (p.2 ++ t) = (p.1, p.2.length)
/-- a byte that begins none -/
def Odd (p : Nat × List UInt8) : Prop := ∃ b : UInt8, p = (65533, [b]) ∧ 128 ≤ b.toNat

theorem form_whole {b : UInt8} {t : List UInt8} (h : Form b t) : (dec (b :: t) = (65533, 1) ∧ 128 ≤ b.toNat) ∨ Whole ((dec (b :: t)).1, (b :: t).take (dec (b :: t)).2) := by
  cases h with
  | one h t =>
    refine .inr ?_
    rw [dec_ascii h]
    exact ⟨by simp, by simp [cont]; omega, fun t' => by simp [dec_ascii h]⟩
  | two h hc hv t =>
    refine .inr ?_
    rw [dec_two h hc hv]
    exact ⟨by simp, by simp [cont]; omega, fun t' => by simp [dec_two h hc hv]⟩
  | three h hc hd hv t =>
    refine .inr ?_
    rw [dec_three h hc hd hv]
    exact ⟨by simp, by simp [cont]; omega, fun t' => by simp only [List.take_succ_cons, List.take_zero, List.cons_append, List.nil_append, dec_three h hc hd hv]; rfl⟩
  | four h hc hd he hv t =>
    refine .inr ?_
    rw [dec_four h hc hd he hv]
    exact ⟨by simp, by simp [cont]; omega, fun t' => by simp only [List.take_succ_cons, List.take_zero, List.cons_append, List.nil_append, dec_four h hc hd he hv]; rfl⟩
  | odd h hb => exact .inl ⟨h, hb⟩

theorem odd_prefix {b : UInt8} {t u : List UInt8} (h : dec (b :: t) = (65533, 1)) (hp : u.takeWhile cont <+: t.takeWhile cont) : dec (b :: u) = (65533, 1) := by
  obtain ⟨x, hx⟩ := hp
  rw [← dec_tw] at h ⊢
  rw [← hx] at h
  generalize u.takeWhile cont = v at h ⊢
  rcases form_whole (form b v) with ⟨h2, _⟩ | ⟨_, _, h2⟩
  · exact h2
  · have := h2 ((b :: v).drop (dec (b :: v)).2 ++ x)
    rw [← List.append_assoc, List.take_append_drop, List.cons_append, h] at this
    have hw := dec_w (l := b :: v) (by simp)
    have e1 := congrArg Prod.fst this
    have e2 := congrArg Prod.snd this
    simp only [List.length_take] at e1 e2
    rw [Nat.min_eq_left hw.2.1] at e2
    exact Prod.ext e1.symm e2.symm

/-- the runes of a text: each one's number, and its bytes -/
def pieces (l : List UInt8) : List (Nat × List UInt8) :=
  match l with
  | [] => []
  | b :: t => ((dec (b :: t)).1, (b :: t).take (dec (b :: t)).2) :: pieces (t.drop ((dec (b :: t)).2 - 1))
termination_by l.length
decreasing_by simp only [List.length_drop, List.length_cons]; omega

theorem pieces_nil : pieces [] = [] := by rw [pieces]
theorem pieces_cons (l : List UInt8) (h : l ≠ []) : pieces l = ((dec l).1, l.take (dec l).2) :: pieces (l.drop (dec l).2) := by
  match l, h with
  | b :: t, _ =>
    rw [pieces]
    have hw := (dec_w (l := b :: t) (by simp)).1
    congr 2
    obtain ⟨k, hk⟩ : ∃ k, (dec (b :: t)).2 = k + 1 := ⟨(dec (b :: t)).2 - 1, by omega⟩
    rw [hk]; simp

/-- what the pieces say, one behind the other -/
def flat (ps : List (Nat × List UInt8)) : List UInt8 := (ps.map Prod.snd).flatten
theorem flat_cons (p : Nat × List UInt8) (ps : List (Nat × List UInt8)) : flat (p :: ps) = p.2 ++ flat ps := by simp [flat]
theorem flat_nil : flat [] = [] := rfl
theorem flat_app (a b : List (Nat × List UInt8)) : flat (a ++ b) = flat a ++ flat b := by simp [flat]
theorem flat_pieces (l : List UInt8) : flat (pieces l) = l := by
  generalize hn : l.length = n
  induction n using Nat.strongRecOn generalizing l with
  | _ n ih =>
    by_cases h : l = []
    · subst h; rw [pieces_nil]; rfl
    · have hw := dec_w h
      have hl : 0 < l.length := List.length_pos_iff.2 h
      rw [pieces_cons l h, flat_cons, ih _ (by rw [List.length_drop]; omega) _ rfl, List.take_append_drop]

/-- pieces that are read just so -/
inductive Good : List (Nat × List UInt8) → Prop
  | nil : Good []
  | whole {p : Nat × List UInt8} {ps : List (Nat × List UInt8)} (h : Whole p) (g : Good ps) : Good (p :: ps)
  | odd {b : UInt8} {ps : List (Nat × List UInt8)} (hb : 128 ≤ b.toNat) (h : dec (b :: flat ps) = (65533, 1)) (g : Good ps) : Good ((65533, [b]) :: ps)

theorem good_pieces (l : List UInt8) : Good (pieces l) := by
  generalize hn : l.length = n
  induction n using Nat.strongRecOn generalizing l with
  | _ n ih =>
    match l with
    | [] => rw [pieces_nil]; exact .nil
    | b :: t =>
      have h : b :: t ≠ [] := by simp
      have hw := dec_w h
      have hl : 0 < (b :: t).length := List.length_pos_iff.2 h
      have hg := ih _ (by rw [List.length_drop]; omega) ((b :: t).drop (dec (b :: t)).2) rfl
      rw [pieces_cons _ h]
      rcases form_whole (form b t) with ⟨h2, hb⟩ | h2
      · rw [h2] at hg ⊢
        refine .odd hb ?_ hg
        rw [flat_pieces]
        exact h2
      · exact .whole h2 hg
theorem pieces_of_good {ps : List (Nat × List UInt8)} (g : Good ps) : pieces (flat ps) = ps := by
  induction g with
  | nil => rw [flat_nil, pieces_nil]
  | @whole p ps h g ih =>
    obtain ⟨h1, _, h2⟩ := h
    rw [flat_cons, pieces_cons _ (by simp [h1]), h2]
    simp [ih]
  | @odd b ps hb h g ih =>
    rw [flat_cons]
    show pieces (b :: flat ps) = _
    rw [pieces_cons _ (by simp), h]
    simp [ih]

theorem flat_prefix (ps : List (Nat × List UInt8)) (n : Nat) : flat (ps.take n) <+: flat ps := by
  refine ⟨flat (ps.drop n), ?_⟩
  rw [← flat_app, List.take_append_drop]
theorem tw_prefix {a b : List UInt8} (h : a <+: b) : a.takeWhile cont <+: b.takeWhile cont := by
  obtain ⟨c, rfl⟩ := h
  rw [List.takeWhile_append]
  split
  · rename_i h2
    rw [(List.takeWhile_prefix (l := a) cont).eq_of_length h2]
    exact ⟨_, rfl⟩
  · exact List.prefix_rfl
theorem good_take {ps : List (Nat × List UInt8)} (g : Good ps) : ∀ n, Good (ps.take n) := by
  induction g with
  | nil => intro n; simp; exact .nil
  | @whole p ps h g ih =>
    intro n
    cases n with
    | zero => exact .nil
    | succ n => exact .whole h (ih n)
  | @odd b ps hb h g ih =>
    intro n
    cases n with
    | zero => exact .nil
    | succ n => exact .odd hb (odd_prefix h (tw_prefix (flat_prefix ps n))) (ih n)
theorem pieces_take (l : List UInt8) (n : Nat) : pieces (flat ((pieces l).take n)) = (pieces l).take n := pieces_of_good (good_take (good_pieces l) n)

theorem whole_ascii {b : UInt8} (h : b.toNat < 128) : Whole (b.toNat, [b]) :=
  ⟨by simp, by simp [cont]; omega, fun t => by simp [dec_ascii h]⟩
theorem good_ascii : ∀ l : List UInt8, (∀ b ∈ l, b.toNat < 128) → Good (l.map fun b => (b.toNat, [b]))
  | [], _ => .nil
  | b :: l, h => .whole (whole_ascii (h b (by simp))) (good_ascii l fun c hc => h c (by simp [hc]))
theorem flat_ascii (l : List UInt8) : flat (l.map fun b => (b.toNat, [b])) = l := by
  induction l with
  | nil => rfl
  | cons b l ih => rw [List.map_cons, flat_cons, ih]; rfl
theorem pieces_ascii {l : List UInt8} (h : ∀ b ∈ l, b.toNat < 128) : pieces l = l.map fun b => (b.toNat, [b]) := by
  have := pieces_of_good (good_ascii l h)
  rwa [flat_ascii] at this
/-- pieces, and such behind them as begin with a byte that doesn't go on -/
theorem good_app {ps qs : List (Nat × List UInt8)} (g : Good ps) (g2 : Good qs) (h : (flat qs).takeWhile cont = []) : Good (ps ++ qs) := by
  induction g with
  | nil => exact g2
  | @whole p ps hw g ih => exact .whole hw ih
  | @odd b ps hb hd g ih =>
    refine .odd hb ?_ ih
    show dec (b :: flat (ps ++ qs)) = _
    rw [flat_app]
    refine odd_prefix hd ?_
    rw [List.takeWhile_append]
    split
    · rename_i e
      rw [h, List.append_nil, (List.takeWhile_prefix (l := flat ps) cont).eq_of_length e]
      exact List.prefix_rfl
    · exact List.prefix_rfl

/-- a string's bytes -/
def sl (s : ByteArray) : List UInt8 := s.data.toList
theorem sl_len (s : ByteArray) : (sl s).length = s.size := rfl
theorem sl_get (s : ByteArray) (i : Nat) : s.get! i = (sl s).getD i 0 := by
  unfold sl
  show s.data[i]! = _
  rw [List.getD_eq_getElem?_getD, Array.getElem?_toList, getElem!_def]
  cases s.data[i]? <;> rfl
theorem dec_at (s : ByteArray) (i : Nat) : Utf8.decode s i = dec ((sl s).drop i) := by
  rw [decode_at, dec]
  simp only [sl_get, List.length_drop, sl_len, List.getD_eq_getElem?_getD, List.getElem?_drop, Nat.add_zero]

/-- at the place behind the first pieces -/
theorem pieces_drop (l : List UInt8) (k : Nat) : pieces (l.drop (flat ((pieces l).take k)).length) = (pieces l).drop k := by
  induction k generalizing l with
  | zero => simp [flat_nil]
  | succ k ih =>
    by_cases h : l = []
    · subst h; simp [pieces_nil, flat_nil]
    · have hw := dec_w h
      rw [pieces_cons l h, List.take_succ_cons, flat_cons, List.drop_succ_cons, ← ih]
      congr 1
      rw [List.length_append, ← List.drop_drop]
      congr 2
      simp only [List.length_take]
      omega
theorem piece_len {l : List UInt8} {k : Nat} {p : Nat × List UInt8} (h : (pieces l)[k]? = some p) : 1 ≤ p.2.length ∧ p.2.length ≤ 4 ∧ dec (l.drop (flat ((pieces l).take k)).length) = (p.1, p.2.length) ∧ (flat ((pieces l).take k)).length < l.length ∧
    (flat ((pieces l).take (k + 1))).length = (flat ((pieces l).take k)).length + p.2.length ∧ (flat ((pieces l).take (k + 1))).length ≤ l.length ∧ (l.drop (flat ((pieces l).take k)).length).take p.2.length = p.2 := by
  have hd := pieces_drop l k
  have hk : k < (pieces l).length := (List.getElem?_eq_some_iff.1 h).1
  have hk2 : (pieces l)[k] = p := (List.getElem?_eq_some_iff.1 h).2
  rw [List.drop_eq_getElem_cons hk, hk2] at hd
  have hne : l.drop (flat ((pieces l).take k)).length ≠ [] := fun e => by
    rw [e, pieces_nil] at hd; cases hd
  have hw := dec_w hne
  rw [pieces_cons _ hne] at hd
  injection hd with hd1 hd2
  have hp2 : p.2.length = (dec (l.drop (flat ((pieces l).take k)).length)).2 := by
    rw [← hd1]; simp only [List.length_take]; omega
  have hs : (flat ((pieces l).take (k + 1))).length = (flat ((pieces l).take k)).length + p.2.length := by
    rw [List.take_add_one, h, flat_app]; simp [flat]
  have hl : (l.drop (flat ((pieces l).take k)).length).length = l.length - (flat ((pieces l).take k)).length := List.length_drop
  refine ⟨by omega, by omega, ?_, by omega, hs, by omega, ?_⟩
  · rw [← hd1]; apply Prod.ext; rfl; simp only [List.length_take]; omega
  · rw [hp2, ← hd1]
theorem piece_end {l : List UInt8} {k : Nat} (h : k = (pieces l).length) : (flat ((pieces l).take k)).length = l.length := by
  subst h; rw [List.take_length, flat_pieces]
theorem pieces_le (l : List UInt8) : (pieces l).length ≤ l.length := by
  generalize hn : l.length = n
  induction n using Nat.strongRecOn generalizing l with
  | _ n ih =>
    by_cases h : l = []
    · subst h; simp [pieces_nil]
    · have hw := dec_w h
      have hl : 0 < l.length := List.length_pos_iff.2 h
      rw [pieces_cons l h, List.length_cons]
      have := ih _ (by rw [List.length_drop]; omega) (l.drop (dec l).2) rfl
      rw [List.length_drop] at this
      omega
end Go.Proofs.YthhpbonacefmaaaDoor
