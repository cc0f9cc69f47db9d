import Derived.Lib.DecodeN
import Derived.KernelRfl
import Derived.Test.YtldnpebnpbahjaaGreatDoorX3
import Derived.Laws.RangeAny
import Derived.Laws.ShiftsVarLaws
import Derived.Lib.ConvBytes
import Derived.Maps.AppendAt
import Derived.Laws.EntriesVeiled
import Derived.Lib.OthersKept
import Derived.Laws.ResultCell
import Derived.Test.YtldnpebnpbahjaaGreatDoorShelf
import Derived.Deep.RegionHeld
import Derived.Deep.DeepCutAuto
import Derived.Laws.OwnMore
import Derived.Laws.DeepStrings4
set_option maxRecDepth 100000
set_option maxHeartbeats 8000000
namespace Go.Proofs.YtldnpebnpbahjaaGreatDoor.Pk.Na
open Go Go.Lib
def dec (l : List UInt8) : Nat × Nat := decodeN l.length (l.getD 0 0).toNat (l.getD 1 0).toNat (l.getD 2 0).toNat (l.getD 3 0).toNat
def cont (b : UInt8) : Bool := b.toNat / 64 == 2
theorem dec_cons (b : UInt8) (t : List UInt8) : dec (b :: t) = decodeN (t.length + 1) b.toNat (t.getD 0 0).toNat (t.getD 1 0).toNat (t.getD 2 0).toNat := rfl
theorem decodeN_w (n b0 b1 b2 b3 : Nat) (hn : 1 ≤ n) : 1 ≤ (decodeN n b0 b1 b2 b3).2 ∧ (decodeN n b0 b1 b2 b3).2 ≤ n ∧ (decodeN n b0 b1 b2 b3).2 ≤ 4 := by
  unfold decodeN
  repeat' split
  all_goals simp only
  all_goals omega
theorem dec_w {l : List UInt8} (h : l ≠ []) : 1 ≤ (dec l).2 ∧ (dec l).2 ≤ l.length ∧ (dec l).2 ≤ 4 := by
  apply decodeN_w; cases l with
  | nil => exact absurd rfl h
  | cons b t => simp
theorem dec_ascii {b : UInt8} (h : b.toNat < 128) (t : List UInt8) : dec (b :: t) = (b.toNat, 1) := by
  rw [dec_cons, decodeN, if_pos h]
theorem dec_two {b c : UInt8} (h : b.toNat / 32 = 6) (hc : c.toNat / 64 = 2) (hv : 128 ≤ b.toNat % 32 * 64 + c.toNat % 64) (t : List UInt8) :
    dec (b :: c :: t) = (b.toNat % 32 * 64 + c.toNat % 64, 2) := by
  rw [dec_cons]; simp only [List.getD_cons_zero, List.length_cons]; rw [decodeN, if_neg (by omega), if_pos (by omega), if_pos (by omega)]
theorem dec_three {b c d : UInt8} (h : b.toNat / 16 = 14) (hc : c.toNat / 64 = 2) (hd : d.toNat / 64 = 2)
    (hv : b.toNat % 16 * 4096 + c.toNat % 64 * 64 + d.toNat % 64 ≥ 2048 ∧ (b.toNat % 16 * 4096 + c.toNat % 64 * 64 + d.toNat % 64 < 55296 ∨ (57344 ≤ b.toNat % 16 * 4096 + c.toNat % 64 * 64 + d.toNat % 64 ∧ b.toNat % 16 * 4096 + c.toNat % 64 * 64 + d.toNat % 64 ≤ 1114111))) (t : List UInt8) :
    dec (b :: c :: d :: t) = (b.toNat % 16 * 4096 + c.toNat % 64 * 64 + d.toNat % 64, 3) := by
  rw [dec_cons]; simp only [List.getD_cons_zero, List.getD_cons_succ, List.length_cons]; rw [decodeN, if_neg (by omega), if_neg (by omega), if_pos (by omega), if_pos hv]
theorem dec_four {b c d e : UInt8} (h : b.toNat / 8 = 30) (hc : c.toNat / 64 = 2) (hd : d.toNat / 64 = 2) (he : e.toNat / 64 = 2)
    (hv : b.toNat % 8 * 262144 + c.toNat % 64 * 4096 + d.toNat % 64 * 64 + e.toNat % 64 ≥ 65536 ∧ (b.toNat % 8 * 262144 + c.toNat % 64 * 4096 + d.toNat % 64 * 64 + e.toNat % 64 < 55296 ∨ (57344 ≤ b.toNat % 8 * 262144 + c.toNat % 64 * 4096 + d.toNat % 64 * 64 + e.toNat % 64 ∧ b.toNat % 8 * 262144 + c.toNat % 64 * 4096 + d.toNat % 64 * 64 + e.toNat % 64 ≤ 1114111))) (t : List UInt8) :
    dec (b :: c :: d :: e :: t) = (b.toNat % 8 * 262144 + c.toNat % 64 * 4096 + d.toNat % 64 * 64 + e.toNat % 64, 4) := by
  rw [dec_cons]; simp only [List.getD_cons_zero, List.getD_cons_succ, List.length_cons]; rw [decodeN, if_neg (by omega), if_neg (by omega), if_neg (by omega), if_pos (by omega), if_pos hv]
inductive Form : UInt8 → List UInt8 → Prop
  | one {b : UInt8} (h : b.toNat < 128) (t : List UInt8) : Form b t
  | two {b c : UInt8} (h : b.toNat / 32 = 6) (hc : c.toNat / 64 = 2) (hv : 128 ≤ b.toNat % 32 * 64 + c.toNat % 64) (t : List UInt8) : Form b (c :: t)
  | three {b c d : UInt8} (h : b.toNat / 16 = 14) (hc : c.toNat / 64 = 2) (hd : d.toNat / 64 = 2)
    (hv : b.toNat % 16 * 4096 + c.toNat % 64 * 64 + d.toNat % 64 ≥ 2048 ∧ (b.toNat % 16 * 4096 + c.toNat % 64 * 64 + d.toNat % 64 < 55296 ∨ (57344 ≤ b.toNat % 16 * 4096 + c.toNat % 64 * 64 + d.toNat % 64 ∧ b.toNat % 16 * 4096 + c.toNat % 64 * 64 + d.toNat % 64 ≤ 1114111))) (t : List UInt8) : Form b (c :: d :: t)
  | four {b c d e : UInt8} (h : b.toNat / 8 = 30) (hc : c.toNat / 64 = 2) (hd : d.toNat / 64 = 2) (he : e.toNat / 64 = 2)
    (hv : b.toNat % 8 * 262144 + c.toNat % 64 * 4096 + d.toNat % 64 * 64 + e.toNat % 64 ≥ 65536 ∧ (b.toNat % 8 * 262144 + c.toNat % 64 * 4096 + d.toNat % 64 * 64 + e.toNat % 64 < 55296 ∨ (57344 ≤ b.toNat % 8 * 262144 + c.toNat % 64 * 4096 + d.toNat % 64 * 64 + e.toNat % 64 ∧ b.toNat % 8 * 262144 + c.toNat % 64 * 4096 + d.toNat % 64 * 64 + e.toNat % 64 ≤ 1114111))) (t : List UInt8) : Form b (c :: d :: e :: t)
  | odd {b : UInt8} {t : List UInt8} (h : dec (b :: t) = (65533, 1)) (hb : 128 ≤ b.toNat) : Form b t
theorem form (b : UInt8) (t : List UInt8) : Form b t := by
  by_cases h1 : b.toNat < 128
  · exact .one h1 t
  by_cases hd : dec (b :: t) = (65533, 1)
  · exact .odd hd (by omega)
  have hx := hd; rw [dec_cons] at hd
  match t with
  | [] => exact absurd (by simp [decodeN, h1]) hd
  | c :: t =>
    simp only [List.getD_cons_zero, List.getD_cons_succ, List.length_cons] at hd; by_cases h2 : b.toNat / 32 = 6 ∧ c.toNat / 64 = 2 ∧ 128 ≤ b.toNat % 32 * 64 + c.toNat % 64
    · exact .two h2.1 h2.2.1 h2.2.2 t
    match t with
    | [] =>
      refine absurd ?_ hd; rw [decodeN, if_neg h1]; split
      · rw [if_neg (by omega)]
      · rw [if_neg (by simp), if_neg (by simp)]
    | d :: t =>
      simp only [List.getD_cons_zero, List.getD_cons_succ, List.length_cons] at hd; by_cases h3 : b.toNat / 16 = 14 ∧ c.toNat / 64 = 2 ∧ d.toNat / 64 = 2 ∧ (b.toNat % 16 * 4096 + c.toNat % 64 * 64 + d.toNat % 64 ≥ 2048 ∧ (b.toNat % 16 * 4096 + c.toNat % 64 * 64 + d.toNat % 64 < 55296 ∨ (57344 ≤ b.toNat % 16 * 4096 + c.toNat % 64 * 64 + d.toNat % 64 ∧ b.toNat % 16 * 4096 + c.toNat % 64 * 64 + d.toNat % 64 ≤ 1114111)))
      · exact .three h3.1 h3.2.1 h3.2.2.1 h3.2.2.2 t
      match t with
      | [] =>
        refine absurd ?_ hd; rw [decodeN, if_neg h1]; split
        · rw [if_neg (by omega)]
        · split
          · rw [if_neg (by omega)]
          · rw [if_neg (by simp)]
      | e :: t =>
        simp only [List.getD_cons_zero, List.length_cons] at hd; by_cases h4 : b.toNat / 8 = 30 ∧ c.toNat / 64 = 2 ∧ d.toNat / 64 = 2 ∧ e.toNat / 64 = 2 ∧ (b.toNat % 8 * 262144 + c.toNat % 64 * 4096 + d.toNat % 64 * 64 + e.toNat % 64 ≥ 65536 ∧ (b.toNat % 8 * 262144 + c.toNat % 64 * 4096 + d.toNat % 64 * 64 + e.toNat % 64 < 55296 ∨ (57344 ≤ b.toNat % 8 * 262144 + c.toNat % 64 * 4096 + d.toNat % 64 * 64 + e.toNat % 64 ∧ b.toNat % 8 * 262144 + c.toNat % 64 * 4096 + d.toNat % 64 * 64 + e.toNat % 64 ≤ 1114111)))
        · exact .four h4.1 h4.2.1 h4.2.2.1 h4.2.2.2.1 h4.2.2.2.2 t
        refine absurd ?_ hd; rw [decodeN, if_neg h1]; split
        · rw [if_neg (by omega)]
        · split
          · rw [if_neg (by omega)]
          · split
            · rw [if_neg (by omega)]
            · rfl
def Whole (p : Nat × List UInt8) : Prop := p.2 ≠ [] ∧ cont (p.2.getD 0 0) = false ∧ ∀ t, dec (p.2 ++ t) = (p.1, p.2.length)
theorem form_whole {b : UInt8} {t : List UInt8} (h : Form b t) : (dec (b :: t) = (65533, 1) ∧ 128 ≤ b.toNat) ∨ Whole ((dec (b :: t)).1, (b :: t).take (dec (b :: t)).2) := by
  cases h with
  | one h t =>
    refine .inr ?_; rw [dec_ascii h]; exact ⟨by simp, by simp [cont]; omega, fun t' => by simp [dec_ascii h]⟩
  | two h hc hv t =>
    refine .inr ?_; rw [dec_two h hc hv]; exact ⟨by simp, by simp [cont]; omega, fun t' => by simp [dec_two h hc hv]⟩
  | three h hc hd hv t =>
    refine .inr ?_; rw [dec_three h hc hd hv]; exact ⟨by simp, by simp [cont]; omega, fun t' => by simp only [List.take_succ_cons, List.take_zero, List.cons_append, List.nil_append, dec_three h hc hd hv]; rfl⟩
  | four h hc hd he hv t =>
    refine .inr ?_; rw [dec_four h hc hd he hv]; exact ⟨by simp, by simp [cont]; omega, fun t' => by simp only [List.take_succ_cons, List.take_zero, List.cons_append, List.nil_append, dec_four h hc hd he hv]; rfl⟩
  | odd h hb => exact .inl ⟨h, hb⟩
def pieces (l : List UInt8) : List (Nat × List UInt8) :=
  match l with
  | [] => []
  | b :: t => ((dec (b :: t)).1, (b :: t).take (dec (b :: t)).2) :: pieces (t.drop ((dec (b :: t)).2 - 1))
termination_by l.length
decreasing_by simp only [List.length_drop, List.length_cons]; omega
theorem pieces_nil : pieces [] = [] := by rw [pieces]
theorem pieces_cons (l : List UInt8) (h : l ≠ []) : pieces l = ((dec l).1, l.take (dec l).2) :: pieces (l.drop (dec l).2) := by
  match l, h with
  | b :: t, _ =>
    rw [pieces]; have hw := (dec_w (l := b :: t) (by simp)).1
    congr 2
    obtain ⟨k, hk⟩ : ∃ k, (dec (b :: t)).2 = k + 1 := ⟨(dec (b :: t)).2 - 1, by omega⟩; rw [hk]; simp
def flat (ps : List (Nat × List UInt8)) : List UInt8 := (ps.map Prod.snd).flatten
theorem flat_cons (p : Nat × List UInt8) (ps : List (Nat × List UInt8)) : flat (p :: ps) = p.2 ++ flat ps := by simp [flat]
theorem flat_nil : flat [] = [] := rfl
theorem flat_app (a b : List (Nat × List UInt8)) : flat (a ++ b) = flat a ++ flat b := by simp [flat]
theorem flat_pieces (l : List UInt8) : flat (pieces l) = l := by
  generalize hn : l.length = n
  induction n using Nat.strongRecOn generalizing l with
  | _ n ih =>
    by_cases h : l = []
    · subst h; rw [pieces_nil]; rfl
    · have hw := dec_w h; have hl : 0 < l.length := List.length_pos_iff.2 h; rw [pieces_cons l h, flat_cons, ih _ (by rw [List.length_drop]; omega) _ rfl, List.take_append_drop]
inductive Good : List (Nat × List UInt8) → Prop
  | nil : Good []
  | whole {p : Nat × List UInt8} {ps : List (Nat × List UInt8)} (h : Whole p) (g : Good ps) : Good (p :: ps)
  | odd {b : UInt8} {ps : List (Nat × List UInt8)} (hb : 128 ≤ b.toNat) (h : dec (b :: flat ps) = (65533, 1)) (g : Good ps) : Good ((65533, [b]) :: ps)
theorem good_pieces (l : List UInt8) : Good (pieces l) := by
  generalize hn : l.length = n
  induction n using Nat.strongRecOn generalizing l with
  | _ n ih =>
    match l with
    | [] => rw [pieces_nil]; exact .nil
    | b :: t =>
      (have h : b :: t ≠ [] := by simp); have hw := dec_w h; have hl : 0 < (b :: t).length := List.length_pos_iff.2 h; have hg := ih _ (by rw [List.length_drop]; omega) ((b :: t).drop (dec (b :: t)).2) rfl; rw [pieces_cons _ h]; rcases form_whole (form b t) with ⟨h2, hb⟩ | h2
      · rw [h2] at hg ⊢; refine .odd hb ?_ hg; rw [flat_pieces]; exact h2
      · exact .whole h2 hg
def sl (s : ByteArray) : List UInt8 := s.data.toList
theorem sl_len (s : ByteArray) : (sl s).length = s.size := rfl
theorem sl_get (s : ByteArray) (i : Nat) : s.get! i = (sl s).getD i 0 := by
  unfold sl; show s.data[i]! = _; rw [List.getD_eq_getElem?_getD, Array.getElem?_toList, getElem!_def]; cases s.data[i]? <;> rfl
theorem dec_at (s : ByteArray) (i : Nat) : Utf8.decode s i = dec ((sl s).drop i) := by
  rw [decode_at, dec]; simp only [sl_get, List.length_drop, sl_len, List.getD_eq_getElem?_getD, List.getElem?_drop, Nat.add_zero]
theorem pieces_drop (l : List UInt8) (k : Nat) : pieces (l.drop (flat ((pieces l).take k)).length) = (pieces l).drop k := by
  induction k generalizing l with
  | zero => simp [flat_nil]
  | succ k ih =>
    by_cases h : l = []
    · subst h; simp [pieces_nil, flat_nil]
    · have hw := dec_w h; rw [pieces_cons l h, List.take_succ_cons, flat_cons, List.drop_succ_cons, ← ih]
      congr 1
      rw [List.length_append, ← List.drop_drop]
      congr 2
      simp only [List.length_take]; omega
theorem piece_len {l : List UInt8} {k : Nat} {p : Nat × List UInt8} (h : (pieces l)[k]? = some p) : 1 ≤ p.2.length ∧ p.2.length ≤ 4 ∧ dec (l.drop (flat ((pieces l).take k)).length) = (p.1, p.2.length) ∧ (flat ((pieces l).take k)).length < l.length ∧
    (flat ((pieces l).take (k + 1))).length = (flat ((pieces l).take k)).length + p.2.length ∧ (flat ((pieces l).take (k + 1))).length ≤ l.length ∧ (l.drop (flat ((pieces l).take k)).length).take p.2.length = p.2 := by
  have hd := pieces_drop l k; have hk : k < (pieces l).length := (List.getElem?_eq_some_iff.1 h).1; have hk2 : (pieces l)[k] = p := (List.getElem?_eq_some_iff.1 h).2; rw [List.drop_eq_getElem_cons hk, hk2] at hd
  have hne : l.drop (flat ((pieces l).take k)).length ≠ [] := fun e => by
    rw [e, pieces_nil] at hd; cases hd
  have hw := dec_w hne; rw [pieces_cons _ hne] at hd; injection hd with hd1 hd2
  have hp2 : p.2.length = (dec (l.drop (flat ((pieces l).take k)).length)).2 := by
    rw [← hd1]; simp only [List.length_take]; omega
  have hs : (flat ((pieces l).take (k + 1))).length = (flat ((pieces l).take k)).length + p.2.length := by
    rw [List.take_add_one, h, flat_app]; simp [flat]
  have hl : (l.drop (flat ((pieces l).take k)).length).length = l.length - (flat ((pieces l).take k)).length := List.length_drop; refine ⟨by omega, by omega, ?_, by omega, hs, by omega, ?_⟩
  · rw [← hd1]; apply Prod.ext; rfl; simp only [List.length_take]; omega
  · rw [hp2, ← hd1]
theorem piece_end {l : List UInt8} {k : Nat} (h : k = (pieces l).length) : (flat ((pieces l).take k)).length = l.length := by
  subst h; rw [List.take_length, flat_pieces]
theorem pieces_le (l : List UInt8) : (pieces l).length ≤ l.length := by
  generalize hn : l.length = n
  induction n using Nat.strongRecOn generalizing l with
  | _ n ih =>
    by_cases h : l = []
    · subst h; simp [pieces_nil]
    · have hw := dec_w h; have hl : 0 < l.length := List.length_pos_iff.2 h; rw [pieces_cons l h, List.length_cons]; have := ih _ (by rw [List.length_drop]; omega) (l.drop (dec l).2) rfl; rw [List.length_drop] at this; omega
end Go.Proofs.YtldnpebnpbahjaaGreatDoor.Pk.Na
namespace Go.Proofs.YtldnpebnpbahjaaGreatDoor.Pk.Na
open Go Go.RowKit Go.Proofs.Tryz
def posn (s : ByteArray) (k : Nat) : Nat := (flat ((pieces (sl s)).take k)).length
def rn (s : ByteArray) : Nat := (pieces (sl s)).length
theorem rn_le (s : ByteArray) : rn s ≤ s.size := by rw [← sl_len]; exact pieces_le _
theorem posn_end (s : ByteArray) : posn s (rn s) = s.size := by rw [← sl_len]; exact piece_end rfl
structure It (w : World) (kb : Nat) (s : ByteArray) (k : Nat) : Prop where
  at_ : w.heap[kb]? = some (.stringIter s (posn s k))
  le : k ≤ rn s
theorem It.new (w : World) (s : ByteArray) : It (w.iter s 0) w.heap.size s 0 := ⟨World.iter_heap w s 0, Nat.zero_le _⟩
theorem It.lt {w : World} {kb : Nat} {s : ByteArray} {k : Nat} (h : It w kb s k) : kb < w.heap.size := (Array.getElem?_eq_some_iff.1 h.at_).1
theorem It.pos {w : World} {kb : Nat} {s : ByteArray} {k : Nat} (h : It w kb s k) : w.iterPos kb = posn s k := by simp [World.iterPos, h.at_]
theorem It.step {w : World} {kb : Nat} {s : ByteArray} {k : Nat} (h : It w kb s k) {p : Nat × List UInt8} (hp : (pieces (sl s))[k]? = some p) (ty : TypeId) :
    (Instr.next (.pointer (some ⟨kb, 0, none⟩)) true ty).run prog w = .ok (.tuple #[.bool true, .int .i64 (posn s k), .int .i32 p.1]) (w.iterAt kb s (posn s (k + 1))) := by
  obtain ⟨h1, h2, h3, h4, h5, h6, h7⟩ := piece_len hp; rw [Lib.run_next_any_at w kb s (posn s k) ty h.at_ (by rw [← sl_len]; exact h4), dec_at]; unfold posn; rw [h3, h5]
theorem It.stop {w : World} {kb : Nat} {s : ByteArray} {k : Nat} (h : It w kb s k) (hk : k = rn s) (ty : TypeId) :
    (Instr.next (.pointer (some ⟨kb, 0, none⟩)) true ty).run prog w = .ok (.tuple #[.bool false]) w := by
  subst hk; exact Lib.run_next_end_at w kb s _ ty h.at_ (by rw [posn_end]; omega)
theorem It.next {w : World} {kb : Nat} {s : ByteArray} {k : Nat} (h : It w kb s k) (hk : k < rn s) : It (w.iterAt kb s (posn s (k + 1))) kb s (k + 1) :=
  ⟨Lib.iterAt_heap w kb s _ _ h.at_, hk⟩
theorem It.kept {w w' : World} {kb : Nat} {s : ByteArray} {k : Nat} (h : It w kb s k) (hg : w.grownBy w' none) : It w' kb s k :=
  ⟨by rw [hg.block kb h.lt (by simp)]; exact h.at_, h.le⟩
theorem It.fr {S : Nat → Prop} {w w' : World} {kb : Nat} {s : ByteArray} {k : Nat} (h : It w kb s k) (hg : Fr S w w') (hs : ¬ S kb) : It w' kb s k :=
  ⟨by rw [hg.block kb h.lt hs]; exact h.at_, h.le⟩
theorem posn_step {s : ByteArray} {k : Nat} {p : Nat × List UInt8} (hp : (pieces (sl s))[k]? = some p) : posn s (k + 1) = posn s k + p.2.length ∧ 1 ≤ p.2.length ∧ p.2.length ≤ 4 ∧ posn s (k + 1) ≤ s.size := by
  obtain ⟨h1, h2, h3, h4, h5, h6, h7⟩ := piece_len hp; exact ⟨h5, h1, h2, by rw [← sl_len]; exact h6⟩
theorem It.has {w : World} {kb : Nat} {s : ByteArray} {k : Nat} (h : It w kb s k) (hk : k ≠ rn s) : ∃ p, (pieces (sl s))[k]? = some p :=
  ⟨_, List.getElem?_eq_getElem (show k < (pieces (sl s)).length by have := h.le; unfold rn at this hk; omega)⟩
theorem gr_iterAt (w : World) (kb : Nat) (s : ByteArray) (p : Nat) : w.grownBy (w.iterAt kb s p) (some kb) :=
  ⟨rfl, rfl, rfl, by rw [Lib.iterAt_size]; exact Nat.le_refl _, fun i _ hi => Lib.iterAt_other w kb i s p (fun e => hi (by rw [e]))⟩
theorem gr_iter (w : World) (s : ByteArray) (p : Nat) : w.grownBy (w.iter s p) none := gAl w _ none
theorem It.move {w : World} {kb : Nat} {s : ByteArray} {k : Nat} (h : It w kb s k) (hk : k ≠ rn s) : ∃ p w2, Kp ((pieces (sl s))[k]? = some p) ∧
    (∀ ty, (Instr.next (.pointer (some ⟨kb, 0, none⟩)) true ty).run prog w = .ok (.tuple #[.bool true, .int .i64 (posn s k), .int .i32 p.1]) w2) ∧
    It w2 kb s (k + 1) ∧ w.grownBy w2 (some kb) ∧ Kp (s.size - w2.iterPos kb < s.size - w.iterPos kb) := by
  obtain ⟨p, hp⟩ := h.has hk; have hst := posn_step hp; have hN := h.next (show k < rn s by have := h.le; omega); refine ⟨p, _, ⟨hp⟩, h.step hp, hN, gr_iterAt w kb s _, ⟨?_⟩⟩; rw [hN.pos, h.pos]; omega
theorem runes_c (s : ByteArray) (w : World) (hs : s.size ≤ 4611686018427387904) :
    CRt 101 #[.string s] w (iv (rn s)) := by
  have hr := rn_le s; go_enter func101, ntmps101
  go_wp2
  go_loopw [3] (fun n w' => ∃ k : Nat, n = .int .i64 k ∧ It w' w.heap.size s k ∧ w.grownBy w' none) (fun _ w' => s.size - w'.iterPos w.heap.size)
  case atStart => exact ⟨0, rfl, It.new w s, gr_iter w s 0⟩
  case round =>
    obtain ⟨k, rfl, hI, hg⟩ := hrel; by_cases hk : k = rn s
    · have hnx := hI.stop hk; clear hI; subst hk
      go_wp2
      go_ret; exact ⟨rfl, hg⟩
    · obtain ⟨p, w2, hp, hnx, hN, hG2, hm⟩ := hI.move hk; have hle := hI.le; have hG := gr_new hg hG2 (Nat.le_refl _); clear hI hp hG2
      go_wp2
      go_roundw
      case rel => exact ⟨k + 1, by simp, hN, hG⟩
      case measure => exact hm.out
abbrev rv (x : Int) : Value := .int .i32 x
def spn : List (Int × Int × Int) := [(45, 45, 0), (48, 57, 0), (65, 90, 32), (95, 95, 0), (97, 122, 0), (192, 214, 32), (216, 222, 32), (223, 246, 0), (248, 255, 0), (945, 969, 0)]
def spc : List Value := [rv 45, rv 45, rv 0, rv 48, rv 57, rv 0, rv 65, rv 90, rv 32, rv 95, rv 95, rv 0, rv 97, rv 122, rv 0, rv 192, rv 214, rv 32, rv 216, rv 222, rv 32, rv 223, rv 246, rv 0, rv 248, rv 255, rv 0, rv 945, rv 969, rv 0]
def fnd (r : Int) : Option (Int × Int × Int) := spn.find? fun p => decide (p.1 ≤ r ∧ r ≤ p.2.1)
def fndV : Option (Int × Int × Int) → Value
  | some (a, b, c) => .tuple #[.agg #[rv a, rv b, rv c], .bool true]
  | none => .tuple #[.agg #[rv 0, rv 0, rv 0], .bool false]
def Kc (w : World) : Prop := w.rangeAt 0 0 spc
theorem Kc.kept {w w' : World} (h : Kc w) (hg : w.grownBy w' none) : Kc w' := by
  intro j v hv; have := h j v hv; exact hg.cell this (by simp)
theorem underSp : prog.underlying 210 = some (.array 10 149) := by kernel_rfl
theorem infoSp : (prog.info? 210).map (·.size) = some spc.length := by kernel_rfl
def fndK (k : Nat) (r : Int) : Option (Int × Int × Int) := (spn.drop k).find? fun p => decide (p.1 ≤ r ∧ r ≤ p.2.1)
theorem idxSp (k : Nat) (hk : k < 10) (W : World) : (Instr.index 210 (.agg spc.toArray) (.int .i64 k)).run prog W = .ok (.agg #[rv (spn.getD k (0, 0, 0)).1, rv (spn.getD k (0, 0, 0)).2.1, rv (spn.getD k (0, 0, 0)).2.2]) W := by
  rcases (by omega : k = 0 ∨ k = 1 ∨ k = 2 ∨ k = 3 ∨ k = 4 ∨ k = 5 ∨ k = 6 ∨ k = 7 ∨ k = 8 ∨ k = 9) with rfl | rfl | rfl | rfl | rfl | rfl | rfl | rfl | rfl | rfl
  all_goals kernel_rfl
theorem fndK_step {k : Nat} (hk : k < 10) (r : Int) : fndK k r = if (spn.getD k (0, 0, 0)).1 ≤ r ∧ r ≤ (spn.getD k (0, 0, 0)).2.1 then some (spn.getD k (0, 0, 0)) else fndK (k + 1) r := by
  have hl : k < spn.length := hk; unfold fndK; rw [List.drop_eq_getElem_cons hl, List.find?_cons, List.getD_eq_getElem?_getD, List.getElem?_eq_getElem hl]; simp only [Option.getD_some]; split
  · rename_i h; rw [if_pos (of_decide_eq_true h)]
  · rename_i h; rw [if_neg (of_decide_eq_false h)]
theorem fndK_end (r : Int) : fndK 10 r = none := rfl
set_option pp.deepTerms false in
theorem find_c (r : Int) (w : World) (hk : Kc w) :
    CRt 102 #[rv r] w (fndV (fnd r)) := by
  go_enter func102, ntmps102; have H1 : Kp (Kc (w.alloc (Obj.cells #[Value.int IntKind.i32 0, Value.int IntKind.i32 0, Value.int IntKind.i32 0] 149))) := ⟨hk.kept (gAl _ _ _)⟩; obtain ⟨V, hV⟩ : ∃ V, Value.agg spc.toArray = V := ⟨_, rfl⟩
  go_wp2_with (refine wpList_load_mid rfl 210 _ rfl _ _ rfl _ _ H1.out underSp rfl infoSp ?_; rw [hV])
  have HV : Kp (Value.agg spc.toArray = V) := ⟨hV⟩; clear hV
  go_loopw [7] (fun i w' => ∃ k : Nat, i = .int .i64 k ∧ k ≤ 10 ∧ Kp (fnd r = fndK k r) ∧ Has w' w.heap.size [rv 0, rv 0, rv 0] 149 ∧ w.grownBy w' none) (fun i _ => (10 - intOf i).toNat)
  case atStart => exact ⟨0, rfl, by omega, ⟨rfl⟩, Has.newA _ _ _, gAl _ _ _⟩
  case round =>
    obtain ⟨k, rfl, hk10, HF, hH, hg⟩ := hrel; by_cases hk2 : k = 10
    · subst hk2; have f0 := hH.frozen 0; have f1 := hH.frozen 1; have f2 := hH.frozen 2; have c0 := hH.cellv 0 _ rfl; have c1 := hH.cellv 1 _ rfl; have c2 := hH.cellv 2 _ rfl; go_wp2_with fail; refine bodyPost_ret (v := fndV (fnd r)) ?_ rfl ⟨rfl, ?_⟩
      · rw [results_cell_tmp rfl, HF.out, fndK_end]; go_simp; rfl
      · exact gr_new (gr_new (gr_new hg (gr_set _ _ _ _) (Nat.le_refl _)) (gr_set _ _ _ _) (Nat.le_refl _)) (gr_set _ _ _ _) (Nat.le_refl _)
    · (have hix : ∀ W, (Instr.index 210 V (.int .i64 k)).run prog W = .ok (.agg #[rv (spn.getD k (0, 0, 0)).1, rv (spn.getD k (0, 0, 0)).2.1, rv (spn.getD k (0, 0, 0)).2.2]) W := fun W => by rw [← HV.out]; exact idxSp k (by omega) W); have HS : Kp (fndK k r = if (spn.getD k (0, 0, 0)).1 ≤ r ∧ r ≤ (spn.getD k (0, 0, 0)).2.1 then some (spn.getD k (0, 0, 0)) else fndK (k + 1) r) := ⟨fndK_step (by omega) r⟩; obtain ⟨⟨A, B, C⟩, hT⟩ : ∃ T, spn.getD k (0, 0, 0) = T := ⟨_, rfl⟩; rw [hT] at hix HS; simp only at hix HS; clear hT; have hHa := hH.alloc (Obj.cells #[Value.int IntKind.i32 A, Value.int IntKind.i32 B, Value.int IntKind.i32 C] 149); have hga : w.grownBy (wr.alloc (Obj.cells #[Value.int IntKind.i32 A, Value.int IntKind.i32 B, Value.int IntKind.i32 C] 149)) none := hg.trans (gAl _ _ _); by_cases hA : A ≤ r
      · by_cases hB : r ≤ B
        · have f0 := hHa.frozen 0; have f1 := hHa.frozen 1; have f2 := hHa.frozen 2; have c0 := hHa.cellv 0 _ rfl; have c1 := hHa.cellv 1 _ rfl; have c2 := hHa.cellv 2 _ rfl; go_wp2_with fail; refine bodyPost_ret (v := fndV (fnd r)) ?_ rfl ⟨rfl, ?_⟩
          · rw [results_cell_tmp rfl, HF.out, HS.out, if_pos ⟨hA, hB⟩]; go_simp; rfl
          · exact gr_new (gr_new (gr_new hga (gr_set _ _ _ _) (Nat.le_refl _)) (gr_set _ _ _ _) (Nat.le_refl _)) (gr_set _ _ _ _) (Nat.le_refl _)
        · go_wp2_with fail
          go_roundw
          case rel => exact ⟨k + 1, by simp, by omega, ⟨by rw [HF.out, HS.out, if_neg (by omega)]⟩, hHa, hga⟩
          case measure => simp [intOf]; omega
      · go_wp2_with fail
        go_roundw
        case rel => exact ⟨k + 1, by simp, by omega, ⟨by rw [HF.out, HS.out, if_neg (by omega)]⟩, hHa, hga⟩
        case measure => simp [intOf]; omega
def mk (l : List UInt8) : ByteArray := ⟨l.toArray⟩
theorem sl_mk (l : List UInt8) : sl (mk l) = l := by simp [sl, mk]
theorem mk_sl (s : ByteArray) : mk (sl s) = s := by apply ByteArray.ext; simp [sl, mk]
theorem sl_inj {a b : ByteArray} (h : sl a = sl b) : a = b := by rw [← mk_sl a, h, mk_sl]
theorem sl_app (a b : ByteArray) : sl (a ++ b) = sl a ++ sl b := by simp [sl]
theorem sl_ext (s : ByteArray) (a b : Nat) : sl (s.extract a b) = ((sl s).take b).drop a := by
  simp [sl, ByteArray.data_extract, List.extract_eq_take_drop, List.drop_take]
theorem mk_size (l : List UInt8) : (mk l).size = l.length := by simp [mk, ByteArray.size]
theorem gr_below {w w' : World} (h : Below w.heap.size w w') : w.grownBy w' none := ⟨h.os, h.tape, h.output, h.size, fun k hk _ => h.block k hk⟩
theorem clone_c (s : ByteArray) (w : World) (hs : s.size ≤ 281474976710656) :
    CRt 51 #[.string s] w (.string s) := by
  go_enter func51, ntmps51; go_wp2_with fail; refine (Tryz.stringslite_Clone s _ hs).mono ?_; rintro e w1 ⟨rfl, hB⟩; have HG : Kp (w.grownBy w1 none) := ⟨gr_below hB⟩; clear hB; go_wp2_with fail; go_ret; exact ⟨rfl, HG.out⟩
def chkOK (s : ByteArray) : Bool := decide (s.size ≠ 0) && decide (s.size ≤ 24) && decide (rn s ≤ 12) && (pieces (sl s)).all fun p => (fnd p.1).isSome
def chk (s : ByteArray) : Int := if chkOK s then 0 else 60
theorem chk_no {s : ByteArray} (h : ¬ chkOK s = true) : chk s = 60 := if_neg h
theorem fndV_some {r : Int} (h : (fnd r).isSome = true) : ∃ A B C, fndV (fnd r) = .tuple #[.agg #[rv A, rv B, rv C], .bool true] := by
  match hf : fnd r with
  | some (a, b, c) => exact ⟨a, b, c, rfl⟩
  | none => rw [hf] at h; cases h
theorem fndV_none {r : Int} (h : (fnd r).isSome = false) : fndV (fnd r) = .tuple #[.agg #[rv 0, rv 0, rv 0], .bool false] := by
  match hf : fnd r with
  | some (a, b, c) => rw [hf] at h; cases h
  | none => rfl
theorem isEmptyL {s : ByteArray} (h : s.size ≠ 0) : s.toList.isEmpty = false := by
  rw [ByteArray.toList_eq]; cases hl : s.data.toList with
  | nil => exact absurd (by rw [← sl_len, sl, hl]; rfl) h
  | cons a b => rfl
theorem check_c (s : ByteArray) (w : World) (hs : s.size ≤ 281474976710656) (hk : Kc w) :
    CRt 50 #[.string s] w (iv (chk s)) := by
  go_enter func50, ntmps50; by_cases h0 : s.size = 0
  · obtain rfl : s = ⟨#[]⟩ := by
      apply sl_inj; exact List.eq_nil_of_length_eq_zero h0
    have HC : Kp (chk ⟨#[]⟩ = 60) := ⟨by simp [chk, chkOK, ByteArray.size]⟩; go_wp2_with fail; go_ret; rw [HC.out]; exact ⟨rfl, World.grownBy.refl _ _⟩
  have hE := isEmptyL h0; by_cases h24 : 24 < s.size
  · have HC : Kp (chk s = 60) := ⟨chk_no (by simp [chkOK]; intro _ h; omega)⟩; go_wp2_with fail; go_ret; rw [HC.out]; exact ⟨rfl, World.grownBy.refl _ _⟩
  go_wp2_with fail; refine (runes_c s _ (by omega)).mono ?_; rintro e w1 ⟨rfl, hG⟩; have HG : Kp (w.grownBy w1 none) := ⟨hG⟩; have HK1 : Kp (Kc w1) := ⟨hk.kept hG⟩; clear hG hk; have hrs := rn_le s; by_cases h12 : 12 < rn s
  · have HC : Kp (chk s = 60) := ⟨chk_no (by simp [chkOK]; intro _ _ h; omega)⟩; go_wp2_with fail; go_ret; rw [HC.out]; exact ⟨rfl, HG.out⟩
  go_wp2_with fail
  go_loopw [] (fun w' => ∃ k : Nat, It w' w1.heap.size s k ∧ w1.grownBy w' none ∧ Kp (∀ p ∈ (pieces (sl s)).take k, (fnd p.1).isSome = true)) (fun w' => s.size - w'.iterPos w1.heap.size)
  case atStart => exact ⟨0, It.new w1 s, gr_iter w1 s 0, ⟨by simp⟩⟩
  case round =>
    obtain ⟨k, hI, hg, HA⟩ := hrel; by_cases hk : k = rn s
    · have hnx := hI.stop hk
      have HC : Kp (chk s = 0) := ⟨by
        unfold chk; rw [if_pos]; have hA := HA.out; rw [hk, rn, List.take_length] at hA; simp only [chkOK, Bool.and_eq_true, decide_eq_true_eq, List.all_eq_true]
        exact ⟨⟨⟨by omega, by omega⟩, by omega⟩, hA⟩⟩
      have HG2 : Kp (w.grownBy wr none) := ⟨HG.out.trans hg⟩; clear hI hg; go_wp2_with fail; go_ret; rw [HC.out]; exact ⟨rfl, HG2.out⟩
    · obtain ⟨p, w2, hp, hnx, hN, hG2, hm⟩ := hI.move hk; have hG := gr_new hg hG2 (Nat.le_refl _); clear hI hG2 hg; go_wp2_with fail; refine (find_c p.1 w2 (HK1.out.kept hG)).mono ?_; rintro e w3 ⟨rfl, hG3⟩; have HG3 : Kp (w1.grownBy w3 none) := ⟨hG.trans hG3⟩; have HI3 : Kp (It w3 w1.heap.size s (k + 1)) := ⟨hN.kept hG3⟩; have hm3 : Kp (s.size - w3.iterPos w1.heap.size < s.size - wr.iterPos w1.heap.size) := ⟨by rw [HI3.out.pos, ← hN.pos]; exact hm.out⟩; clear hG3 hN hG hnx hm; by_cases hf : (fnd p.1).isSome = true
      · obtain ⟨A, B, C, hv⟩ := fndV_some hf; rw [hv]
        have HA2 : Kp (∀ p ∈ (pieces (sl s)).take (k + 1), (fnd p.1).isSome = true) := ⟨by
          rw [List.take_add_one, hp.out]; intro q hq; rcases List.mem_append.1 hq with hq | hq
          · exact HA.out q hq
          · simp at hq; subst hq; exact hf⟩
        clear hf hv; go_wp2_with fail
        go_roundw
        case rel => exact ⟨k + 1, HI3.out.kept (gAl _ _ _), HG3.out.trans (gAl _ _ _), HA2⟩
        case measure =>
          rw [(HI3.out.kept (gAl _ _ _)).pos, ← HI3.out.pos]; exact hm3.out
      · (have hf' : (fnd p.1).isSome = false := by simpa using hf); rw [fndV_none hf']
        have HC : Kp (chk s = 60) := ⟨chk_no (by
          intro h; simp only [chkOK, Bool.and_eq_true, List.all_eq_true] at h
          exact hf (h.2 p (List.mem_of_getElem? hp.out)))⟩
        have HG4 : Kp (w.grownBy w3 none) := ⟨HG.out.trans HG3.out⟩; clear hf hf'; go_wp2_with fail; go_ret; rw [HC.out]; exact ⟨rfl, HG4.out.trans (gAl _ _ _)⟩
def large (n : Nat) : Prop := (65 ≤ n ∧ n ≤ 90) ∨ (192 ≤ n ∧ n ≤ 214) ∨ (216 ≤ n ∧ n ≤ 222)
instance (n : Nat) : Decidable (large n) := by unfold large; exact inferInstance
def encL (n : Nat) : List UInt8 := if n < 128 then [UInt8.ofNat n] else [195, UInt8.ofNat (n - 64)]
def small (p : Nat × List UInt8) : Nat × List UInt8 := if large p.1 then (p.1 + 32, encL (p.1 + 32)) else p
def foldL (l : List UInt8) : List UInt8 := flat ((pieces l).map small)
theorem fnd_good (n : Nat) : (fnd n).isSome = true ↔ (n = 45 ∨ (48 ≤ n ∧ n ≤ 57) ∨ (65 ≤ n ∧ n ≤ 90) ∨ n = 95 ∨ (97 ≤ n ∧ n ≤ 122) ∨ (192 ≤ n ∧ n ≤ 255 ∧ n ≠ 215 ∧ n ≠ 247) ∨ (945 ≤ n ∧ n ≤ 969)) := by
  unfold fnd spn; simp only [List.find?_cons, List.find?_nil]
  repeat' split
  all_goals simp_all
  all_goals omega
theorem whole_one {p : Nat × List UInt8} (h : Whole p) (hn : p.1 < 128) : p.2 = [UInt8.ofNat p.1] := by
  obtain ⟨h1, h2, h3⟩ := h; obtain ⟨n, bs⟩ := p; simp only at *
  match bs, h1 with
  | b :: t, _ =>
    have e := h3 []; rw [List.append_nil] at e; cases form b t with
    | one hb t =>
      rw [dec_ascii hb] at e; have e1 := congrArg Prod.fst e; have e2 := congrArg Prod.snd e; simp at e1 e2; subst e2; rw [← e1]; simp
    | two hb hc hv t => rw [dec_two hb hc hv] at e; have e1 := congrArg Prod.fst e; simp only at e1; omega
    | three hb hc hd hv t => rw [dec_three hb hc hd hv] at e; have e1 := congrArg Prod.fst e; simp only at e1; omega
    | four hb hc hd he hv t => rw [dec_four hb hc hd he hv] at e; have e1 := congrArg Prod.fst e; simp only at e1; omega
    | odd hb _ => rw [hb] at e; have e1 := congrArg Prod.fst e; simp only at e1; omega
theorem whole_two {p : Nat × List UInt8} (h : Whole p) (hn : 128 ≤ p.1) (hn2 : p.1 < 2048) : p.2 = [UInt8.ofNat (192 + p.1 / 64), UInt8.ofNat (128 + p.1 % 64)] := by
  obtain ⟨h1, h2, h3⟩ := h; obtain ⟨n, bs⟩ := p; simp only at *
  match bs, h1 with
  | b :: t, _ =>
    have e := h3 []; rw [List.append_nil] at e; cases form b t with
    | one hb t => rw [dec_ascii hb] at e; have e1 := congrArg Prod.fst e; simp only at e1; omega
    | @two c hb hc hv t =>
      rw [dec_two hb hc hv] at e; have e1 := congrArg Prod.fst e; have e2 := congrArg Prod.snd e; simp only [List.length_cons] at e1 e2; obtain rfl : t = [] := List.eq_nil_of_length_eq_zero (by omega); have hb2 := b.toNat_lt; have hc2 := c.toNat_lt; rw [show 192 + n / 64 = b.toNat by omega, show 128 + n % 64 = c.toNat by omega]; simp
    | three hb hc hd hv t => rw [dec_three hb hc hd hv] at e; have e1 := congrArg Prod.fst e; simp only at e1; omega
    | four hb hc hd he hv t => rw [dec_four hb hc hd he hv] at e; have e1 := congrArg Prod.fst e; simp only at e1; omega
    | odd hb _ => rw [hb] at e; have e1 := congrArg Prod.fst e; simp only at e1; omega
theorem small_odd (b : UInt8) : small (65533, [b]) = (65533, [b]) := if_neg (by unfold large; omega)
theorem small_len {p : Nat × List UInt8} (h : Whole p) : (small p).2.length = p.2.length := by
  by_cases hl : large p.1
  · have e : small p = (p.1 + 32, encL (p.1 + 32)) := if_pos hl; rw [e]; unfold large at hl; by_cases h1 : p.1 < 128
    · rw [whole_one h h1]; simp only [encL]; rw [if_pos (by omega)]; rfl
    · rw [whole_two h (by omega) (by omega)]; simp only [encL]; rw [if_neg (by omega)]; rfl
  · have e : small p = p := if_neg hl; rw [e]
theorem good_len {ps : List (Nat × List UInt8)} (g : Good ps) : ∀ k, (flat ((ps.take k).map small)).length = (flat (ps.take k)).length := by
  induction g with
  | nil => intro k; simp [flat]
  | @whole p ps h g ih =>
    intro k; cases k with
    | zero => rfl
    | succ k => rw [List.take_succ_cons, List.map_cons, flat_cons, flat_cons, List.length_append, List.length_append, ih, small_len h]
  | @odd b ps hb h g ih =>
    intro k; cases k with
    | zero => rfl
    | succ k => rw [List.take_succ_cons, List.map_cons, flat_cons, flat_cons, List.length_append, List.length_append, ih, small_odd]
theorem fold_len (l : List UInt8) : (foldL l).length = l.length := by
  have := good_len (good_pieces l) (pieces l).length; rw [List.take_length, flat_pieces] at this; exact this
abbrev bv (x : UInt8) : Value := .int .u8 x.toNat
structure Bs (w : World) (fb : Nat) (l : List UInt8) : Prop where
  lt : fb < w.heap.size
  cell : ∀ (j : Nat) x, l[j]? = some x → w.cell? ⟨fb, j, none⟩ = some (bv x)
  froz : ∀ j, j < l.length → w.frozen? ⟨fb, j, none⟩ = false
theorem Bs.kept {w w' : World} {fb : Nat} {l : List UInt8} {row : Option Nat} (h : Bs w fb l) (hg : w.grownBy w' row) (hne : some fb ≠ row) : Bs w' fb l := by
  have hb := hg.block fb h.lt hne; refine ⟨Nat.lt_of_lt_of_le h.lt hg.size, fun j x hx => ?_, fun j hj => ?_⟩
  · rw [← h.cell j x hx]; simp [World.cell?, hb]
  · rw [← h.froz j hj]; simp [World.frozen?, hb]
theorem underBy : prog.underlying 60 = some (.slice 5) := by kernel_rfl
theorem under5 : prog.underlying 5 = some (.int .u8) := by kernel_rfl
theorem under9 : prog.underlying 9 = some .string := by kernel_rfl
theorem cvt (s : ByteArray) (W : World) : (convert 9 60 (.string s)).run prog W = .ok (.slice (some ⟨W.heap.size, 0, none⟩) s.size (grownCap W s.size 0 5)) (Lib.bytesWorld W 5 s) :=
  Lib.run_convert_string_bytes (P := prog) W 9 60 5 s (u := .string) under9 underBy under5
theorem gr_bytes (W : World) (s : ByteArray) : W.grownBy (Lib.bytesWorld W 5 s) none :=
  ⟨rfl, rfl, rfl, by rw [Lib.bytesWorld_size]; omega, fun k hk _ => Lib.bytesWorld_at_old _ _ _ _ hk⟩
theorem bytes_of (W : World) (s : ByteArray) : Bs (Lib.bytesWorld W 5 s) W.heap.size (sl s) := by
  refine ⟨by rw [Lib.bytesWorld_size]; omega, fun j x hx => ?_, fun j hj => ?_⟩
  · (have hj : j < s.size := by rw [← sl_len]; exact (List.getElem?_eq_some_iff.1 hx).1); rw [Lib.bytesWorld_cell _ _ _ j hj]; unfold sl at hx; simp [List.getD, hx]
  · have hj2 : j < s.size := hj
    have hz : s.size ≤ (Lib.bytesCells W 5 s).size := by
      simp [Lib.bytesCells]
    simp only [World.frozen?, Lib.bytesWorld_at_new]; simp; omega
theorem cvt_back {w : World} {fb n c : Nat} {l : List UInt8} (h : Bs w fb l) (hn : l.length = n) : (convert 60 9 (.slice (some ⟨fb, 0, none⟩) n c)).run prog w = .ok (.string (mk l)) w := by
  have := run_convert_bytes_back (P := prog) w 60 9 5 ⟨fb, 0, none⟩ c l underBy under5 under9 (fun j hj => by
    rw [Addr.add_mid, Nat.zero_add]; exact h.cell j _ (List.getElem?_eq_getElem hj))
  rw [hn] at this; exact this
def cur (s : ByteArray) (k : Nat) : List UInt8 := flat (((pieces (sl s)).take k).map small) ++ (sl s).drop (posn s k)
structure FS (w w' : World) (s : ByteArray) (k : Nat) : Prop where
  it : It w' (w.heap.size + 1) s k
  bs : Bs w' w.heap.size (cur s k)
  gr : w.grownBy w' none
theorem FS.kept {w a b : World} {s : ByteArray} {k : Nat} (h : FS w a s k) (hg : a.grownBy b none) : FS w b s k :=
  ⟨h.it.kept hg, h.bs.kept hg (by simp), h.gr.trans hg⟩
def rune (n : Int) : Prop := 0 ≤ n ∧ n ≤ 1114111 ∧ (n < 55296 ∨ 57343 < n)
theorem sl_at' (s : ByteArray) (i : Nat) (h : i < s.size) : (sl s)[i]? = some s[i] := by
  unfold sl; rw [Array.getElem?_toList]; exact Array.getElem?_eq_getElem h
theorem idx9' (s : ByteArray) (i : Nat) (y : UInt8) (h : i < s.size) (hy : (sl s)[i]? = some y) (W : World) : (Instr.index 9 (.string s) (.int .i64 (i : Int))).run prog W = .ok (.int .u8 y.toNat) W := by
  rw [run_index_string W 9 s .i64 i (by kernel_rfl), dif_pos ⟨by omega, by omega⟩]; rw [sl_at' s i h] at hy; simp only [Int.toNat_natCast, Option.some.inj hy]
def gs (l : List UInt8) (i : Nat) (lo hi : Int) : Bool := match l[i]? with
  | some b => decide (lo ≤ (b.toNat : Int)) && decide ((b.toNat : Int) ≤ hi)
  | none => false
theorem goes_c (s : ByteArray) (i : Nat) (lo hi : Int) (w : World) :
    CRs 203 #[.string s, iv i, iv lo, iv hi] w (.bool (gs (sl s) i lo hi)) := by
  go_enter func203, ntmps203; by_cases hi1 : i < s.size
  · obtain ⟨b, hb⟩ : ∃ b, (sl s)[i]? = some b := ⟨_, List.getElem?_eq_getElem hi1⟩; have hix := idx9' s i b hi1 hb; have HB : Kp (gs (sl s) i lo hi = (decide (lo ≤ (b.toNat : Int)) && decide ((b.toNat : Int) ≤ hi))) := ⟨by unfold gs; rw [hb]⟩; obtain ⟨z, hz⟩ : ∃ z : Int, (b.toNat : Int) = z := ⟨_, rfl⟩; (have hz0 : 0 ≤ z := by omega); have hz1 : z < 256 := by have := b.toNat_lt; omega
    rw [hz] at hix HB; clear hz hb; by_cases h1 : lo ≤ z
    · rw [decide_eq_true h1] at HB; by_cases h2 : z ≤ hi
      · rw [decide_eq_true h2] at HB; go_wp2_with fail; go_ret; rw [HB.out]; exact ⟨rfl, rfl⟩
      · rw [decide_eq_false h2] at HB; go_wp2_with fail; go_ret; rw [HB.out]; exact ⟨rfl, rfl⟩
    · rw [decide_eq_false h1] at HB; go_wp2_with fail; go_ret; rw [HB.out]; exact ⟨rfl, rfl⟩
  · have HB : Kp (gs (sl s) i lo hi = false) := ⟨by unfold gs; rw [List.getElem?_eq_none (by rw [sl_len]; omega)]⟩; go_wp2_with fail; go_ret; rw [HB.out]; exact ⟨rfl, rfl⟩
def szr (l : List UInt8) (i : Nat) (b : Int) : Int :=
  if b < 128 then 1
  else if 194 ≤ b ∧ b ≤ 223 then (if gs l (i + 1) 128 191 then 2 else 0)
  else if 224 ≤ b ∧ b ≤ 239 then (if gs l (i + 1) (if b = 224 then 160 else 128) (if b = 237 then 159 else 191) && gs l (i + 2) 128 191 then 3 else 0)
  else if 240 ≤ b ∧ b ≤ 244 then (if gs l (i + 1) (if b = 240 then 144 else 128) (if b = 244 then 143 else 191) && (gs l (i + 2) 128 191 && gs l (i + 3) 128 191) then 4 else 0)
  else 0
theorem size_c (s : ByteArray) (i : Nat) (b : UInt8) (w : World) (hi : i < s.size) (hs : s.size ≤ 281474976710656) (hb : (sl s)[i]? = some b) :
    CRs 165 #[.string s, iv i] w (iv (szr (sl s) i b.toNat)) := by
  go_enter func165, ntmps165; have hix := idx9' s i b hi hb; obtain ⟨z, hz⟩ : ∃ z : Int, (b.toNat : Int) = z := ⟨_, rfl⟩; have hz0 : 0 ≤ z := by omega
  have hz1 : z < 256 := by have := b.toNat_lt; omega
  rw [hz] at hix ⊢; clear hz hb; obtain ⟨R, hR⟩ : ∃ R, szr (sl s) i z = R := ⟨_, rfl⟩; rw [hR]; unfold szr at hR; have HR := Kp.mk hR; clear hR; by_cases c1 : z < 128
  · (have e : R = 1 := by rw [← HR.out, if_pos c1]); subst e; go_wp2_with fail; go_ret; exact ⟨rfl, rfl⟩
  rw [if_neg c1] at HR; by_cases c2 : 194 ≤ z ∧ z ≤ 223
  · rw [if_pos c2] at HR; obtain ⟨c3, c4⟩ := c2; go_wp2_with fail; refine (goes_c s (i + 1) 128 191 _).mono ?_; rintro e wq ⟨rfl, rfl⟩; obtain ⟨g1, hg1⟩ : ∃ g, gs (sl s) (i + 1) 128 191 = g := ⟨_, rfl⟩; rw [hg1]; cases g1
    · (have e : R = 0 := by rw [← HR.out]; simp [hg1]); subst e; go_wp2_with fail; go_ret; exact ⟨rfl, rfl⟩
    · (have e : R = 2 := by rw [← HR.out]; simp [hg1]); subst e; go_wp2_with fail; go_ret; exact ⟨rfl, rfl⟩
  rw [if_neg c2] at HR; by_cases c5 : 224 ≤ z ∧ z ≤ 239
  · rw [if_pos c5] at HR; obtain ⟨c6, c7⟩ := c5; by_cases c8 : z = 224
    · subst c8; rw [show (if (224:Int) = 224 then (160:Int) else 128) = 160 from by decide, show (if (224:Int) = 237 then (159:Int) else 191) = 191 from by decide] at HR; go_wp2_with fail; refine (goes_c s (i + 1) 160 191 _).mono ?_; rintro e wq ⟨rfl, rfl⟩; obtain ⟨g1, hg1⟩ : ∃ g, gs (sl s) (i + 1) 160 191 = g := ⟨_, rfl⟩; rw [hg1]; cases g1
      · (have e : R = 0 := by rw [← HR.out]; simp [hg1]); subst e; go_wp2_with fail; go_ret; exact ⟨rfl, rfl⟩
      · go_wp2_with fail; refine (goes_c s (i + 2) 128 191 _).mono ?_; rintro e wq ⟨rfl, rfl⟩; obtain ⟨g2, hg2⟩ : ∃ g, gs (sl s) (i + 2) 128 191 = g := ⟨_, rfl⟩; rw [hg2]; cases g2
        · (have e : R = 0 := by rw [← HR.out]; simp [hg1, hg2]); subst e; go_wp2_with fail; go_ret; exact ⟨rfl, rfl⟩
        · (have e : R = 3 := by rw [← HR.out]; simp [hg1, hg2]); subst e; go_wp2_with fail; go_ret; exact ⟨rfl, rfl⟩
    by_cases c9 : z = 237
    · subst c9; rw [show (if (237:Int) = 224 then (160:Int) else 128) = 128 from by decide, show (if (237:Int) = 237 then (159:Int) else 191) = 159 from by decide] at HR; go_wp2_with fail; refine (goes_c s (i + 1) 128 159 _).mono ?_; rintro e wq ⟨rfl, rfl⟩; obtain ⟨g1, hg1⟩ : ∃ g, gs (sl s) (i + 1) 128 159 = g := ⟨_, rfl⟩; rw [hg1]; cases g1
      · (have e : R = 0 := by rw [← HR.out]; simp [hg1]); subst e; go_wp2_with fail; go_ret; exact ⟨rfl, rfl⟩
      · go_wp2_with fail; refine (goes_c s (i + 2) 128 191 _).mono ?_; rintro e wq ⟨rfl, rfl⟩; obtain ⟨g2, hg2⟩ : ∃ g, gs (sl s) (i + 2) 128 191 = g := ⟨_, rfl⟩; rw [hg2]; cases g2
        · (have e : R = 0 := by rw [← HR.out]; simp [hg1, hg2]); subst e; go_wp2_with fail; go_ret; exact ⟨rfl, rfl⟩
        · (have e : R = 3 := by rw [← HR.out]; simp [hg1, hg2]); subst e; go_wp2_with fail; go_ret; exact ⟨rfl, rfl⟩
    rw [show (if z = 224 then (160:Int) else 128) = 128 from if_neg c8, show (if z = 237 then (159:Int) else 191) = 191 from if_neg c9] at HR; clear c2; go_wp2_with fail; refine (goes_c s (i + 1) 128 191 _).mono ?_; rintro e wq ⟨rfl, rfl⟩; obtain ⟨g1, hg1⟩ : ∃ g, gs (sl s) (i + 1) 128 191 = g := ⟨_, rfl⟩; rw [hg1]; cases g1
    · (have e : R = 0 := by rw [← HR.out]; simp [hg1]); subst e; go_wp2_with fail; go_ret; exact ⟨rfl, rfl⟩
    · go_wp2_with fail; refine (goes_c s (i + 2) 128 191 _).mono ?_; rintro e wq ⟨rfl, rfl⟩; obtain ⟨g2, hg2⟩ : ∃ g, gs (sl s) (i + 2) 128 191 = g := ⟨_, rfl⟩; rw [hg2]; cases g2
      · (have e : R = 0 := by rw [← HR.out]; simp [hg1, hg2]); subst e; go_wp2_with fail; go_ret; exact ⟨rfl, rfl⟩
      · (have e : R = 3 := by rw [← HR.out]; simp [hg1, hg2]); subst e; go_wp2_with fail; go_ret; exact ⟨rfl, rfl⟩
  rw [if_neg c5] at HR; by_cases c10 : 240 ≤ z ∧ z ≤ 244
  · rw [if_pos c10] at HR; obtain ⟨c11, c12⟩ := c10; by_cases c13 : z = 240
    · subst c13; rw [show (if (240:Int) = 240 then (144:Int) else 128) = 144 from by decide, show (if (240:Int) = 244 then (143:Int) else 191) = 191 from by decide] at HR; go_wp2_with fail; refine (goes_c s (i + 1) 144 191 _).mono ?_; rintro e wq ⟨rfl, rfl⟩; obtain ⟨g1, hg1⟩ : ∃ g, gs (sl s) (i + 1) 144 191 = g := ⟨_, rfl⟩; rw [hg1]; cases g1
      · (have e : R = 0 := by rw [← HR.out]; simp [hg1]); subst e; go_wp2_with fail; go_ret; exact ⟨rfl, rfl⟩
      · go_wp2_with fail; refine (goes_c s (i + 2) 128 191 _).mono ?_; rintro e wq ⟨rfl, rfl⟩; obtain ⟨g2, hg2⟩ : ∃ g, gs (sl s) (i + 2) 128 191 = g := ⟨_, rfl⟩; rw [hg2]; cases g2
        · (have e : R = 0 := by rw [← HR.out]; simp [hg1, hg2]); subst e; go_wp2_with fail; go_ret; exact ⟨rfl, rfl⟩
        · go_wp2_with fail; refine (goes_c s (i + 3) 128 191 _).mono ?_; rintro e wq ⟨rfl, rfl⟩; obtain ⟨g3, hg3⟩ : ∃ g, gs (sl s) (i + 3) 128 191 = g := ⟨_, rfl⟩; rw [hg3]; cases g3
          · (have e : R = 0 := by rw [← HR.out]; simp [hg1, hg2, hg3]); subst e; go_wp2_with fail; go_ret; exact ⟨rfl, rfl⟩
          · (have e : R = 4 := by rw [← HR.out]; simp [hg1, hg2, hg3]); subst e; go_wp2_with fail; go_ret; exact ⟨rfl, rfl⟩
    by_cases c14 : z = 244
    · subst c14; rw [show (if (244:Int) = 240 then (144:Int) else 128) = 128 from by decide, show (if (244:Int) = 244 then (143:Int) else 191) = 143 from by decide] at HR; go_wp2_with fail; refine (goes_c s (i + 1) 128 143 _).mono ?_; rintro e wq ⟨rfl, rfl⟩; obtain ⟨g1, hg1⟩ : ∃ g, gs (sl s) (i + 1) 128 143 = g := ⟨_, rfl⟩; rw [hg1]; cases g1
      · (have e : R = 0 := by rw [← HR.out]; simp [hg1]); subst e; go_wp2_with fail; go_ret; exact ⟨rfl, rfl⟩
      · go_wp2_with fail; refine (goes_c s (i + 2) 128 191 _).mono ?_; rintro e wq ⟨rfl, rfl⟩; obtain ⟨g2, hg2⟩ : ∃ g, gs (sl s) (i + 2) 128 191 = g := ⟨_, rfl⟩; rw [hg2]; cases g2
        · (have e : R = 0 := by rw [← HR.out]; simp [hg1, hg2]); subst e; go_wp2_with fail; go_ret; exact ⟨rfl, rfl⟩
        · go_wp2_with fail; refine (goes_c s (i + 3) 128 191 _).mono ?_; rintro e wq ⟨rfl, rfl⟩; obtain ⟨g3, hg3⟩ : ∃ g, gs (sl s) (i + 3) 128 191 = g := ⟨_, rfl⟩; rw [hg3]; cases g3
          · (have e : R = 0 := by rw [← HR.out]; simp [hg1, hg2, hg3]); subst e; go_wp2_with fail; go_ret; exact ⟨rfl, rfl⟩
          · (have e : R = 4 := by rw [← HR.out]; simp [hg1, hg2, hg3]); subst e; go_wp2_with fail; go_ret; exact ⟨rfl, rfl⟩
    rw [show (if z = 240 then (144:Int) else 128) = 128 from if_neg c13, show (if z = 244 then (143:Int) else 191) = 191 from if_neg c14] at HR; clear c2 c5; go_wp2_with fail; refine (goes_c s (i + 1) 128 191 _).mono ?_; rintro e wq ⟨rfl, rfl⟩; obtain ⟨g1, hg1⟩ : ∃ g, gs (sl s) (i + 1) 128 191 = g := ⟨_, rfl⟩; rw [hg1]; cases g1
    · (have e : R = 0 := by rw [← HR.out]; simp [hg1]); subst e; go_wp2_with fail; go_ret; exact ⟨rfl, rfl⟩
    · go_wp2_with fail; refine (goes_c s (i + 2) 128 191 _).mono ?_; rintro e wq ⟨rfl, rfl⟩; obtain ⟨g2, hg2⟩ : ∃ g, gs (sl s) (i + 2) 128 191 = g := ⟨_, rfl⟩; rw [hg2]; cases g2
      · (have e : R = 0 := by rw [← HR.out]; simp [hg1, hg2]); subst e; go_wp2_with fail; go_ret; exact ⟨rfl, rfl⟩
      · go_wp2_with fail; refine (goes_c s (i + 3) 128 191 _).mono ?_; rintro e wq ⟨rfl, rfl⟩; obtain ⟨g3, hg3⟩ : ∃ g, gs (sl s) (i + 3) 128 191 = g := ⟨_, rfl⟩; rw [hg3]; cases g3
        · (have e : R = 0 := by rw [← HR.out]; simp [hg1, hg2, hg3]); subst e; go_wp2_with fail; go_ret; exact ⟨rfl, rfl⟩
        · (have e : R = 4 := by rw [← HR.out]; simp [hg1, hg2, hg3]); subst e; go_wp2_with fail; go_ret; exact ⟨rfl, rfl⟩
  have e : R = 0 := by rw [← HR.out, if_neg c10]
  subst e; by_cases d1 : z < 194
  · go_wp2_with fail; go_ret; exact ⟨rfl, rfl⟩
  have d2 : 244 < z := by omega
  go_wp2_with fail; go_ret; exact ⟨rfl, rfl⟩
theorem gs_drop (l : List UInt8) (i k : Nat) (lo hi : Int) : gs (l.drop i) k lo hi = gs l (i + k) lo hi := by
  unfold gs; rw [List.getElem?_drop]
theorem szr_drop (l : List UInt8) (i : Nat) (b : Int) : szr l i b = szr (l.drop i) 0 b := by
  unfold szr; simp only [gs_drop, Nat.zero_add]
theorem gs_some {l : List UInt8} {k : Nat} {c : UInt8} (h : l[k]? = some c) (lo hi : Int) : gs l k lo hi = (decide (lo ≤ (c.toNat : Int)) && decide ((c.toNat : Int) ≤ hi)) := by
  unfold gs; rw [h]
theorem gs_true {l : List UInt8} {k : Nat} {lo hi : Int} (h : gs l k lo hi = true) : ∃ c, l[k]? = some c ∧ lo ≤ (c.toNat : Int) ∧ (c.toNat : Int) ≤ hi := by
  unfold gs at h; cases hc : l[k]? with
  | none => rw [hc] at h; cases h
  | some c => rw [hc] at h; simp at h; exact ⟨c, rfl, h.1, h.2⟩
def nst (n : Int) (b : UInt8) : Int := 64 * n + b.toNat - 128
def n0 (x : List UInt8) : Int := ((x.getD 0 0).toNat : Int) - (if x.length = 2 then 192 else if x.length = 3 then 224 else if x.length = 4 then 240 else 0)
def nmb (x : List UInt8) : Int := (x.drop 1).foldl nst (n0 x)
theorem szr_spec (b : UInt8) (t : List UInt8) : (dec (b :: t) = (65533, 1) ∧ 128 ≤ b.toNat ∧ szr (b :: t) 0 b.toNat = 0) ∨
    (szr (b :: t) 0 b.toNat = ((dec (b :: t)).2 : Int) ∧ nmb ((b :: t).take (dec (b :: t)).2) = ((dec (b :: t)).1 : Int)) := by
  have hb2 := b.toNat_lt; cases form b t with
  | one h t =>
    right
    rw [dec_ascii h]; refine ⟨by unfold szr; rw [if_pos (by omega)]; rfl, ?_⟩; simp [nmb, n0]
  | @two c h hc hv t =>
    right
    have hc2 := c.toNat_lt; rw [dec_two h hc hv]; refine ⟨?_, ?_⟩
    · unfold szr; rw [if_neg (by omega), if_pos (by omega), gs_some (c := c) rfl, decide_eq_true (by omega), decide_eq_true (by omega)]; rfl
    · simp [nmb, n0, nst]; omega
  | @three c d h hc hd hv t =>
    right
    have hc2 := c.toNat_lt; have hd2 := d.toNat_lt; rw [dec_three h hc hd hv]; refine ⟨?_, ?_⟩
    · unfold szr; rw [if_neg (by omega), if_neg (by omega), if_pos (by omega), gs_some (c := c) rfl, gs_some (c := d) rfl, decide_eq_true (by split <;> omega), decide_eq_true (by split <;> omega), decide_eq_true (by omega), decide_eq_true (by omega)]; rfl
    · simp [nmb, n0, nst]; omega
  | @four c d e h hc hd he hv t =>
    right
    have hc2 := c.toNat_lt; have hd2 := d.toNat_lt; have he2 := e.toNat_lt; rw [dec_four h hc hd he hv]; refine ⟨?_, ?_⟩
    · unfold szr; rw [if_neg (by omega), if_neg (by omega), if_neg (by omega), if_pos (by omega), gs_some (c := c) rfl, gs_some (c := d) rfl, gs_some (c := e) rfl, decide_eq_true (by split <;> omega), decide_eq_true (by split <;> omega), decide_eq_true (by omega), decide_eq_true (by omega), decide_eq_true (by omega), decide_eq_true (by omega)]; rfl
    · simp [nmb, n0, nst]; omega
  | odd h hb =>
    left
    refine ⟨h, hb, ?_⟩; unfold szr; rw [if_neg (by omega)]; split
    · rename_i hr; by_cases g : gs (b :: t) (0 + 1) 128 191 = true
      · exfalso
        obtain ⟨c, hc, c1, c2⟩ := gs_true g
        match t, hc with
        | c' :: t', hc =>
          cases hc; rw [dec_two (by omega) (by omega) (by omega)] at h; have := congrArg Prod.snd h; simp at this
      · rw [if_neg g]
    · split
      · rename_i hr; by_cases g : (gs (b :: t) (0 + 1) (if (b.toNat : Int) = 224 then 160 else 128) (if (b.toNat : Int) = 237 then 159 else 191) && gs (b :: t) (0 + 2) 128 191) = true
        · exfalso
          rw [Bool.and_eq_true] at g; obtain ⟨c, hc, c1, c2⟩ := gs_true g.1; obtain ⟨d, hd, d1, d2⟩ := gs_true g.2
          match t, hc, hd with
          | c' :: d' :: t', hc, hd =>
            cases hc; cases hd; rw [dec_three (by omega) (by split at c1 <;> split at c2 <;> omega) (by omega) (by split at c1 <;> split at c2 <;> omega)] at h; have := congrArg Prod.snd h; simp at this
        · rw [if_neg g]
      · split
        · rename_i hr; by_cases g : (gs (b :: t) (0 + 1) (if (b.toNat : Int) = 240 then 144 else 128) (if (b.toNat : Int) = 244 then 143 else 191) && (gs (b :: t) (0 + 2) 128 191 && gs (b :: t) (0 + 3) 128 191)) = true
          · exfalso
            rw [Bool.and_eq_true, Bool.and_eq_true] at g; obtain ⟨c, hc, c1, c2⟩ := gs_true g.1; obtain ⟨d, hd, d1, d2⟩ := gs_true g.2.1; obtain ⟨e, he, e1, e2⟩ := gs_true g.2.2
            match t, hc, hd, he with
            | c' :: d' :: e' :: t', hc, hd, he =>
              cases hc; cases hd; cases he; rw [dec_four (by omega) (by split at c1 <;> split at c2 <;> omega) (by omega) (by omega) (by split at c1 <;> split at c2 <;> omega)] at h; have := congrArg Prod.snd h; simp at this
          · rw [if_neg g]
        · rfl
theorem number_c (x : ByteArray) (w : World) (h1 : 1 ≤ x.size) (h4 : x.size ≤ 4) :
    CRs 166 #[.string x] w (iv (nmb (sl x))) := by
  have hall : ∀ k, k < x.size → ∃ b : UInt8, (sl x)[k]? = some b := fun k hk => ⟨_, List.getElem?_eq_getElem hk⟩
  obtain ⟨b, hb⟩ := hall 0 (by omega); have hix : ∀ W, (Instr.index 9 (.string x) (.int .i64 0)).run prog W = .ok (.int .u8 b.toNat) W := idx9' x 0 b (by omega) hb; have HA := Kp.mk hall; clear hall; obtain ⟨z, hz⟩ : ∃ z : Int, (b.toNat : Int) = z := ⟨_, rfl⟩; have hz0 : 0 ≤ z := by omega
  have hz1 : z < 256 := by have := b.toNat_lt; omega
  rw [hz] at hix
  have hn0 : n0 (sl x) = z - (if x.size = 2 then 192 else if x.size = 3 then 224 else if x.size = 4 then 240 else 0) := by
    unfold n0; rw [sl_len, ← hz]; simp [List.getD, hb]
  clear hz hb; obtain ⟨N0, hN0⟩ : ∃ q, n0 (sl x) = q := ⟨_, rfl⟩; rw [hN0] at hn0; have HN0 := Kp.mk hN0; have HN1 := Kp.mk hn0
  have hnb : -240 ≤ N0 ∧ N0 ≤ 255 := by rw [hn0]; repeat' split
                                        all_goals omega
  clear hN0 hn0; obtain ⟨R, hR⟩ : ∃ R, nmb (sl x) = R := ⟨_, rfl⟩; rw [hR]; have HR := Kp.mk hR; clear hR; go_enter func166, ntmps166; by_cases hsz : x.size = 1
  · skip
    (have e : N0 = z := by rw [HN1.out]; simp [hsz]); have HE := Kp.mk e; clear e; go_wp2_with fail
    go_loopw [3, 4] (fun v i w' => ∃ (k : Nat) (n : Int), i = .int .i64 k ∧ v = .int .i64 n ∧ 1 ≤ k ∧ k ≤ 1 ∧ w' = w ∧ Kp ((((sl x).drop 1).take (k - 1)).foldl nst N0 = n) ∧ (k = 1 → -300 ≤ n ∧ n ≤ 300) ∧ (k = 2 → -20000 ≤ n ∧ n ≤ 20000) ∧ (k = 3 → -2000000 ≤ n ∧ n ≤ 2000000) ∧ (k = 4 → -200000000 ≤ n ∧ n ≤ 200000000)) (fun _ i _ => 1 - (intOf i).toNat)
    case atStart => exact ⟨1, z, rfl, rfl, by omega, by omega, rfl, ⟨by rw [HE.out]; rfl⟩, by omega, by omega, by omega, by omega⟩
    case round =>
      obtain ⟨k, n, rfl, rfl, hk1, hk2, rfl, HF, q1, q2, q3, q4⟩ := hrel; by_cases hk : k = 1
      · subst hk
        have e : R = n := by
          rw [← HR.out, ← HF.out, nmb, HN0.out]
          congr 1
          rw [List.take_of_length_le (by rw [List.length_drop, sl_len]; omega)]
        subst e; go_wp2_with fail; go_ret; exact ⟨rfl, rfl⟩
      · exfalso; omega
  have hne1 : x.size ≠ 1 := hsz; clear hsz; by_cases hsz : x.size = 2
  · skip
    (have e : N0 = z - 192 := by rw [HN1.out]; simp [hsz]); have HE := Kp.mk e; clear e; go_wp2_with fail
    go_loopw [3, 4] (fun v i w' => ∃ (k : Nat) (n : Int), i = .int .i64 k ∧ v = .int .i64 n ∧ 1 ≤ k ∧ k ≤ 2 ∧ w' = w ∧ Kp ((((sl x).drop 1).take (k - 1)).foldl nst N0 = n) ∧ (k = 1 → -300 ≤ n ∧ n ≤ 300) ∧ (k = 2 → -20000 ≤ n ∧ n ≤ 20000) ∧ (k = 3 → -2000000 ≤ n ∧ n ≤ 2000000) ∧ (k = 4 → -200000000 ≤ n ∧ n ≤ 200000000)) (fun _ i _ => 2 - (intOf i).toNat)
    case atStart => exact ⟨1, z - 192, rfl, rfl, by omega, by omega, rfl, ⟨by rw [HE.out]; rfl⟩, by omega, by omega, by omega, by omega⟩
    case round =>
      obtain ⟨k, n, rfl, rfl, hk1, hk2, rfl, HF, q1, q2, q3, q4⟩ := hrel; by_cases hk : k = 2
      · subst hk
        have e : R = n := by
          rw [← HR.out, ← HF.out, nmb, HN0.out]
          congr 1
          rw [List.take_of_length_le (by rw [List.length_drop, sl_len]; omega)]
        subst e; go_wp2_with fail; go_ret; exact ⟨rfl, rfl⟩
      · obtain ⟨c, hc⟩ := HA.out k (by omega); have hix2 := idx9' x k c (by omega) hc; obtain ⟨y, hy⟩ : ∃ y : Int, (c.toNat : Int) = y := ⟨_, rfl⟩; (have hy0 : 0 ≤ y := by omega); have hy1 : y < 256 := by have := c.toNat_lt; omega
        rw [hy] at hix2
        have HF2 : Kp ((((sl x).drop 1).take (k + 1 - 1)).foldl nst N0 = 64 * n + y - 128) := ⟨by
          rw [show k + 1 - 1 = (k - 1) + 1 by omega, List.take_add_one, List.getElem?_drop, show 1 + (k - 1) = k by omega, hc, List.foldl_append, HF.out]
          simp [nst, hy]⟩
        (have hnb2 : -2000000 ≤ n ∧ n ≤ 2000000 := by omega); have HQ : Kp ((k + 1 = 1 → -300 ≤ 64 * n + y - 128 ∧ 64 * n + y - 128 ≤ 300) ∧ (k + 1 = 2 → -20000 ≤ 64 * n + y - 128 ∧ 64 * n + y - 128 ≤ 20000) ∧ (k + 1 = 3 → -2000000 ≤ 64 * n + y - 128 ∧ 64 * n + y - 128 ≤ 2000000) ∧ (k + 1 = 4 → -200000000 ≤ 64 * n + y - 128 ∧ 64 * n + y - 128 ≤ 200000000)) := ⟨by omega⟩; clear hy hc q1 q2 q3 q4 HF; go_wp2_with fail
        go_roundw
        case rel => exact ⟨k + 1, _, by simp, rfl, by omega, by omega, (by first | rfl | trivial), HF2, HQ.out.1, HQ.out.2.1, HQ.out.2.2.1, HQ.out.2.2.2⟩
        case measure => simp [intOf]; omega
  have hne2 : x.size ≠ 2 := hsz; clear hsz; by_cases hsz : x.size = 3
  · skip
    (have e : N0 = z - 224 := by rw [HN1.out]; simp [hsz]); have HE := Kp.mk e; clear e; go_wp2_with fail
    go_loopw [3, 4] (fun v i w' => ∃ (k : Nat) (n : Int), i = .int .i64 k ∧ v = .int .i64 n ∧ 1 ≤ k ∧ k ≤ 3 ∧ w' = w ∧ Kp ((((sl x).drop 1).take (k - 1)).foldl nst N0 = n) ∧ (k = 1 → -300 ≤ n ∧ n ≤ 300) ∧ (k = 2 → -20000 ≤ n ∧ n ≤ 20000) ∧ (k = 3 → -2000000 ≤ n ∧ n ≤ 2000000) ∧ (k = 4 → -200000000 ≤ n ∧ n ≤ 200000000)) (fun _ i _ => 3 - (intOf i).toNat)
    case atStart => exact ⟨1, z - 224, rfl, rfl, by omega, by omega, rfl, ⟨by rw [HE.out]; rfl⟩, by omega, by omega, by omega, by omega⟩
    case round =>
      obtain ⟨k, n, rfl, rfl, hk1, hk2, rfl, HF, q1, q2, q3, q4⟩ := hrel; by_cases hk : k = 3
      · subst hk
        have e : R = n := by
          rw [← HR.out, ← HF.out, nmb, HN0.out]
          congr 1
          rw [List.take_of_length_le (by rw [List.length_drop, sl_len]; omega)]
        subst e; go_wp2_with fail; go_ret; exact ⟨rfl, rfl⟩
      · obtain ⟨c, hc⟩ := HA.out k (by omega); have hix2 := idx9' x k c (by omega) hc; obtain ⟨y, hy⟩ : ∃ y : Int, (c.toNat : Int) = y := ⟨_, rfl⟩; (have hy0 : 0 ≤ y := by omega); have hy1 : y < 256 := by have := c.toNat_lt; omega
        rw [hy] at hix2
        have HF2 : Kp ((((sl x).drop 1).take (k + 1 - 1)).foldl nst N0 = 64 * n + y - 128) := ⟨by
          rw [show k + 1 - 1 = (k - 1) + 1 by omega, List.take_add_one, List.getElem?_drop, show 1 + (k - 1) = k by omega, hc, List.foldl_append, HF.out]
          simp [nst, hy]⟩
        (have hnb2 : -2000000 ≤ n ∧ n ≤ 2000000 := by omega); have HQ : Kp ((k + 1 = 1 → -300 ≤ 64 * n + y - 128 ∧ 64 * n + y - 128 ≤ 300) ∧ (k + 1 = 2 → -20000 ≤ 64 * n + y - 128 ∧ 64 * n + y - 128 ≤ 20000) ∧ (k + 1 = 3 → -2000000 ≤ 64 * n + y - 128 ∧ 64 * n + y - 128 ≤ 2000000) ∧ (k + 1 = 4 → -200000000 ≤ 64 * n + y - 128 ∧ 64 * n + y - 128 ≤ 200000000)) := ⟨by omega⟩; clear hy hc q1 q2 q3 q4 HF; go_wp2_with fail
        go_roundw
        case rel => exact ⟨k + 1, _, by simp, rfl, by omega, by omega, (by first | rfl | trivial), HF2, HQ.out.1, HQ.out.2.1, HQ.out.2.2.1, HQ.out.2.2.2⟩
        case measure => simp [intOf]; omega
  have hne3 : x.size ≠ 3 := hsz; clear hsz; have hsz : x.size = 4 := by omega
  clear hne1 hne2 hne3; have e : N0 = z - 240 := by rw [HN1.out]; simp [hsz]
  have HE := Kp.mk e; clear e; go_wp2_with fail
  go_loopw [3, 4] (fun v i w' => ∃ (k : Nat) (n : Int), i = .int .i64 k ∧ v = .int .i64 n ∧ 1 ≤ k ∧ k ≤ 4 ∧ w' = w ∧ Kp ((((sl x).drop 1).take (k - 1)).foldl nst N0 = n) ∧ (k = 1 → -300 ≤ n ∧ n ≤ 300) ∧ (k = 2 → -20000 ≤ n ∧ n ≤ 20000) ∧ (k = 3 → -2000000 ≤ n ∧ n ≤ 2000000) ∧ (k = 4 → -200000000 ≤ n ∧ n ≤ 200000000)) (fun _ i _ => 4 - (intOf i).toNat)
  case atStart => exact ⟨1, z - 240, rfl, rfl, by omega, by omega, rfl, ⟨by rw [HE.out]; rfl⟩, by omega, by omega, by omega, by omega⟩
  case round =>
    obtain ⟨k, n, rfl, rfl, hk1, hk2, rfl, HF, q1, q2, q3, q4⟩ := hrel; by_cases hk : k = 4
    · subst hk
      have e : R = n := by
        rw [← HR.out, ← HF.out, nmb, HN0.out]
        congr 1
        rw [List.take_of_length_le (by rw [List.length_drop, sl_len]; omega)]
      subst e; go_wp2_with fail; go_ret; exact ⟨rfl, rfl⟩
    · obtain ⟨c, hc⟩ := HA.out k (by omega); have hix2 := idx9' x k c (by omega) hc; obtain ⟨y, hy⟩ : ∃ y : Int, (c.toNat : Int) = y := ⟨_, rfl⟩; (have hy0 : 0 ≤ y := by omega); have hy1 : y < 256 := by have := c.toNat_lt; omega
      rw [hy] at hix2
      have HF2 : Kp ((((sl x).drop 1).take (k + 1 - 1)).foldl nst N0 = 64 * n + y - 128) := ⟨by
        rw [show k + 1 - 1 = (k - 1) + 1 by omega, List.take_add_one, List.getElem?_drop, show 1 + (k - 1) = k by omega, hc, List.foldl_append, HF.out]
        simp [nst, hy]⟩
      (have hnb2 : -2000000 ≤ n ∧ n ≤ 2000000 := by omega); have HQ : Kp ((k + 1 = 1 → -300 ≤ 64 * n + y - 128 ∧ 64 * n + y - 128 ≤ 300) ∧ (k + 1 = 2 → -20000 ≤ 64 * n + y - 128 ∧ 64 * n + y - 128 ≤ 20000) ∧ (k + 1 = 3 → -2000000 ≤ 64 * n + y - 128 ∧ 64 * n + y - 128 ≤ 2000000) ∧ (k + 1 = 4 → -200000000 ≤ 64 * n + y - 128 ∧ 64 * n + y - 128 ≤ 200000000)) := ⟨by omega⟩; clear hy hc q1 q2 q3 q4 HF; go_wp2_with fail
      go_roundw
      case rel => exact ⟨k + 1, _, by simp, rfl, by omega, by omega, (by first | rfl | trivial), HF2, HQ.out.1, HQ.out.2.1, HQ.out.2.2.1, HQ.out.2.2.2⟩
      case measure => simp [intOf]; omega
theorem info5 : ∃ i, prog.info? 5 = some i ∧ i.size = 1 ∧ i.bytes = 1 ∧ i.zero = some (.int .u8 0) := ⟨_, rfl, by kernel_rfl, by kernel_rfl, by kernel_rfl⟩
abbrev bvs (l : List UInt8) : List Value := l.map fun x => bv x
abbrev Row (B : Nat) (w : World) (v : Value) (xs : List UInt8) : Prop := w.ownsRow B 5 1 v xs.length (bvs xs)
def Src (w : World) (A : Option Addr) (m c : Nat) (ys : List UInt8) : Prop := m = ys.length ∧ m ≤ c ∧ (A = none → c = 0) ∧ ∀ ad, A = some ad → ∀ (j : Nat) x, ys[j]? = some x → w.cell? (ad.add j) = some (bv x)
theorem Row.lt {B : Nat} {w : World} {v : Value} {xs : List UInt8} (h : Row B w v xs) {k : Nat} (e : v.ownBlock = some k) : B ≤ k ∧ k < w.heap.size := by
  obtain ⟨_, h2⟩ := h; rcases h2 with ⟨rfl, _⟩ | ⟨g, cap, cur, rfl, a, b, c⟩
  · cases e
  · cases e; exact ⟨a, (Array.getElem?_eq_some_iff.1 b).1⟩
theorem Row.kept {B : Nat} {w w' : World} {v : Value} {xs : List UInt8} {row : Option Nat} (h : Row B w v xs) (hg : w.grownBy w' row) (hne : ∀ k, v.ownBlock = some k → row ≠ some k) : Row B w' v xs := by
  have hl : ∀ k, v.ownBlock = some k → k < w.heap.size := fun k e => (Row.lt h e).2
  obtain ⟨h1, h2⟩ := h; refine ⟨h1, ?_⟩; rcases h2 with h2 | ⟨g, cap, cur, rfl, a, b, c⟩
  · exact .inl h2
  · exact .inr ⟨g, cap, cur, rfl, a, by rw [hg.block g (hl g rfl) (fun e => hne g rfl e.symm), b], c⟩
theorem Row.nil (B : Nat) (w : World) : Row B w (.slice none 0 0) [] := ⟨rfl, .inl ⟨rfl, rfl⟩⟩
theorem Src.kept {w w' : World} {A : Option Addr} {m c : Nat} {ys : List UInt8} {row : Option Nat} (h : Src w A m c ys) (hg : w.grownBy w' row) (hne : ∀ ad, A = some ad → row ≠ some ad.block) : Src w' A m c ys := by
  refine ⟨h.1, h.2.1, h.2.2.1, fun ad e j x hx => ?_⟩; have := h.2.2.2 ad e j x hx; have hb : (ad.add j).block = ad.block := by unfold Addr.add; split <;> rfl
  exact hg.cell this (by rw [hb]; exact fun e2 => hne ad e e2.symm)
theorem add_zero' (a : Addr) : a.add 0 = a := by
  unfold Addr.add; split <;> simp_all
theorem Src.take {w : World} {A : Option Addr} {m c : Nat} {ys : List UInt8} (h : Src w A m c ys) (p : Nat) (hp : p ≤ m) : Src w A p c (ys.take p) := by
  obtain ⟨h1, h2, h3, h4⟩ := h; refine ⟨by rw [List.length_take]; omega, by omega, h3, fun ad e j x hx => ?_⟩; rw [List.getElem?_take] at hx; split at hx
  · exact h4 ad e j x hx
  · cases hx
theorem under54 : prog.underlying 152 = some (.slice 155) := by kernel_rfl
theorem info75 : ∃ i, prog.info? 155 = some i ∧ i.size = 2 ∧ i.bytes = 24 ∧ i.zero = some (.agg #[.int .i64 0, .string ⟨#[]⟩]) := ⟨_, rfl, by kernel_rfl, by kernel_rfl, by kernel_rfl⟩
def pcs (ps : List (Nat × List UInt8)) : List Value := ps.flatMap fun p => [.int .i64 (p.1 : Int), .string (mk p.2)]
theorem pcs_app (a b : List (Nat × List UInt8)) : pcs (a ++ b) = pcs a ++ pcs b := by simp [pcs]
abbrev RowP (B : Nat) (w : World) (v : Value) (ps : List (Nat × List UInt8)) : Prop := w.ownsRow B 155 2 v ps.length (pcs ps)
theorem RowP.lt {B : Nat} {w : World} {v : Value} {ps : List (Nat × List UInt8)} (h : RowP B w v ps) {k : Nat} (e : v.ownBlock = some k) : B ≤ k ∧ k < w.heap.size := by
  obtain ⟨_, h2⟩ := h; rcases h2 with ⟨rfl, _⟩ | ⟨g, cap, cur, rfl, a, b, c⟩
  · cases e
  · cases e; exact ⟨a, (Array.getElem?_eq_some_iff.1 b).1⟩
theorem RowP.kept {B : Nat} {w w' : World} {v : Value} {ps : List (Nat × List UInt8)} (h : RowP B w v ps) (hg : w.grownBy w' none) : RowP B w' v ps := by
  have hl : ∀ k, v.ownBlock = some k → k < w.heap.size := fun k e => (RowP.lt h e).2
  obtain ⟨h1, h2⟩ := h; refine ⟨h1, ?_⟩; rcases h2 with h2 | ⟨g, cap, cur, rfl, a, b, c⟩
  · exact .inl h2
  · exact .inr ⟨g, cap, cur, rfl, a, by rw [hg.block g (hl g rfl) (by simp), b], c⟩
theorem RowP.nil (B : Nat) (w : World) : RowP B w (.slice none 0 0) [] := ⟨rfl, .inl ⟨rfl, rfl⟩⟩
theorem app_piece {w0 w : World} {v : Value} {ps : List (Nat × List UInt8)} (h : RowP w0.heap.size w v ps) (hg : w0.grownBy w none) (p : Nat × List UInt8) (hz : ps.length ≤ 2000000) :
    ∃ v' w', Kp ((Builtin.append_ #[152, 152] 152 #[v, .slice (some ⟨w.heap.size, 0, none⟩) 1 1]).run prog (w.alloc (.cells #[.int .i64 (p.1 : Int), .string (mk p.2)] 155)) = .ok v' w') ∧ Kp (RowP w0.heap.size w' v' (ps ++ [p])) ∧ Kp (w0.grownBy w' none) := by
  obtain ⟨i, h1, h2, h3, h4⟩ := info75; have ga := gAl w (.cells #[.int .i64 (p.1 : Int), .string (mk p.2)] 155) none; have h' := h.kept ga
  obtain ⟨v', w', r1, r2, r3, _, r5⟩ := run_append_own_at (P := prog) _ w0.heap.size 152 152 155 i (.agg #[.int .i64 0, .string ⟨#[]⟩]) 2 24 under54 h1 h4 h2 h3 rfl (by decide) v ps.length _ h' ⟨w.heap.size, 0, none⟩ 1 1 [.int .i64 (p.1 : Int), .string (mk p.2)] rfl (fun j u hu => by
      rw [Addr.add_mid, Nat.zero_add]
      exact (Has.newA w #[.int .i64 (p.1 : Int), .string (mk p.2)] 155).cellv j _ hu) (fun u hu => by simp at hu; rcases hu with rfl | rfl <;> rfl) (by unfold maxLen; omega) (by omega) (Nat.le_trans hg.size ga.size)
  refine ⟨v', w', ⟨r1⟩, ⟨?_⟩, ⟨?_⟩⟩
  · (have e : pcs ps ++ [.int .i64 (p.1 : Int), .string (mk p.2)] = pcs (ps ++ [p]) := by rw [pcs_app]; rfl); rw [e] at r2; unfold RowP; rw [List.length_append]; exact r2
  · have hg1 := hg.trans ga; cases hv : v.ownBlock with
    | none => rw [hv] at r3; exact hg1.trans r3
    | some q => rw [hv] at r3; exact gr_new hg1 r3 (h.lt hv).1
theorem wpList_append_runP {P : Program} (w : World) {ops : Array Oper} {rest : List Oper} {o : Oper} {a : Act} {Q : Exit → Act → World → Prop} (hgd : o.guard = none) (s x : Operand) (t u : TypeId)
    (ho : o.op = .call { callee := .builtin .append, args := #[s, x], argTypes := #[t, u] }) (v y : Value) (hs : a.eval s = v) (hx : a.eval x = y) {v' : Value} {w' : World}
    (hr : (Builtin.append_ #[t, u] o.type #[v, y]).run P w = .ok v' w') (h : wpList P ops Q rest (a.put o.dst v') w') : wpList P ops Q (o :: rest) a w :=
  wpList_plain hgd fun _ hK => by
    unfold Oper.wp execOp; simp only [ho, resolve, invoke, builtin, Sem.run_bind, Sem.run_pure, Result.andThen_ok, List.map_toArray, List.map_cons, List.map_nil, hs, hx, hr]; exact hK _ _ h
theorem wp_append_run {P : Program} {o : Oper} {a : Act} {w : World} {K : Act → World → Prop} {Q : Exit → Act → World → Prop} (s x : Operand) (t u : TypeId)
    (ho : o.op = .call { callee := .builtin .append, args := #[s, x], argTypes := #[t, u] }) (v y : Value) (hs : a.eval s = v) (hx : a.eval x = y) {v' : Value} {w' : World}
    (hr : (Builtin.append_ #[t, u] o.type #[v, y]).run P w = .ok v' w') (h : K (a.put o.dst v') w') : o.wp P a w K Q := by
  unfold Oper.wp execOp; simp only [ho, resolve, invoke, builtin, Sem.run_bind, Sem.run_pure, Result.andThen_ok, List.map_toArray, List.map_cons, List.map_nil, hs, hx, hr]; exact h
theorem slice9 (s : ByteArray) (i j : Nat) (hj : j ≤ s.size) (hij : i ≤ j) (W : World) : (Instr.slice 9 (.string s) (some (.int .i64 (i : Int))) (some (.int .i64 (j : Int))) none).run prog W = .ok (.string (s.extract i j)) W := by
  rw [run_slice_string_if W 9 s .i64 .i64 i j under9, if_pos ⟨by omega, by omega⟩, if_pos ⟨by omega, by omega⟩]; rfl
theorem piece_ext {s : ByteArray} {k : Nat} {p : Nat × List UInt8} (hp : (pieces (sl s))[k]? = some p) : s.extract (posn s k) (posn s (k + 1)) = mk p.2 := by
  obtain ⟨h1, h2, h3, h4, h5, h6, h7⟩ := piece_len hp; apply sl_inj; rw [sl_ext, sl_mk, ← h7, List.drop_take]; unfold posn; rw [h5]
  congr 1
  omega
theorem all_c (s : ByteArray) (w : World) (hs : s.size ≤ 1048576) :
    Calls prog 104 #[.string s] w fun e w' => ∃ v, e = .returned v ∧ RowP w.heap.size w' v (pieces (sl s)) ∧ w.grownBy w' none := by
  have hrn := rn_le s; go_enter func104, ntmps104; go_wp2_with fail
  go_loopw [3, 4] (fun v i w' => ∃ k : Nat, i = .int .i64 (posn s k) ∧ k ≤ rn s ∧ Kp (RowP w.heap.size w' v ((pieces (sl s)).take k)) ∧ Kp (w.grownBy w' none)) (fun _ i _ => s.size - (intOf i).toNat)
  case atStart => exact ⟨0, rfl, Nat.zero_le _, ⟨RowP.nil _ _⟩, ⟨World.grownBy.refl _ _⟩⟩
  case round =>
    obtain ⟨k, rfl, hk1, HR, HG⟩ := hrel; by_cases hk : k = rn s
    · (have hpe : posn s k = s.size := by rw [hk]; exact posn_end s); have HRE : Kp (RowP w.heap.size wr u3 (pieces (sl s))) := ⟨by have := HR.out; rwa [hk, rn, List.take_length] at this⟩; rw [hpe]; clear hpe HR hk; go_wp2_with fail; go_ret; exact ⟨_, rfl, HRE.out, HG.out⟩
    · obtain ⟨p, hp⟩ : ∃ p, (pieces (sl s))[k]? = some p := ⟨_, List.getElem?_eq_getElem (show k < (pieces (sl s)).length by unfold rn at hk hk1; omega)⟩; obtain ⟨l1, l2, l3, l4, l5, l6, l7⟩ := piece_len hp; have hx := piece_ext hp; obtain ⟨P1, hP1⟩ : ∃ q, posn s k = q := ⟨_, rfl⟩; obtain ⟨P2, hP2⟩ : ∃ q, posn s (k + 1) = q := ⟨_, rfl⟩; rw [show (flat ((pieces (sl s)).take k)).length = posn s k from rfl, hP1] at l3 l4 l5 l7; rw [show (flat ((pieces (sl s)).take (k + 1))).length = posn s (k + 1) from rfl, hP2] at l5 l6; rw [hP1, hP2] at hx; rw [sl_len] at l4 l6; have HP2 := Kp.mk hP2; rw [hP1]; obtain ⟨b, hb⟩ : ∃ b, (sl s)[P1]? = some b := ⟨_, List.getElem?_eq_getElem (by rw [sl_len]; exact l4)⟩
      have hdr : (sl s).drop P1 = b :: (sl s).drop (P1 + 1) := by
        rw [List.drop_eq_getElem_cons (by rw [sl_len]; exact l4)]
        congr 1
        exact (List.getElem?_eq_some_iff.1 hb).2
      have hspec := szr_spec b ((sl s).drop (P1 + 1)); rw [← hdr, l3, ← szr_drop] at hspec; have hsz := size_c s P1 b; have HSZ := Kp.mk (fun ww => hsz ww l4 (by omega) hb); (have hlk : ((pieces (sl s)).take k).length ≤ 2000000 := by rw [List.length_take]; unfold rn at hrn; omega); have HLK := Kp.mk hlk; have HAE : Kp ((pieces (sl s)).take k ++ [p] = (pieces (sl s)).take (k + 1)) := ⟨by rw [List.take_add_one, hp]; rfl⟩; have HP := Kp.mk hp; have HL := Kp.mk l7; clear hsz hb hdr hP1 hP2 l3 l7 hp hk hlk; go_wp2_with fail; refine (HSZ.out wr).mono ?_; rintro e wq ⟨rfl, hwq⟩; subst hwq; rcases hspec with ⟨d1, d2, d3⟩ | ⟨d3, d4⟩
      · have e1 : p.1 = 65533 := congrArg Prod.fst d1; have e2 : p.2.length = 1 := congrArg Prod.snd d1; rw [d3]; obtain ⟨v', w', HA1, HA2, HA3⟩ := app_piece HR.out HG.out p HLK.out; rw [HAE.out] at HA2; rw [e1] at HA1; rw [show P2 = P1 + 1 by omega] at hx; have HX := Kp.mk l5; clear d1 d2 d3 HSZ l5 e1
        go_wp2_with (at_builtin; refine wpList_append_runP _ rfl (.tmp 15) (.tmp 22) 152 152 rfl _ _ rfl rfl HA1.out ?_)
        go_roundw
        case rel => exact ⟨k + 1, by rw [HP2.out]; simp; have := HX.out; omega, by unfold rn; have := (List.getElem?_eq_some_iff.1 HP.out).1; omega, HA2, HA3⟩
        case measure => simp [intOf]; omega
      · rw [d3]; have hg1 := gr_drew wq none; obtain ⟨v', w', HA1, HA2, HA3⟩ := app_piece (HR.out.kept hg1) (HG.out.trans hg1) p HLK.out; rw [HAE.out] at HA2; obtain ⟨m, hm⟩ : ∃ m, p.2.length = m := ⟨_, rfl⟩; rw [hm] at l1 l2 l5 d4 HL ⊢; have HNB : Kp (nmb (sl (mk p.2)) = (p.1 : Int)) := ⟨by rw [sl_mk, ← HL.out]; exact d4⟩; (have hzx : (mk p.2).size = m := by rw [mk_size, hm]); have hPP : (P1 : Int) + m = P2 := by omega
        have hsl : ∀ W, (Instr.slice 9 (.string s) (some (.int .i64 (P1 : Int))) (some (.int .i64 (P2 : Int))) none).run prog W = .ok (.string (mk p.2)) W := fun W => by
          rw [← hx, slice9 s P1 P2 (by omega) (by omega)]
        obtain ⟨X, hX⟩ : ∃ X, mk p.2 = X := ⟨_, rfl⟩; rw [hX] at HA1 HNB hzx hsl; (have hm0 : ¬ (m : Int) = 0 := by omega); have HM : Kp (P2 = P1 + m) := ⟨l5⟩; clear hX hm hx d3 d4 HSZ HL HR HG HLK HAE l5; (have hw64 : IntKind.i64.wrap ((P1 : Int) + m) = P2 := by rw [hPP]; simp [IntKind.wrap, show IntKind.i64.bits = 64 from rfl]; omega); clear hPP
        go_upto_region 8 with fail
        refine wp_region_held_drew (S := fun _ => True) (by kernel_rfl) trivial (fun hHeld => ?_); refine hq 0 rfl ?_; refine hq 1 rfl ?_; refine hq 2 rfl ?_; refine hq 3 rfl ?_; refine hq 4 rfl ?_; refine hq 5 rfl ?_; refine hq 6 rfl ?_; refine hq 8 rfl ?_; refine hq 9 rfl ?_; refine hq 10 rfl ?_; refine hq 11 rfl ?_; refine hq 12 rfl ?_; refine hq 13 rfl ?_; simp only [Act.put, uz]; refine ha 7 (fun K hK => ?_) (ho := rfl); go_simp
        go_wp2_with (go_at_call 166; refine (number_c X _ (by omega) (by omega)).mono ?_; rintro e wz ⟨rfl, hwz⟩; subst hwz; rw [HNB.out])
        refine hK.out _ _ trivial (fun hHeld => ?_); clear hK K; refine hq 14 rfl ?_; simp only [Act.put, uz]; refine ha 15 (fun K hK => ?_) (ho := rfl); go_simp; refine hK.out _ _ trivial (fun hHeld => ?_); clear hK K; refine ha 16 (fun K hK => ?_) (ho := rfl); refine wp_append_run (.tmp 26) (.tmp 41) 152 152 rfl _ _ rfl rfl HA1.out ?_; refine hK.out _ _ trivial (fun hHeld => ?_); clear hK K; refine hq 17 rfl ?_; simp only [Act.put, uz]; refine hd_ ?_; clear hHeld; go_wp2_with fail
        go_roundw
        case rel => exact ⟨k + 1, by rw [HP2.out], by unfold rn; have := (List.getElem?_eq_some_iff.1 HP.out).1; omega, HA2, HA3⟩
        case measure => simp [intOf]; have := HM.out; omega
theorem eqS (x y : List UInt8) : ((mk x).toList == (mk y).toList) = decide (x = y) := by
  rw [ByteArray.toList_eq, ByteArray.toList_eq]; simp only [mk]; by_cases h : x = y
  · rw [decide_eq_true h, h]; simp
  · rw [decide_eq_false h]; simpa using h
theorem sl_at (s : ByteArray) (i : Nat) (h : i < s.size) : (sl s)[i]? = some s[i] := by
  unfold sl; rw [Array.getElem?_toList]; exact Array.getElem?_eq_getElem h
theorem idx9 (s : ByteArray) (i : Nat) (y : UInt8) (h : i < s.size) (hy : (sl s)[i]? = some y) (W : World) : (Instr.index 9 (.string s) (.int .i64 (i : Int))).run prog W = .ok (.int .u8 y.toNat) W := by
  rw [run_index_string W 9 s .i64 i (by kernel_rfl), dif_pos ⟨by omega, by omega⟩]; rw [sl_at s i h] at hy; simp only [Int.toNat_natCast, Option.some.inj hy]
def SrcP (w : World) (A : Option Addr) (n c : Nat) (ps : List (Nat × List UInt8)) : Prop := n = ps.length ∧ n ≤ c ∧ (A = none → c = 0) ∧ ∀ ad, A = some ad → ∃ b o, ad = ⟨b, o, none⟩ ∧ ∀ (j : Nat) p, ps[j]? = some p → w.cell? ⟨b, o + j * 2, none⟩ = some (.int .i64 (p.1 : Int)) ∧ w.cell? ⟨b, o + j * 2 + 1, none⟩ = some (.string (mk p.2))
theorem pcs_get (ps : List (Nat × List UInt8)) (j : Nat) (p : Nat × List UInt8) (h : ps[j]? = some p) : (pcs ps)[j * 2]? = some (.int .i64 (p.1 : Int)) ∧ (pcs ps)[j * 2 + 1]? = some (.string (mk p.2)) := by
  induction ps generalizing j with
  | nil => simp at h
  | cons q r ih =>
    have e : pcs (q :: r) = .int .i64 (q.1 : Int) :: .string (mk q.2) :: pcs r := rfl; rw [e]; cases j with
    | zero => simp at h; subst h; exact ⟨rfl, rfl⟩
    | succ j =>
      have := ih j (by simpa using h); rw [show (j + 1) * 2 = j * 2 + 2 by omega]; exact this
theorem RowP.src {B : Nat} {w : World} {v : Value} {ps : List (Nat × List UInt8)} (h : RowP B w v ps) : ∃ A c, v = .slice A ps.length c ∧ SrcP w A ps.length c ps := by
  have hc := fun g (hv : v.ownBlock = some g) => World.ownsRow.cells (w := w) h (g := g) hv
  obtain ⟨h1, h2⟩ := h; rcases h2 with ⟨rfl, h0⟩ | ⟨g, cap, cur, rfl, hb, hheap, h1, h2, h3, h4⟩
  · exact ⟨none, 0, by rw [h0], rfl, by omega, fun _ => rfl, fun _ e => (by cases e)⟩
  · refine ⟨_, cap, rfl, rfl, h1, fun e => (by cases e), fun ad e => ?_⟩; cases e; refine ⟨g, 0, rfl, fun j p hp => ?_⟩; obtain ⟨q1, q2⟩ := pcs_get ps j p hp; have a1 := hc g rfl _ _ q1; have a2 := hc g rfl _ _ q2; rw [Addr.add_mid] at a1 a2; rw [← Nat.add_assoc] at a2; exact ⟨a1, a2⟩
theorem SrcP.kept {w w' : World} {A : Option Addr} {n c : Nat} {ps : List (Nat × List UInt8)} (h : SrcP w A n c ps) (hg : w.grownBy w' none) : SrcP w' A n c ps := by
  refine ⟨h.1, h.2.1, h.2.2.1, fun ad e => ?_⟩; obtain ⟨b, o, e1, h2⟩ := h.2.2.2 ad e; exact ⟨b, o, e1, fun j p hp => ⟨hg.cell (h2 j p hp).1 (by simp), hg.cell (h2 j p hp).2 (by simp)⟩⟩
def gdI (n : Int) : Prop := (97 ≤ n ∧ n ≤ 122) ∨ (65 ≤ n ∧ n ≤ 90) ∨ (48 ≤ n ∧ n ≤ 57) ∨ n = 95 ∨ n = 45 ∨ (192 ≤ n ∧ n ≤ 255 ∧ n ≠ 215 ∧ n ≠ 247) ∨ (945 ≤ n ∧ n ≤ 969)
instance (n : Int) : Decidable (gdI n) := by unfold gdI; exact inferInstance
theorem gd_fnd (n : Nat) : (fnd n).isSome = decide (gdI n) := by
  rw [Bool.eq_iff_iff, fnd_good, decide_eq_true_eq]; unfold gdI; omega
theorem good_c (n : Int) (w : World) (hn : 0 ≤ n) : CRs 105 #[iv n] w (.bool (decide (gdI n))) := by
  go_enter func105, ntmps105; obtain ⟨G, hG⟩ : ∃ G, decide (gdI n) = G := ⟨_, rfl⟩; rw [hG]; have HG := Kp.mk hG; clear hG; by_cases i0 : n < 45
  case pos =>
    (have e : G = false := by rw [← HG.out]; exact decide_eq_false (by unfold gdI; omega)); subst e; go_wp2_with fail; go_ret; exact ⟨by first | rfl | (simp; omega), rfl⟩
  case neg =>
  by_cases i1 : n < 46
  case pos =>
    (obtain rfl : n = 45 := by omega); (have e : G = true := by rw [← HG.out]; exact decide_eq_true (by unfold gdI; omega)); subst e; go_wp2_with fail; go_ret; exact ⟨by first | rfl | (simp; omega), rfl⟩
  case neg =>
  by_cases i2 : n < 48
  case pos =>
    (have e : G = false := by rw [← HG.out]; exact decide_eq_false (by unfold gdI; omega)); subst e; go_wp2_with fail; go_ret; exact ⟨by first | rfl | (simp; omega), rfl⟩
  case neg =>
  by_cases i3 : n < 58
  case pos =>
    (have e : G = true := by rw [← HG.out]; exact decide_eq_true (by unfold gdI; omega)); subst e; go_wp2_with fail; go_ret; exact ⟨by first | rfl | (simp; omega), rfl⟩
  case neg =>
  by_cases i4 : n < 65
  case pos =>
    (have e : G = false := by rw [← HG.out]; exact decide_eq_false (by unfold gdI; omega)); subst e; go_wp2_with fail; go_ret; exact ⟨by first | rfl | (simp; omega), rfl⟩
  case neg =>
  by_cases i5 : n < 91
  case pos =>
    (have e : G = true := by rw [← HG.out]; exact decide_eq_true (by unfold gdI; omega)); subst e; go_wp2_with fail; go_ret; exact ⟨by first | rfl | (simp; omega), rfl⟩
  case neg =>
  by_cases i6 : n < 95
  case pos =>
    (have e : G = false := by rw [← HG.out]; exact decide_eq_false (by unfold gdI; omega)); subst e; go_wp2_with fail; go_ret; exact ⟨by first | rfl | (simp; omega), rfl⟩
  case neg =>
  by_cases i7 : n < 96
  case pos =>
    (obtain rfl : n = 95 := by omega); (have e : G = true := by rw [← HG.out]; exact decide_eq_true (by unfold gdI; omega)); subst e; go_wp2_with fail; go_ret; exact ⟨by first | rfl | (simp; omega), rfl⟩
  case neg =>
  by_cases i8 : n < 97
  case pos =>
    (obtain rfl : n = 96 := by omega); (have e : G = false := by rw [← HG.out]; exact decide_eq_false (by unfold gdI; omega)); subst e; go_wp2_with fail; go_ret; exact ⟨by first | rfl | (simp; omega), rfl⟩
  case neg =>
  by_cases i9 : n < 123
  case pos =>
    (have e : G = true := by rw [← HG.out]; exact decide_eq_true (by unfold gdI; omega)); subst e; go_wp2_with fail; go_ret; exact ⟨by first | rfl | (simp; omega), rfl⟩
  case neg =>
  by_cases i10 : n < 192
  case pos =>
    (have e : G = false := by rw [← HG.out]; exact decide_eq_false (by unfold gdI; omega)); subst e; go_wp2_with fail; go_ret; exact ⟨by first | rfl | (simp; omega), rfl⟩
  case neg =>
  by_cases i11 : n < 215
  case pos =>
    (have e : G = true := by rw [← HG.out]; exact decide_eq_true (by unfold gdI; omega)); subst e; go_wp2_with fail; go_ret; exact ⟨by first | rfl | (simp; omega), rfl⟩
  case neg =>
  by_cases i12 : n < 216
  case pos =>
    (obtain rfl : n = 215 := by omega); (have e : G = false := by rw [← HG.out]; exact decide_eq_false (by unfold gdI; omega)); subst e; go_wp2_with fail; go_ret; exact ⟨by first | rfl | (simp; omega), rfl⟩
  case neg =>
  by_cases i13 : n < 247
  case pos =>
    (have e : G = true := by rw [← HG.out]; exact decide_eq_true (by unfold gdI; omega)); subst e; go_wp2_with fail; go_ret; exact ⟨by first | rfl | (simp; omega), rfl⟩
  case neg =>
  by_cases i14 : n < 248
  case pos =>
    (obtain rfl : n = 247 := by omega); (have e : G = false := by rw [← HG.out]; exact decide_eq_false (by unfold gdI; omega)); subst e; go_wp2_with fail; go_ret; exact ⟨by first | rfl | (simp; omega), rfl⟩
  case neg =>
  by_cases i15 : n < 256
  case pos =>
    (have e : G = true := by rw [← HG.out]; exact decide_eq_true (by unfold gdI; omega)); subst e; go_wp2_with fail; go_ret; exact ⟨by first | rfl | (simp; omega), rfl⟩
  case neg =>
  by_cases i16 : n < 945
  case pos =>
    (have e : G = false := by rw [← HG.out]; exact decide_eq_false (by unfold gdI; omega)); subst e; go_wp2_with fail; go_ret; exact ⟨by first | rfl | (simp; omega), rfl⟩
  case neg =>
  by_cases i17 : n < 970
  case pos =>
    (have e : G = true := by rw [← HG.out]; exact decide_eq_true (by unfold gdI; omega)); subst e; go_wp2_with fail; go_ret; exact ⟨by first | rfl | (simp; omega), rfl⟩
  case neg =>
  have e : G = false := by rw [← HG.out]; exact decide_eq_false (by unfold gdI; omega)
  subst e; go_wp2_with fail; go_ret; exact ⟨by first | rfl | (simp; omega), rfl⟩
theorem rcheck_c (s : ByteArray) (w : World) (hs : s.size ≤ 1048576) : CRt 53 #[.string s] w (iv (chk s)) := by
  have hrn := rn_le s; go_enter func53, ntmps53; go_wp2_with fail; refine (all_c s _ hs).mono ?_; rintro e w1 ⟨v, rfl, hR, hG⟩; obtain ⟨A, c, rfl, hS⟩ := hR.src; have HG := Kp.mk hG; have HS := Kp.mk hS; clear hR hG hS; obtain ⟨L, hL⟩ : ∃ L, pieces (sl s) = L := ⟨_, rfl⟩; have HL : Kp (pieces (sl s) = L) := ⟨hL⟩; have hrl : rn s = L.length := by unfold rn; rw [hL]
  rw [hL] at HS ⊢; clear hL
  have hz : s.size = 0 ↔ L.length = 0 := by
    constructor
    · intro h; omega
    · intro h; have := posn_end s; rw [hrl, h] at this; exact this.symm
  by_cases h1 : L.length < 1
  · have HC : Kp (chk s = 60) := ⟨chk_no (by intro h; simp only [chkOK, Bool.and_eq_true, decide_eq_true_eq] at h; exact h.1.1.1 (hz.2 (by omega)))⟩; clear hz; go_wp2_with fail; go_ret; rw [HC.out]; exact ⟨rfl, HG.out⟩
  by_cases h2 : 12 < L.length
  · have HC : Kp (chk s = 60) := ⟨chk_no (by simp [chkOK]; intro _ _ h; omega)⟩; clear hz; go_wp2_with fail; go_ret; rw [HC.out]; exact ⟨rfl, HG.out⟩
  by_cases h3 : 24 < s.size
  · have HC : Kp (chk s = 60) := ⟨chk_no (by simp [chkOK]; intro _ h; omega)⟩; clear hz; go_wp2_with fail; go_ret; rw [HC.out]; exact ⟨rfl, HG.out⟩
  have hs0 : s.size ≠ 0 := by omega
  have HRL := Kp.mk hrl; clear hz hrl; go_wp2_with fail
  go_loopw [4] (fun i w' => ∃ k : Nat, i = .int .i64 k ∧ k ≤ L.length ∧ w' = w1 ∧ Kp (∀ p ∈ L.take k, (fnd p.1).isSome = true)) (fun i _ => L.length - (intOf i).toNat)
  case atStart => exact ⟨0, rfl, Nat.zero_le _, rfl, ⟨by simp⟩⟩
  case round =>
    obtain ⟨k, rfl, hk1, rfl, HA⟩ := hrel; by_cases hk : k = L.length
    · have HC : Kp (chk s = 0) := ⟨by
        unfold chk; rw [if_pos]; have hA := HA.out; rw [hk, List.take_length] at hA; simp only [chkOK, Bool.and_eq_true, decide_eq_true_eq, List.all_eq_true]; rw [HRL.out, HL.out]
        exact ⟨⟨⟨hs0, by omega⟩, by omega⟩, hA⟩⟩
      subst hk; go_wp2_with fail; go_ret; rw [HC.out]; exact ⟨rfl, HG.out⟩
    · obtain ⟨p, hp⟩ : ∃ p, L[k]? = some p := ⟨_, List.getElem?_eq_getElem (by omega)⟩; cases A with
      | none => have := HS.out.2.2.1 rfl; have := HS.out.2.1; omega
      | some ad =>
        obtain ⟨b, o, rfl, hcs⟩ := HS.out.2.2.2 ad rfl; obtain ⟨c1, c2⟩ := hcs k p hp; (have hkl : k < L.length := by omega); have HP := Kp.mk hp; clear hcs hp hk; go_wp2_with fail; refine (good_c p.1 _ (by omega)).mono ?_; rintro e wq ⟨rfl, hwq⟩; subst hwq; by_cases hf : (fnd p.1).isSome = true
        · rw [← gd_fnd, hf]
          have HA2 : Kp (∀ p ∈ L.take (k + 1), (fnd p.1).isSome = true) := ⟨by
            rw [List.take_add_one, HP.out]; intro q hq; rcases List.mem_append.1 hq with hq | hq
            · exact HA.out q hq
            · simp at hq; subst hq; exact hf⟩
          clear hf; go_wp2_with fail
          go_roundw
          case rel => exact ⟨k + 1, by simp, by omega, (by first | rfl | trivial), HA2⟩
          case measure => simp [intOf]; omega
        · (have hf' : (fnd p.1).isSome = false := by simpa using hf); rw [← gd_fnd, hf']
          have HC : Kp (chk s = 60) := ⟨chk_no (by
            intro h; simp only [chkOK, Bool.and_eq_true, List.all_eq_true] at h
            exact hf (h.2 p (by rw [HL.out]; exact List.mem_of_getElem? HP.out)))⟩
          clear hf hf'; go_wp2_with fail; go_ret; rw [HC.out]; exact ⟨rfl, HG.out⟩
end Go.Proofs.YtldnpebnpbahjaaGreatDoor.Pk.Na
