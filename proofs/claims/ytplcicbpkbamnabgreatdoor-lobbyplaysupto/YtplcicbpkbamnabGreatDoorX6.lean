import Derived.Test.YtplcicbpkbamnabGreatDoorX5
/- Cut, Pad, Check. -/
namespace Go.Proofs.YtplcicbpkbamnabGreatDoor.Lo.Na
open Go Go.RowKit

/-- a string of these bytes -/
def mk (l : List UInt8) : ByteArray := ⟨l.toArray⟩
set_option maxRecDepth 100000 in
theorem sl_mk (l : List UInt8) : sl (mk l) = l := by simp [sl, mk]
set_option maxRecDepth 100000 in
theorem mk_sl (s : ByteArray) : mk (sl s) = s := by apply ByteArray.ext; simp [sl, mk]
set_option maxRecDepth 100000 in
theorem sl_inj {a b : ByteArray} (h : sl a = sl b) : a = b := by rw [← mk_sl a, h, mk_sl]
set_option maxRecDepth 100000 in
theorem sl_app (a b : ByteArray) : sl (a ++ b) = sl a ++ sl b := by simp [sl]
set_option maxRecDepth 100000 in
theorem sl_ext (s : ByteArray) (a b : Nat) : sl (s.extract a b) = ((sl s).take b).drop a := by
  simp [sl, ByteArray.data_extract, List.extract_eq_take_drop, List.drop_take]
set_option maxRecDepth 100000 in
theorem mk_size (l : List UInt8) : (mk l).size = l.length := by simp [mk, ByteArray.size]

set_option maxRecDepth 100000 in
theorem gr_below {w w' : World} (h : Below w.heap.size w w') : w.grownBy w' none := ⟨h.os, h.tape, h.output, h.size, fun k hk _ => h.block k hk⟩
set_option maxRecDepth 100000 in
theorem clone_c (s : ByteArray) (w : World) (hs : s.size ≤ 281474976710656) :
    Calls Tryz.prog 67 #[.string s] w fun e w' => e = .returned (.string s) ∧ w.grownBy w' none := by
  go_enter Tryz.func67, Tryz.ntmps67
  go_wp2_with fail
  refine (Tryz.stringslite_Clone s _ hs).mono ?_
  rintro e w1 ⟨rfl, hB⟩
  have HG : Keep (w.grownBy w1 none) := ⟨gr_below hB⟩
  clear hB
  go_wp2_with fail
  go_ret
  exact ⟨rfl, HG.out⟩

/-- the first n runes -/
def cutL (l : List UInt8) (n : Nat) : List UInt8 := flat ((pieces l).take n)
def cutB (s : ByteArray) (n : Int) : ByteArray := mk (cutL (sl s) n.toNat)
set_option maxRecDepth 100000 in
theorem cutL_prefix (l : List UInt8) (n : Nat) : cutL l n = l.take (cutL l n).length := by
  have h := flat_prefix (pieces l) n
  rw [flat_pieces] at h
  exact List.prefix_iff_eq_take.1 h
set_option maxRecDepth 100000 in
theorem posn_cut (s : ByteArray) (n : Int) : posn s (cutk s n) = (cutL (sl s) n.toNat).length := by
  unfold posn cutk cutL rn
  rw [← List.take_eq_take_min]
set_option maxRecDepth 100000 in
theorem cut_ext (s : ByteArray) (n : Int) : s.extract 0 (posn s (cutk s n)) = cutB s n := by
  apply sl_inj
  rw [sl_ext, cutB, sl_mk, posn_cut, List.drop_zero, ← cutL_prefix]
set_option maxRecDepth 100000 in
theorem cut_le (s : ByteArray) (n : Int) : posn s (cutk s n) ≤ s.size := by
  rw [posn_cut, cutL_prefix, List.length_take, sl_len]; omega
set_option maxRecDepth 100000 in
theorem cutB_size (s : ByteArray) (n : Int) : (cutB s n).size ≤ s.size := by
  rw [cutB, mk_size, ← posn_cut]; exact cut_le s n

/-- n kept within its bounds -/
def pk (n : Int) : Nat := (max 0 (min n 4096)).toNat
def padL (l : List UInt8) (k : Nat) : List UInt8 := cutL l k ++ List.replicate (k - min k (pieces l).length) 32
def padB (s : ByteArray) (n : Int) : ByteArray := mk (padL (sl s) (pk n))
set_option maxRecDepth 100000 in
theorem pieces_cut (l : List UInt8) (n : Nat) : pieces (cutL l n) = (pieces l).take n := pieces_take l n
set_option maxRecDepth 100000 in
theorem rn_cut (s : ByteArray) (n : Int) : rn (cutB s n) = min n.toNat (rn s) := by
  unfold rn cutB
  rw [sl_mk, pieces_cut, List.length_take]
set_option maxRecDepth 100000 in
theorem addS (a b : ByteArray) (h : a.size + b.size ≤ 9223372036854775807) (W : World) : (Op.stringOp .add a b).run Tryz.prog W = .ok (.string (a ++ b)) W := by
  simp only [Op.stringOp]
  rw [if_neg (by have : IntKind.i64.max = 9223372036854775807 := by decide
                 omega)]
  rfl
/-- may it be a name? -/
def chkOK (s : ByteArray) : Bool := decide (s.size ≠ 0) && decide (s.size ≤ 24) && decide (rn s ≤ 12) && (pieces (sl s)).all fun p => (fnd p.1).isSome
def chk (s : ByteArray) : Int := if chkOK s then 0 else 60
set_option maxRecDepth 100000 in
theorem chk_no {s : ByteArray} (h : ¬ chkOK s = true) : chk s = 60 := if_neg h
set_option maxRecDepth 100000 in
theorem fndV_some {r : Int} (h : (fnd r).isSome = true) : ∃ A B C, fndV (fnd r) = .tuple #[.agg #[rv A, rv B, rv C], .bool true] := by
  match hf : fnd r with
  | some (a, b, c) => exact ⟨a, b, c, rfl⟩
  | none => rw [hf] at h; cases h
set_option maxRecDepth 100000 in
theorem fndV_none {r : Int} (h : (fnd r).isSome = false) : fndV (fnd r) = .tuple #[.agg #[rv 0, rv 0, rv 0], .bool false] := by
  match hf : fnd r with
  | some (a, b, c) => rw [hf] at h; cases h
  | none => rfl
set_option maxRecDepth 100000 in
theorem isEmptyL {s : ByteArray} (h : s.size ≠ 0) : s.toList.isEmpty = false := by
  rw [ByteArray.toList_eq]
  cases hl : s.data.toList with
  | nil => exact absurd (by rw [← sl_len, sl, hl]; rfl) h
  | cons a b => rfl

set_option maxRecDepth 100000 in
set_option maxHeartbeats 4000000 in
theorem check_c (s : ByteArray) (w : World) (hs : s.size ≤ 281474976710656) (hk : Kc w) :
    Calls Tryz.prog 66 #[.string s] w fun e w' => e = .returned (iv (chk s)) ∧ w.grownBy w' none := by
  go_enter Tryz.func66, Tryz.ntmps66
  by_cases h0 : s.size = 0
  · obtain rfl : s = ⟨#[]⟩ := by
      apply sl_inj
      exact List.eq_nil_of_length_eq_zero h0
    have HC : Keep (chk ⟨#[]⟩ = 60) := ⟨by simp [chk, chkOK, ByteArray.size]⟩
    go_wp2_with fail
    go_ret
    rw [HC.out]
    exact ⟨rfl, World.grownBy.refl _ _⟩
  have hE := isEmptyL h0
  by_cases h24 : 24 < s.size
  · have HC : Keep (chk s = 60) := ⟨chk_no (by simp [chkOK]; intro _ h; omega)⟩
    go_wp2_with fail
    go_ret
    rw [HC.out]
    exact ⟨rfl, World.grownBy.refl _ _⟩
  go_wp2_with fail
  refine (runes_c s _ (by omega)).mono ?_
  rintro e w1 ⟨rfl, hG⟩
  have HG : Keep (w.grownBy w1 none) := ⟨hG⟩
  have HK1 : Keep (Kc w1) := ⟨hk.kept hG⟩
  clear hG hk
  have hrs := rn_le s
  by_cases h12 : 12 < rn s
  · have HC : Keep (chk s = 60) := ⟨chk_no (by simp [chkOK]; intro _ _ h; omega)⟩
    go_wp2_with fail
    go_ret
    rw [HC.out]
    exact ⟨rfl, HG.out⟩
  go_wp2_with fail
  go_loopw [] (fun w' => ∃ k : Nat, It w' w1.heap.size s k ∧ w1.grownBy w' none ∧ Keep (∀ p ∈ (pieces (sl s)).take k, (fnd p.1).isSome = true)) (fun w' => s.size - w'.iterPos w1.heap.size)
  case atStart => exact ⟨0, It.new w1 s, gr_iter w1 s 0, ⟨by simp⟩⟩
  case round =>
    obtain ⟨k, hI, hg, HA⟩ := hrel
    by_cases hk : k = rn s
    · have hnx := hI.stop hk
      have HC : Keep (chk s = 0) := ⟨by
        unfold chk
        rw [if_pos]
        have hA := HA.out
        rw [hk, rn, List.take_length] at hA
        simp only [chkOK, Bool.and_eq_true, decide_eq_true_eq, List.all_eq_true]
        exact ⟨⟨⟨by omega, by omega⟩, by omega⟩, hA⟩⟩
      have HG2 : Keep (w.grownBy wr none) := ⟨HG.out.trans hg⟩
      clear hI hg
      go_wp2_with fail
      go_ret
      rw [HC.out]
      exact ⟨rfl, HG2.out⟩
    · obtain ⟨p, w2, hp, hnx, hN, hG2, hm⟩ := hI.move hk
      have hG := gr_new hg hG2 (Nat.le_refl _)
      clear hI hG2 hg
      go_wp2_with fail
      refine (find_c p.1 w2 (HK1.out.kept hG)).mono ?_
      rintro e w3 ⟨rfl, hG3⟩
      have HG3 : Keep (w1.grownBy w3 none) := ⟨hG.trans hG3⟩
      have HI3 : Keep (It w3 w1.heap.size s (k + 1)) := ⟨hN.kept hG3⟩
      have hm3 : Keep (s.size - w3.iterPos w1.heap.size < s.size - wr.iterPos w1.heap.size) := ⟨by rw [HI3.out.pos, ← hN.pos]; exact hm.out⟩
      clear hG3 hN hG hnx hm
      by_cases hf : (fnd p.1).isSome = true
      · obtain ⟨A, B, C, hv⟩ := fndV_some hf
        rw [hv]
        have HA2 : Keep (∀ p ∈ (pieces (sl s)).take (k + 1), (fnd p.1).isSome = true) := ⟨by
          rw [List.take_add_one, hp.out]
          intro q hq
          rcases List.mem_append.1 hq with hq | hq
          · exact HA.out q hq
          · simp at hq; subst hq; exact hf⟩
        clear hf hv
        go_wp2_with fail
        go_roundw
        case rel => exact ⟨k + 1, HI3.out.kept (World.grownBy_alloc _ _ _), HG3.out.trans (World.grownBy_alloc _ _ _), HA2⟩
        case measure =>
          rw [(HI3.out.kept (World.grownBy_alloc _ _ _)).pos, ← HI3.out.pos]; exact hm3.out
      · have hf' : (fnd p.1).isSome = false := by simpa using hf
        rw [fndV_none hf']
        have HC : Keep (chk s = 60) := ⟨chk_no (by
          intro h
          simp only [chkOK, Bool.and_eq_true, List.all_eq_true] at h
          exact hf (h.2 p (List.mem_of_getElem? hp.out)))⟩
        have HG4 : Keep (w.grownBy w3 none) := ⟨HG.out.trans HG3.out⟩
        clear hf hf'
        go_wp2_with fail
        go_ret
        rw [HC.out]
        exact ⟨rfl, HG4.out.trans (World.grownBy_alloc _ _ _)⟩
end Go.Proofs.YtplcicbpkbamnabGreatDoor.Lo.Na

/- small letters, over lists. -/
namespace Go.Proofs.YtplcicbpkbamnabGreatDoor.Lo.Na
open Go Go.RowKit

/-- a letter that Fold changes -/
def large (n : Nat) : Prop := (65 ≤ n ∧ n ≤ 90) ∨ (192 ≤ n ∧ n ≤ 214) ∨ (216 ≤ n ∧ n ≤ 222)
instance (n : Nat) : Decidable (large n) := by unfold large; exact inferInstance
/-- the bytes of a small letter -/
def encL (n : Nat) : List UInt8 := if n < 128 then [UInt8.ofNat n] else [195, UInt8.ofNat (n - 64)]
def small (p : Nat × List UInt8) : Nat × List UInt8 := if large p.1 then (p.1 + 32, encL (p.1 + 32)) else p
def foldL (l : List UInt8) : List UInt8 := flat ((pieces l).map small)

set_option maxRecDepth 100000 in
theorem fnd_cases (n : Nat) : (large n ∧ ∃ A B, fnd n = some (A, B, 32)) ∨ (¬ large n ∧ ((∃ A B, fnd n = some (A, B, 0)) ∨ fnd n = none)) := by
  unfold fnd spn large
  simp only [List.find?_cons, List.find?_nil]
  repeat' split
  all_goals simp_all
  all_goals omega
set_option maxRecDepth 100000 in
theorem fnd_good (n : Nat) : (fnd n).isSome = true ↔ (n = 45 ∨ (48 ≤ n ∧ n ≤ 57) ∨ (65 ≤ n ∧ n ≤ 90) ∨ n = 95 ∨ (97 ≤ n ∧ n ≤ 122) ∨ (192 ≤ n ∧ n ≤ 255 ∧ n ≠ 215 ∧ n ≠ 247) ∨ (945 ≤ n ∧ n ≤ 969)) := by
  unfold fnd spn
  simp only [List.find?_cons, List.find?_nil]
  repeat' split
  all_goals simp_all
  all_goals omega

set_option maxRecDepth 100000 in
theorem dec_nil_le (p : Nat × List UInt8) (h : Whole p) : p.2.length = (dec p.2).2 ∧ p.1 = (dec p.2).1 := by
  have := h.2.2 []
  rw [List.append_nil] at this
  rw [this]; exact ⟨rfl, rfl⟩
set_option maxRecDepth 100000 in
theorem whole_one {p : Nat × List UInt8} (h : Whole p) (hn : p.1 < 128) : p.2 = [UInt8.ofNat p.1] := by
  obtain ⟨h1, h2, h3⟩ := h
  obtain ⟨n, bs⟩ := p
  simp only at *
  match bs, h1 with
  | b :: t, _ =>
    have e := h3 []
    rw [List.append_nil] at e
    cases form b t with
    | one hb t =>
      rw [dec_ascii hb] at e
      have e1 := congrArg Prod.fst e
      have e2 := congrArg Prod.snd e
      simp at e1 e2
      subst e2
      rw [← e1]; simp
    | two hb hc hv t => rw [dec_two hb hc hv] at e; have e1 := congrArg Prod.fst e; simp only at e1; omega
    | three hb hc hd hv t => rw [dec_three hb hc hd hv] at e; have e1 := congrArg Prod.fst e; simp only at e1; omega
    | four hb hc hd he hv t => rw [dec_four hb hc hd he hv] at e; have e1 := congrArg Prod.fst e; simp only at e1; omega
    | odd hb _ => rw [hb] at e; have e1 := congrArg Prod.fst e; simp only at e1; omega
set_option maxRecDepth 100000 in
theorem whole_two {p : Nat × List UInt8} (h : Whole p) (hn : 128 ≤ p.1) (hn2 : p.1 < 2048) : p.2 = [UInt8.ofNat (192 + p.1 / 64), UInt8.ofNat (128 + p.1 % 64)] := by
  obtain ⟨h1, h2, h3⟩ := h
  obtain ⟨n, bs⟩ := p
  simp only at *
  match bs, h1 with
  | b :: t, _ =>
    have e := h3 []
    rw [List.append_nil] at e
    cases form b t with
    | one hb t => rw [dec_ascii hb] at e; have e1 := congrArg Prod.fst e; simp only at e1; omega
    | @two c hb hc hv t =>
      rw [dec_two hb hc hv] at e
      have e1 := congrArg Prod.fst e
      have e2 := congrArg Prod.snd e
      simp only [List.length_cons] at e1 e2
      obtain rfl : t = [] := List.eq_nil_of_length_eq_zero (by omega)
      have hb2 := b.toNat_lt
      have hc2 := c.toNat_lt
      rw [show 192 + n / 64 = b.toNat by omega, show 128 + n % 64 = c.toNat by omega]
      simp
    | three hb hc hd hv t => rw [dec_three hb hc hd hv] at e; have e1 := congrArg Prod.fst e; simp only at e1; omega
    | four hb hc hd he hv t => rw [dec_four hb hc hd he hv] at e; have e1 := congrArg Prod.fst e; simp only at e1; omega
    | odd hb _ => rw [hb] at e; have e1 := congrArg Prod.fst e; simp only at e1; omega
set_option maxRecDepth 100000 in
theorem whole_encL {n : Nat} (h : (97 ≤ n ∧ n ≤ 122) ∨ (224 ≤ n ∧ n ≤ 254)) : Whole (n, encL n) := by
  rcases h with h | h
  · have e : encL n = [UInt8.ofNat n] := if_pos (by omega)
    have ht : (UInt8.ofNat n).toNat = n := by rw [UInt8.toNat_ofNat']; omega
    have := whole_ascii (b := UInt8.ofNat n) (by omega)
    rw [ht] at this
    rw [e]; exact this
  · have e : encL n = [195, UInt8.ofNat (n - 64)] := if_neg (by omega)
    have ht : (UInt8.ofNat (n - 64)).toNat = n - 64 := by rw [UInt8.toNat_ofNat']; omega
    have h195 : (195 : UInt8).toNat = 195 := rfl
    rw [e]
    refine ⟨by simp, show cont 195 = false by decide, fun t => ?_⟩
    show dec (195 :: UInt8.ofNat (n - 64) :: t) = (n, 2)
    rw [dec_two (by rw [h195]) (by rw [ht]; omega) (by rw [h195, ht]; omega), ht, h195]
    apply Prod.ext
    · show 195 % 32 * 64 + (n - 64) % 64 = n
      omega
    · rfl
set_option maxRecDepth 100000 in
theorem small_num (p : Nat × List UInt8) : (small p).1 = if large p.1 then p.1 + 32 else p.1 := by
  unfold small; split <;> rfl
set_option maxRecDepth 100000 in
theorem not_large {n : Nat} (h : large n) : ¬ large (n + 32) := by unfold large at h ⊢; omega
set_option maxRecDepth 100000 in
theorem small_small (p : Nat × List UInt8) : small (small p) = small p := by
  by_cases h : large p.1
  · have : small p = (p.1 + 32, encL (p.1 + 32)) := if_pos h
    rw [this, small, if_neg (not_large h)]
  · have : small p = p := if_neg h
    rw [this, this]
set_option maxRecDepth 100000 in
theorem small_whole {p : Nat × List UInt8} (h : Whole p) : Whole (small p) := by
  by_cases hl : large p.1
  · have : small p = (p.1 + 32, encL (p.1 + 32)) := if_pos hl
    rw [this]
    exact whole_encL (by unfold large at hl; omega)
  · have : small p = p := if_neg hl
    rw [this]; exact h
set_option maxRecDepth 100000 in
theorem small_odd (b : UInt8) : small (65533, [b]) = (65533, [b]) := if_neg (by unfold large; omega)
set_option maxRecDepth 100000 in
theorem small_len {p : Nat × List UInt8} (h : Whole p) : (small p).2.length = p.2.length := by
  by_cases hl : large p.1
  · have e : small p = (p.1 + 32, encL (p.1 + 32)) := if_pos hl
    rw [e]
    unfold large at hl
    by_cases h1 : p.1 < 128
    · rw [whole_one h h1]; simp only [encL]; rw [if_pos (by omega)]; rfl
    · rw [whole_two h (by omega) (by omega)]; simp only [encL]; rw [if_neg (by omega)]; rfl
  · have e : small p = p := if_neg hl
    rw [e]
set_option maxRecDepth 100000 in
theorem tw_whole {p : Nat × List UInt8} (h : Whole p) (t : List UInt8) : (p.2 ++ t).takeWhile cont = [] := by
  obtain ⟨h1, h2, _⟩ := h
  match hp : p.2, h1 with
  | b :: r, _ =>
    rw [hp] at h2
    simp at h2
    rw [List.cons_append, List.takeWhile_cons_of_neg (by simp [h2])]
set_option maxRecDepth 100000 in
theorem tw_small {ps : List (Nat × List UInt8)} (g : Good ps) : (flat (ps.map small)).takeWhile cont = (flat ps).takeWhile cont := by
  induction g with
  | nil => rfl
  | @whole p ps h g ih => rw [List.map_cons, flat_cons, flat_cons, tw_whole h, tw_whole (small_whole h)]
  | @odd b ps hb h g ih =>
    rw [List.map_cons, flat_cons, flat_cons, small_odd]
    show (b :: flat (ps.map small)).takeWhile cont = (b :: flat ps).takeWhile cont
    by_cases hc : cont b = true
    · rw [List.takeWhile_cons_of_pos hc, List.takeWhile_cons_of_pos hc, ih]
    · rw [List.takeWhile_cons_of_neg hc, List.takeWhile_cons_of_neg hc]
set_option maxRecDepth 100000 in
theorem good_small {ps : List (Nat × List UInt8)} (g : Good ps) : Good (ps.map small) := by
  induction g with
  | nil => exact .nil
  | whole h g ih => exact .whole (small_whole h) ih
  | @odd b ps hb h g ih =>
    rw [List.map_cons, small_odd]
    exact .odd hb (by rw [dec_tw2 (tw_small g)]; exact h) ih
set_option maxRecDepth 100000 in
theorem pieces_fold (l : List UInt8) : pieces (foldL l) = (pieces l).map small := pieces_of_good (good_small (good_pieces l))
set_option maxRecDepth 100000 in
theorem fold_fold (l : List UInt8) : foldL (foldL l) = foldL l := by
  show flat ((pieces (foldL l)).map small) = flat ((pieces l).map small)
  rw [pieces_fold, List.map_map]
  congr 1
  apply List.map_congr_left
  intro p _
  exact small_small p
set_option maxRecDepth 100000 in
theorem good_len {ps : List (Nat × List UInt8)} (g : Good ps) : ∀ k, (flat ((ps.take k).map small)).length = (flat (ps.take k)).length := by
  induction g with
  | nil => intro k; simp [flat]
  | @whole p ps h g ih =>
    intro k
    cases k with
    | zero => rfl
    | succ k => rw [List.take_succ_cons, List.map_cons, flat_cons, flat_cons, List.length_append, List.length_append, ih, small_len h]
  | @odd b ps hb h g ih =>
    intro k
    cases k with
    | zero => rfl
    | succ k => rw [List.take_succ_cons, List.map_cons, flat_cons, flat_cons, List.length_append, List.length_append, ih, small_odd]
set_option maxRecDepth 100000 in
theorem fold_len (l : List UInt8) : (foldL l).length = l.length := by
  have := good_len (good_pieces l) (pieces l).length
  rw [List.take_length, flat_pieces] at this
  exact this
set_option maxRecDepth 100000 in
theorem fnd_small (p : Nat × List UInt8) : (fnd (small p).1).isSome = (fnd p.1).isSome := by
  rw [Bool.eq_iff_iff, fnd_good, fnd_good, small_num]
  split
  · rename_i h; unfold large at h; omega
  · exact Iff.rfl
/-- a piece of a text: whole, or a byte that begins none -/
theorem mem_kind {ps : List (Nat × List UInt8)} (g : Good ps) {p : Nat × List UInt8} (h : p ∈ ps) : Whole p ∨ Odd p := by
  induction g with
  | nil => cases h
  | whole hw g ih => rcases List.mem_cons.1 h with rfl | h; exact .inl hw; exact ih h
  | @odd b ps hb hd g ih => rcases List.mem_cons.1 h with rfl | h; exact .inr ⟨b, rfl, hb⟩; exact ih h
end Go.Proofs.YtplcicbpkbamnabGreatDoor.Lo.Na

