/- Cut, Pad, Check. -/
import Derived.Test.YthhpbonacefmaaaDoorA2
import Derived.Test.YthhpbonacefmaaaDoorShelf
namespace Go.Proofs.YthhpbonacefmaaaDoor
open Go Go.RowKit

/-- a string of these bytes -/
def mk (l : List UInt8) : ByteArray := ⟨l.toArray⟩
theorem sl_mk (l : List UInt8) : sl (mk l) = l := by simp [sl, mk]
theorem mk_sl (s : ByteArray) : mk (sl s) = s := by apply ByteArray.ext; simp [sl, mk]
theorem sl_inj {a b : ByteArray} (h : sl a = sl b) : a = b := by rw [← mk_sl a, h, mk_sl]
theorem sl_app (a b : ByteArray) : sl (a ++ b) = sl a ++ sl b := by simp [sl]
theorem sl_ext (s : ByteArray) (a b : Nat) : sl (s.extract a b) = ((sl s).take b).drop a := by
  simp [sl, ByteArray.data_extract, List.extract_eq_take_drop, List.drop_take]
theorem mk_size (l : List UInt8) : (mk l).size = l.length := by simp [mk, ByteArray.size]

theorem gr_below {w w' : World} (h : Below w.heap.size w w') : w.grownBy w' none := ⟨h.os, h.tape, h.output, h.size, fun k hk _ => h.block k hk⟩
theorem clone_c (s : ByteArray) (w : World) (hs : s.size ≤ 281474976710656) :
    Calls Tryd.prog 26 #[.string s] w fun e w' => e = .returned (.string s) ∧ w.grownBy w' none := by
  go_enter Tryd.func26, Tryd.ntmps26
  go_wp2_with fail
  refine (Tryd.stringslite_Clone s _ hs).mono ?_
  rintro e w1 ⟨rfl, hB⟩
  have HG : Keep (w.grownBy w1 none) := ⟨gr_below hB⟩
  clear hB
  go_wp2_with fail
  go_ret
  exact ⟨rfl, HG.out⟩

/-- the first n runes -/
def cutL (l : List UInt8) (n : Nat) : List UInt8 := flat ((pieces l).take n)
def cutB (s : ByteArray) (n : Int) : ByteArray := mk (cutL (sl s) n.toNat)
theorem cutL_prefix (l : List UInt8) (n : Nat) : cutL l n = l.take (cutL l n).length := by
  have h := flat_prefix (pieces l) n
  rw [flat_pieces] at h
  exact List.prefix_iff_eq_take.1 h
theorem posn_cut (s : ByteArray) (n : Int) : posn s (cutk s n) = (cutL (sl s) n.toNat).length := by
  unfold posn cutk cutL rn
  rw [← List.take_eq_take_min]
theorem cut_ext (s : ByteArray) (n : Int) : s.extract 0 (posn s (cutk s n)) = cutB s n := by
  apply sl_inj
  rw [sl_ext, cutB, sl_mk, posn_cut, List.drop_zero, ← cutL_prefix]
theorem cut_le (s : ByteArray) (n : Int) : posn s (cutk s n) ≤ s.size := by
  rw [posn_cut, cutL_prefix, List.length_take, sl_len]; omega
theorem cutB_size (s : ByteArray) (n : Int) : (cutB s n).size ≤ s.size := by
  rw [cutB, mk_size, ← posn_cut]; exact cut_le s n

set_option maxHeartbeats 2000000 in
theorem cut_c (s : ByteArray) (n : Int) (w : World) (hs : s.size ≤ 281474976710656) (hn : -9223372036854775808 ≤ n) (hn2 : n ≤ 9223372036854775807) :
    Calls Tryd.prog 15 #[.string s, iv n] w fun e w' => e = .returned (.string (cutB s n)) ∧ w.grownBy w' none := by
  go_enter Tryd.func15, Tryd.ntmps15
  go_wp2_with fail
  refine (end_c s n _ (by omega) hn hn2).mono ?_
  rintro e w1 ⟨rfl, hG⟩
  have HG : Keep (w.grownBy w1 none) := ⟨hG⟩
  have HX : Keep (s.extract 0 (posn s (cutk s n)) = cutB s n) := ⟨cut_ext s n⟩
  have hle := cut_le s n
  generalize posn s (cutk s n) = P at HX hle ⊢
  clear hG
  go_wp2_with fail
  rw [HX.out]
  refine (clone_c _ _ (Nat.le_trans (cutB_size s n) hs)).mono ?_
  rintro e w2 ⟨rfl, hG⟩
  have HG2 : Keep (w.grownBy w2 none) := ⟨HG.out.trans hG⟩
  clear hG
  go_wp2_with fail
  go_ret
  exact ⟨rfl, HG2.out⟩

/-- n kept within its bounds -/
def pk (n : Int) : Nat := (max 0 (min n 4096)).toNat
def padL (l : List UInt8) (k : Nat) : List UInt8 := cutL l k ++ List.replicate (k - min k (pieces l).length) 32
def padB (s : ByteArray) (n : Int) : ByteArray := mk (padL (sl s) (pk n))
theorem pieces_cut (l : List UInt8) (n : Nat) : pieces (cutL l n) = (pieces l).take n := pieces_take l n
theorem rn_cut (s : ByteArray) (n : Int) : rn (cutB s n) = min n.toNat (rn s) := by
  unfold rn cutB
  rw [sl_mk, pieces_cut, List.length_take]
theorem repeat32 : ∀ n, Lib.repeatL [32] n = List.replicate n 32
  | 0 => rfl
  | n + 1 => by rw [Lib.repeatL, repeat32 n]; rfl

theorem addS (a b : ByteArray) (h : a.size + b.size ≤ 9223372036854775807) (W : World) : (Op.stringOp .add a b).run Tryd.prog W = .ok (.string (a ++ b)) W := by
  simp only [Op.stringOp]
  rw [if_neg (by have : IntKind.i64.max = 9223372036854775807 := by decide
                 omega)]
  rfl
set_option maxHeartbeats 2000000 in
theorem pad_c (s : ByteArray) (n : Int) (w : World) (hs : s.size ≤ 281474976710656) (hn : -9223372036854775808 ≤ n) (hn2 : n ≤ 9223372036854775807) :
    Calls Tryd.prog 16 #[.string s, iv n] w fun e w' => e = .returned (.string (padB s n)) ∧ w.grownBy w' none := by
  go_enter Tryd.func16, Tryd.ntmps16
  obtain ⟨M, hM⟩ : ∃ M, max 0 (min n 4096) = M := ⟨_, rfl⟩
  have h0 : 0 ≤ M := by omega
  have h1 : M ≤ 4096 := by omega
  have HP : Keep (pk n = M.toNat) := ⟨by unfold pk; rw [hM]⟩
  go_wp2_with fail
  try rw [hM]
  clear hM
  refine (cut_c s M _ hs (by omega) (by omega)).mono ?_
  rintro e w1 ⟨rfl, hG⟩
  have HG : Keep (w.grownBy w1 none) := ⟨hG⟩
  clear hG
  go_wp2_with fail
  refine (runes_c _ _ (Nat.le_trans (cutB_size s M) (by omega))).mono ?_
  rintro e w2 ⟨rfl, hG⟩
  have HG2 : Keep (w.grownBy w2 none) := ⟨HG.out.trans hG⟩
  have hr : (rn (cutB s M) : Int) ≤ M := by rw [rn_cut]; omega
  have HR : Keep (rn (cutB s M) = min M.toNat (rn s)) := ⟨rn_cut s M⟩
  have hz := cutB_size s M
  clear hG
  generalize hC : cutB s M = C at HR hr hz ⊢
  have HC : Keep (cutB s M = C) := ⟨hC⟩
  clear hC
  obtain ⟨D, hD⟩ : ∃ D : Nat, M - rn C = D := ⟨(M - rn C).toNat, by omega⟩
  go_wp2_with fail
  refine (Tryd.strings_Repeat ⟨#[32]⟩ D _ (by omega) (by simp [ByteArray.size]; omega)).mono ?_
  rintro e w3 ⟨rfl, hB⟩
  have HG3 : Keep (w.grownBy w3 none) := ⟨HG2.out.trans (gr_below hB)⟩
  clear hB
  have HX : Keep (C ++ (⟨(Lib.repeatL [32] D).toArray⟩ : ByteArray) = padB s n) := ⟨by
    apply sl_inj
    rw [sl_app, ← HC.out, repeat32]
    unfold padB cutB padL
    rw [sl_mk, sl_mk, HP.out]
    have e : sl (⟨(List.replicate D 32).toArray⟩ : ByteArray) = List.replicate D 32 := sl_mk _
    rw [e]
    congr 2
    have := HR.out
    unfold rn at this
    unfold rn at hD
    omega⟩
  have hadd := addS C ⟨(Lib.repeatL [32] D).toArray⟩ (by
    have e : (⟨(Lib.repeatL [32] D).toArray⟩ : ByteArray).size = D := by
      rw [repeat32]; simp [ByteArray.size]
    omega)
  go_wp2_with fail
  go_ret
  rw [HX.out]
  exact ⟨rfl, HG3.out⟩

/-- may it be a name? -/
def chkOK (s : ByteArray) : Bool := decide (s.size ≠ 0) && decide (s.size ≤ 24) && decide (rn s ≤ 12) && (pieces (sl s)).all fun p => (fnd p.1).isSome
def chk (s : ByteArray) : Int := if chkOK s then 0 else 60
theorem chk_no {s : ByteArray} (h : ¬ chkOK s = true) : chk s = 60 := if_neg h
theorem fndV_some {r : Int} (h : (fnd r).isSome = true) : ∃ A B C, fndV (fnd r) = .tuple #[.agg #[rv A, rv B, rv C], .bool true] := by
  match hf : fnd r with
  | some (a, b, c) => exact ⟨a, b, c, rfl⟩
  | none => rw [hf] at h; cases h
theorem fndV_none {r : Int} (h : (fnd r).isSome = false) : fndV (fnd r) = .tuple #[.agg #[rv 0, rv 0, rv 0], .bool false] := by
  match hf : fnd r with
  | some (a, b, c) => rw [hf] at h; cases h
  | none => rfl
theorem isEmptyL {s : ByteArray} (h : s.size ≠ 0) : s.toList.isEmpty = false := by
  rw [ByteArray.toList_eq]
  cases hl : s.data.toList with
  | nil => exact absurd (by rw [← sl_len, sl, hl]; rfl) h
  | cons a b => rfl

set_option maxHeartbeats 4000000 in
theorem check_c (s : ByteArray) (w : World) (hs : s.size ≤ 281474976710656) (hk : Kc w) :
    Calls Tryd.prog 14 #[.string s] w fun e w' => e = .returned (iv (chk s)) ∧ w.grownBy w' none := by
  go_enter Tryd.func14, Tryd.ntmps14
  by_cases h0 : s.size = 0
  · obtain rfl : s = ⟨#[]⟩ := by
      apply sl_inj
      exact List.eq_nil_of_length_eq_zero h0
    have HC : Keep (chk ⟨#[]⟩ = 60) := ⟨by simp [chk, chkOK, ByteArray.size]⟩
    go_wp2_with fail
    go_ret
    rw [HC.out]
    exact ⟨rfl, World.grownBy.refl _ _⟩
  have hE := isEmptyL h0
  by_cases h24 : 24 < s.size
  · have HC : Keep (chk s = 60) := ⟨chk_no (by simp [chkOK]; intro _ h; omega)⟩
    go_wp2_with fail
    go_ret
    rw [HC.out]
    exact ⟨rfl, World.grownBy.refl _ _⟩
  go_wp2_with fail
  refine (runes_c s _ (by omega)).mono ?_
  rintro e w1 ⟨rfl, hG⟩
  have HG : Keep (w.grownBy w1 none) := ⟨hG⟩
  have HK1 : Keep (Kc w1) := ⟨hk.kept hG⟩
  clear hG hk
  have hrs := rn_le s
  by_cases h12 : 12 < rn s
  · have HC : Keep (chk s = 60) := ⟨chk_no (by simp [chkOK]; intro _ _ h; omega)⟩
    go_wp2_with fail
    go_ret
    rw [HC.out]
    exact ⟨rfl, HG.out⟩
  go_wp2_with fail
  go_loopw [] (fun w' => ∃ k : Nat, It w' w1.heap.size s k ∧ w1.grownBy w' none ∧ Keep (∀ p ∈ (pieces (sl s)).take k, (fnd p.1).isSome = true)) (fun w' => s.size - w'.iterPos w1.heap.size)
  case atStart => exact ⟨0, It.new w1 s, gr_iter w1 s 0, ⟨by simp⟩⟩
  case round =>
    obtain ⟨k, hI, hg, HA⟩ := hrel
    by_cases hk : k = rn s
    · have hnx := hI.stop hk
      have HC : Keep (chk s = 0) := ⟨by
        unfold chk
        rw [if_pos]
        have hA := HA.out
        rw [hk, rn, List.take_length] at hA
        simp only [chkOK, Bool.and_eq_true, decide_eq_true_eq, List.all_eq_true]
        exact ⟨⟨⟨by omega, by omega⟩, by omega⟩, hA⟩⟩
      have HG2 : Keep (w.grownBy wr none) := ⟨HG.out.trans hg⟩
      clear hI hg
      go_wp2_with fail
      go_ret
      rw [HC.out]
      exact ⟨rfl, HG2.out⟩
    · obtain ⟨p, w2, hp, hnx, hN, hG2, hm⟩ := hI.move hk
      have hG := gr_new hg hG2 (Nat.le_refl _)
      clear hI hG2 hg
      go_wp2_with fail
      refine (find_c p.1 w2 (HK1.out.kept hG)).mono ?_
      rintro e w3 ⟨rfl, hG3⟩
      have HG3 : Keep (w1.grownBy w3 none) := ⟨hG.trans hG3⟩
      have HI3 : Keep (It w3 w1.heap.size s (k + 1)) := ⟨hN.kept hG3⟩
      have hm3 : Keep (s.size - w3.iterPos w1.heap.size < s.size - wr.iterPos w1.heap.size) := ⟨by rw [HI3.out.pos, ← hN.pos]; exact hm.out⟩
      clear hG3 hN hG hnx hm
      by_cases hf : (fnd p.1).isSome = true
      · obtain ⟨A, B, C, hv⟩ := fndV_some hf
        rw [hv]
        have HA2 : Keep (∀ p ∈ (pieces (sl s)).take (k + 1), (fnd p.1).isSome = true) := ⟨by
          rw [List.take_add_one, hp.out]
          intro q hq
          rcases List.mem_append.1 hq with hq | hq
          · exact HA.out q hq
          · simp at hq; subst hq; exact hf⟩
        clear hf hv
        go_wp2_with fail
        go_roundw
        case rel => exact ⟨k + 1, HI3.out.kept (World.grownBy_alloc _ _ _), HG3.out.trans (World.grownBy_alloc _ _ _), HA2⟩
        case measure =>
          rw [(HI3.out.kept (World.grownBy_alloc _ _ _)).pos, ← HI3.out.pos]; exact hm3.out
      · have hf' : (fnd p.1).isSome = false := by simpa using hf
        rw [fndV_none hf']
        have HC : Keep (chk s = 60) := ⟨chk_no (by
          intro h
          simp only [chkOK, Bool.and_eq_true, List.all_eq_true] at h
          exact hf (h.2 p (List.mem_of_getElem? hp.out)))⟩
        have HG4 : Keep (w.grownBy w3 none) := ⟨HG.out.trans HG3.out⟩
        clear hf hf'
        go_wp2_with fail
        go_ret
        rw [HC.out]
        exact ⟨rfl, HG4.out.trans (World.grownBy_alloc _ _ _)⟩
end Go.Proofs.YthhpbonacefmaaaDoor
