/- E0, E1 -/
import Derived.Test.YtgedlabmndlooaaGreatD3
import Derived.ChangeKeysEq
namespace Go.Proofs.YtgedlabmndlooaaGreat
open Go Go.RowKit Go.Maps

theorem ite_dec {p : Prop} [Decidable p] {X : Result Bool} {D : Bool} {w : World} (h : X = .ok D w) : (if p then X else .ok false w) = .ok (decide p && D) w := by
  by_cases e : p
  · rw [if_pos e, h]; simp [e]
  · rw [if_neg e]; simp [e]
theorem ite_vec {p q : Prop} [Decidable p] [Decidable q] {X : Result Bool} {D : Bool} {w : World} (h : X = .ok D w) : (if p → ¬ q then .ok false w else X) = .ok (decide p && (decide q && D)) w := by
  by_cases e : p
  · by_cases f : q
    · rw [if_neg (fun k => k e f), h]; simp [e, f]
    · rw [if_pos (fun _ => f)]; simp [e, f]
  · rw [if_pos (fun k => absurd k e)]; simp [e]
theorem ba_inj {a b : ByteArray} (h : a.toList = b.toList) : a = b := by
  rw [ByteArray.toList_eq, ByteArray.toList_eq] at h
  exact ByteArray.ext (Array.ext' h)
theorem ite_str {a b : ByteArray} {X : Result Bool} {D : Bool} {w : World} (h : X = .ok D w) : (if a.toList = b.toList then X else .ok false w) = .ok (decide (a = b) && D) w := by
  by_cases e : a = b
  · subst e; rw [if_pos rfl, h]; simp
  · rw [if_neg (fun k => e (ba_inj k))]; simp [e]
theorem ite_end {p : Prop} [Decidable p] {w : World} : (if p then Result.ok true w else .ok false w) = .ok (decide p) w := by
  by_cases e : p <;> simp [e]
set_option maxRecDepth 100000 in
set_option maxHeartbeats 4000000 in
theorem eqV (n : Nat) (x y u v : Int) (w : World) : (Op.equalIn (n + 2) 24 (.agg #[iv x, iv y]) (.agg #[iv u, iv v])).run Tryz.prog w = .ok (decide (x = u ∧ y = v)) w := by
  rw [run_equalIn_agg w (n + 1) 24 _ _ (by kernel_rfl) (by kernel_rfl)]
  have u3 := Tryz.underlying2
  have g3 := Tryz.isAgg2
  have z3 := Tryz.sizeOf2
  simp only [Program.fieldsOf, Tryz.underlying24]
  by_cases h1 : x = u
  · by_cases h2 : y = v
    · subst h1 h2; (go_simp; try simp)
    · subst h1; (go_simp; try simp [h2])
  · (go_simp; try simp [h1])
set_option maxRecDepth 100000 in
set_option maxHeartbeats 8000000 in
theorem eqN (x y : Sn) (w : World) : (Op.equalIn 10000 33 (.agg (snv x).toArray) (.agg (snv y).toArray)).run Tryz.prog w = .ok (decide (x = y)) w := by
  rw [show (10000 : Nat) = 9999 + 1 from rfl, run_equalIn_agg w 9999 33 _ _ (by kernel_rfl) (by kernel_rfl)]
  obtain ⟨a1, a2, a3, a4, a5⟩ := x
  obtain ⟨b1, b2, b3, b4, b5⟩ := y
  unfold snv
  have u3 := Tryz.underlying3
  have g3 := Tryz.isAgg3
  have z3 := Tryz.sizeOf3
  have u24 := Tryz.underlying24
  have a24 := Tryz.isAgg24
  have z24 := Tryz.sizeOf24
  have ev : ∀ w, (Op.equalIn 9999 24 (.agg #[iv a3, iv a4]) (.agg #[iv b3, iv b4])).run Tryz.prog w = .ok (decide (a3 = b3 ∧ a4 = b4)) w := fun w => eqV 9997 a3 a4 b3 b4 w
  simp only [Program.fieldsOf, Tryz.underlying33]
  go_simp
  exact ite_dec (ite_dec (ite_vec ite_end))
set_option maxRecDepth 100000 in
set_option maxHeartbeats 16000000 in
theorem eqC (x y : Cr) (w : World) : (Op.equalIn 10000 26 (.agg (crv x).toArray) (.agg (crv y).toArray)).run Tryz.prog w = .ok (decide (x = y)) w := by
  rw [show (10000 : Nat) = 9999 + 1 from rfl, run_equalIn_agg w 9999 26 _ _ (by kernel_rfl) (by kernel_rfl)]
  obtain ⟨a1, a2, a3, a4, a5, a6, a7, a8, a9, a10, a11, a12, a13, a14⟩ := x
  obtain ⟨b1, b2, b3, b4, b5, b6, b7, b8, b9, b10, b11, b12, b13, b14⟩ := y
  unfold crv
  have u3 := Tryz.underlying3
  have g3 := Tryz.isAgg3
  have z3 := Tryz.sizeOf3
  have u9 := Tryz.underlying9
  have a9 := Tryz.isAgg9
  have z9 := Tryz.sizeOf9
  have a24 := Tryz.isAgg24
  have z24 := Tryz.sizeOf24
  have ev : ∀ w, (Op.equalIn 9999 24 (.agg #[iv a3, iv a4]) (.agg #[iv b3, iv b4])).run Tryz.prog w = .ok (decide (a3 = b3 ∧ a4 = b4)) w := fun w => eqV 9997 a3 a4 b3 b4 w
  have ev2 : ∀ w, (Op.equalIn 9999 24 (.agg #[iv a5, iv a6]) (.agg #[iv b5, iv b6])).run Tryz.prog w = .ok (decide (a5 = b5 ∧ a6 = b6)) w := fun w => eqV 9997 a5 a6 b5 b6 w
  simp only [Program.fieldsOf, Tryz.underlying26]
  go_simp
  exact ite_dec (ite_str (ite_vec (ite_vec (ite_dec (ite_dec (ite_dec (ite_dec (ite_dec (ite_dec (ite_dec ite_end))))))))))
end Go.Proofs.YtgedlabmndlooaaGreat

namespace Go.Proofs.YtgedlabmndlooaaGreat
open Go Go.RowKit Go.Maps

theorem neN (x y : Sn) (w : World) : (binOp .neq 33 (.agg (snv x).toArray) (.agg (snv y).toArray)).run Tryz.prog w = .ok (.bool (!decide (x = y))) w := by
  simp only [binOp]
  simp [Op.equal, Op.maxDepth, eqN]
theorem eqlC (x y : Cr) (w : World) : (binOp .eql 26 (.agg (crv x).toArray) (.agg (crv y).toArray)).run Tryz.prog w = .ok (.bool (decide (x = y))) w := by
  simp only [binOp]
  simp [Op.equal, Op.maxDepth, eqC]
set_option maxRecDepth 100000 in
set_option maxHeartbeats 16000000 in
theorem sleq_c (W : World) (va vb : Value) (A B : List Sn) (ha : Ls snv 5 W va A) (hb : Ls snv 5 W vb B) (hn : A.length ≤ 281474976710656) :
    Calls Tryz.prog 27 #[va, vb] W fun e W' => e = .returned (.bool (decide (A = B))) ∧ W.grownBy W' none := by
  obtain ⟨a1, c1, rfl, ha⟩ := ha
  obtain ⟨a2, c2, rfl, hb⟩ := hb
  obtain ⟨n, hna⟩ : ∃ n, A.length = n := ⟨_, rfl⟩
  obtain ⟨m, hmb⟩ : ∃ m, B.length = m := ⟨_, rfl⟩
  rw [hna, hmb]
  rw [hna] at hn
  have HA := Keep.mk ha
  have HBL := Keep.mk hb
  have HNA := Keep.mk hna
  have HMB := Keep.mk hmb
  obtain ⟨du, hdu⟩ := under33
  clear ha hb
  by_cases hnm : n = m
  · subst hnm
    have HB0 := Keep.mk (World.grownBy.refl W none)
    clear hna hmb
    go_enter Tryz.func27, Tryz.ntmps27
    go_wp2_with fail
    go_loopw [13] (fun u13 wr => ∃ i : Nat, i ≤ n ∧ u13 = iv i ∧ Keep (A.take i = B.take i) ∧ Keep (W.grownBy wr none)) (fun u13 _ => (n - intOf u13).toNat)
    case atStart => exact ⟨0, by omega, rfl, ⟨rfl⟩, HB0⟩
    case round =>
      clear HB0
      obtain ⟨i, hi, rfl, HI, HB⟩ := hrel
      by_cases hlt : i < n
      · have hlt1 : (i : Int) < (n : Int) := by omega
        have hi0 : (0 : Int) ≤ (i : Int) := by omega
        have hit : ((i : Nat) : Int).toNat = i := by omega
        have hiw : IntKind.i64.wrap ((i : Int) + 1) = ((i + 1 : Nat) : Int) := by rw [IntKind.wrap_i64]; omega
        obtain ⟨x, hx⟩ : ∃ x, A[i]? = some x := ⟨_, List.getElem?_eq_getElem (by rw [HNA.out]; exact hlt)⟩
        obtain ⟨y, hy⟩ : ∃ y, B[i]? = some y := ⟨_, List.getElem?_eq_getElem (by rw [HMB.out]; exact hlt)⟩
        obtain ⟨g1, o1, e1, q1⟩ := HA.out (by rw [HNA.out]; omega)
        obtain ⟨g2, o2, e2, q2⟩ := HBL.out (by rw [HMB.out]; omega)
        subst e1 e2
        have HX : Keep (W.rangeAt g1 (o1 + i * 5) (snv x)) := ⟨q1 i x hx⟩
        have HY : Keep (W.rangeAt g2 (o2 + i * 5) (snv y)) := ⟨q2 i y hy⟩
        obtain ⟨bb, hbb⟩ : ∃ bb, decide (x = y) = bb := ⟨_, rfl⟩
        have HNE : Keep (∀ w, (Op.equalIn 10000 33 (.agg (snv x).toArray) (.agg (snv y).toArray)).run Tryz.prog w = .ok bb w) := ⟨fun w => by rw [← hbb]; exact eqN x y w⟩
        have HT : Keep (A.take (i + 1) = A.take i ++ [x] ∧ B.take (i + 1) = B.take i ++ [y]) := ⟨⟨by rw [List.take_add_one, hx]; rfl, by rw [List.take_add_one, hy]; rfl⟩⟩
        have HF : Keep (bb = false → A ≠ B) := ⟨fun h e => by
          rw [h] at hbb
          have := of_decide_eq_false hbb
          subst e
          rw [hx] at hy
          injection hy with hy
          exact this hy⟩
        have HTr : Keep (bb = true → A.take (i + 1) = B.take (i + 1)) := ⟨fun h => by
          rw [h] at hbb
          rw [HT.out.1, HT.out.2, HI.out, of_decide_eq_true hbb]⟩
        have HIN : Keep (i < n) := ⟨hlt⟩
        clear q1 q2 hx hy hbb hlt hi
        go_wp2_with fail
        refine region_Y (S := fun w' => W.grownBy w' none) [] (by kernel_rfl) ?_
        obtain ⟨W0, hW0⟩ : ∃ W_, wr.drew = W_ := ⟨_, rfl⟩
        replace HB := Keep.mk (HB.out.trans (gr_drew wr none))
        rw [hW0] at HB ⊢
        clear hW0
        have hHeld := HB.out
        refine yp (i := 0) (v := ?_) rfl (Or.inl ⟨by rfl, ?_⟩) ?_
        rotate_left
        · (intro w hSw; go_simp; first | done | (with_reducible rfl))
        simp only [Act.put, A1, A3, A4, A5, A6]
        refine yp (i := 1) (v := ?_) rfl (Or.inl ⟨by rfl, ?_⟩) ?_
        rotate_left
        · (intro w hSw; go_simp; first | done | (with_reducible rfl))
        simp only [Act.put, A1, A2, A3, A4, A5, A6]
        refine yp (i := 2) (v := ?_) rfl (Or.inl ⟨by rfl, ?_⟩) ?_
        rotate_left
        · (intro w hSw; go_simp; first | done | (with_reducible rfl))
        simp only [Act.put, A1, A2, A3, A4, A5, A6]
        refine yt (i := 3) (v := .agg (snv x).toArray) rfl (yieldsIf_load_mid (by rfl) 33 _ rfl _ _ rfl _ _ (fun w hSw => fun r u hu => hSw.cell (HX.out r u hu) (by simp)) hdu.1 hdu.2 info33) (by assumption) ?_
        simp only [Act.put, A1, A2, A3, A4, A5, A6]
        refine yp (i := 4) (v := ?_) rfl (Or.inl ⟨by rfl, ?_⟩) ?_
        rotate_left
        · (intro w hSw; go_simp; first | done | (with_reducible rfl))
        simp only [Act.put, A1, A2, A3, A4, A5, A6]
        refine yp (i := 5) (v := ?_) rfl (Or.inl ⟨by rfl, ?_⟩) ?_
        rotate_left
        · (intro w hSw; go_simp; first | done | (with_reducible rfl))
        simp only [Act.put, A1, A2, A3, A4, A5, A6]
        refine yp (i := 6) (v := ?_) rfl (Or.inl ⟨by rfl, ?_⟩) ?_
        rotate_left
        · (intro w hSw; go_simp; first | done | (with_reducible rfl))
        simp only [Act.put, A1, A2, A3, A4, A5, A6]
        refine yt (i := 7) (v := .agg (snv y).toArray) rfl (yieldsIf_load_mid (by rfl) 33 _ rfl _ _ rfl _ _ (fun w hSw => fun r u hu => hSw.cell (HY.out r u hu) (by simp)) hdu.1 hdu.2 info33) (by assumption) ?_
        simp only [Act.put, A1, A2, A3, A4, A5, A6]
        refine yp (i := 8) (v := .bool (!bb)) rfl (Or.inl ⟨by rfl, ?_⟩) ?_
        · (intro w hSw; have q := HNE.out w; go_simp; first | done | rfl | (simp; done) | trace_state)
        simp only [Act.put, A1, A2, A3, A4, A5, A6]
        refine wpAnyY_done (by kernel_rfl) ?_ _
        clear hHeld
        cases bb
        · have HE : Keep (decide (A = B) = false) := ⟨decide_eq_false (HF.out (by simp))⟩
          go_wp2_with fail
          go_ret
          exact ⟨by rw [HE.out]; rfl, HB.out⟩
        · have HI2 := Keep.mk (HTr.out (by simp))
          go_wp2_with fail
          go_roundw
          case rel => exact ⟨i + 1, HIN.out, rfl, HI2, HB⟩
          case measure => simp [intOf]; have := HIN.out; omega
      · have hlt1 : ¬ (i : Int) < (n : Int) := by omega
        have HE : Keep (decide (A = B) = true) := ⟨decide_eq_true (by
          have q := HI.out
          rw [show i = A.length by rw [HNA.out]; omega, List.take_length, show A.length = B.length by rw [HNA.out, HMB.out], List.take_length] at q
          exact q)⟩
        clear hlt hi
        go_wp2_with fail
        go_ret
        exact ⟨by rw [HE.out]; rfl, HB.out⟩
  · have hne : ((n : Int) == (m : Int)) = false := by simp; omega
    have hne2 : ¬ (n : Int) = (m : Int) := by omega
    have HE : Keep (decide (A = B) = false) := ⟨decide_eq_false (fun e => hnm (by rw [← hna, ← hmb, e]))⟩
    have HG := Keep.mk (World.grownBy.refl W none)
    clear hna hmb hnm
    go_enter Tryz.func27, Tryz.ntmps27
    go_wp2_with fail
    go_ret
    exact ⟨by rw [HE.out]; rfl, HG.out⟩
end Go.Proofs.YtgedlabmndlooaaGreat
