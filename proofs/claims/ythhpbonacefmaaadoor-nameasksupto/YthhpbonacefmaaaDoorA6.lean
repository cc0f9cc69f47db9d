/- Near. -/
import Derived.Test.YthhpbonacefmaaaDoorA5
import Derived.Laws.IdiomStrings
namespace Go.Proofs.YthhpbonacefmaaaDoor
open Go Go.RowKit

/-- the runes' numbers -/
def nums (s : ByteArray) : List Nat := (pieces (sl s)).map Prod.fst
theorem nums_len (s : ByteArray) : (nums s).length = rn s := by simp [nums, rn]
abbrev rvs (l : List Nat) : List Value := l.map fun (x : Nat) => Value.int .i32 (x : Int)

theorem runesFrom_eq (s : ByteArray) : ∀ (bound i : Nat) (acc : Array Value), (sl s).length - i ≤ bound →
    Conv.runesFrom s bound i acc = acc ++ (rvs ((pieces ((sl s).drop i)).map Prod.fst)).toArray
  | 0, i, acc, h => by
    have : (sl s).drop i = [] := List.drop_eq_nil_of_le (by omega)
    rw [this, pieces_nil]; simp [Conv.runesFrom]
  | bound + 1, i, acc, h => by
    rw [Conv.runesFrom]
    by_cases hi : i < s.size
    · have hne : (sl s).drop i ≠ [] := by
        intro e
        have := congrArg List.length e
        rw [List.length_drop, sl_len] at this
        simp at this; omega
      have hw := dec_w hne
      rw [if_pos hi, dec_at]
      simp only
      rw [runesFrom_eq s bound _ _ (by omega), pieces_cons _ hne, List.drop_drop]
      simp
    · rw [if_neg hi]
      have : (sl s).drop i = [] := List.drop_eq_nil_of_le (by rw [sl_len]; omega)
      rw [this, pieces_nil]; simp
theorem runes_eq (s : ByteArray) : Conv.runesFrom s s.size 0 #[] = (rvs (nums s)).toArray := by
  rw [runesFrom_eq s s.size 0 #[] (by rw [sl_len]; omega), List.drop_zero]
  simp [nums]
theorem cvt_runes (s : ByteArray) (h : rn s ≤ 70368744177664) (W : World) : (convert 9 48 (.string s)).run Tryd.prog W =
    .ok (.slice (some ⟨W.heap.size, 0, none⟩) (rn s) (grownCap W (rn s) 0 21)) (W.drew.alloc (.cells ((rvs (nums s)).toArray ++ Array.replicate (grownCap W (rn s) 0 21 - rn s) (.int .i32 0)) 21)) := by
  have hz : (Conv.runesFrom s s.size 0 #[]).size = rn s := by rw [runes_eq]; simp [nums_len]
  have := run_runes_of_string (P := Tryd.prog) W 9 48 21 s (by kernel_rfl) (by kernel_rfl) (by kernel_rfl) (by rw [hz]; exact h)
  rw [hz, runes_eq] at this
  exact this
theorem rs_new (W : World) (y : List Nat) (m : Nat) : Rs (W.drew.alloc (.cells ((rvs y).toArray ++ Array.replicate m (.int .i32 0)) 21)) W.heap.size y := by
  intro j x hx
  have := (Has.newA W.drew ((rvs y).toArray ++ Array.replicate m (.int .i32 0)) 21).cell j
  have hj := (List.getElem?_eq_some_iff.1 hx).1
  show (W.drew.alloc _).cell? ⟨W.drew.heap.size, j, none⟩ = _
  rw [this]
  simp [rvs, List.getElem?_append, hj, (List.getElem?_eq_some_iff.1 hx).2]

set_option maxHeartbeats 4000000 in
theorem near_c (a b : ByteArray) (w : World) (ha : a.size ≤ 281474976710656) (hb : rn b ≤ 70368744177664) :
    Calls Tryd.prog 17 #[.string a, .string b] w fun e w' => e = .returned (iv (nr (nums a) (nums b))) ∧ w.grownBy w' none := by
  have hra := rn_le a
  go_enter Tryd.func17, Tryd.ntmps17
  have hcv := cvt_runes b hb w
  obtain ⟨c, hc⟩ : ∃ c, grownCap w (rn b) 0 21 = c := ⟨_, rfl⟩
  rw [hc] at hcv
  obtain ⟨w1, hw1⟩ : ∃ q, (w.drew.alloc (.cells ((rvs (nums b)).toArray ++ Array.replicate (c - rn b) (.int .i32 0)) 21)) = q := ⟨_, rfl⟩
  rw [hw1] at hcv
  have H1 : Keep (Rs w1 w.heap.size (nums b) ∧ w.grownBy w1 none ∧ w.heap.size < w1.heap.size) := ⟨by
    subst hw1
    exact ⟨rs_new w _ _, (gr_drew w none).trans (World.grownBy_alloc _ _ _), by simp⟩⟩
  clear hw1 hc
  go_wp2_with fail
  refine (firstRow_c (nums a) (nums b) w1).mono ?_
  rintro e w2 ⟨rfl, hG⟩
  have H2 : Keep (Rs w2 w.heap.size (nums b) ∧ w.grownBy w2 none ∧ w.heap.size < w2.heap.size) := ⟨H1.out.1.kept hG (by simp), H1.out.2.1.trans hG, Nat.lt_of_lt_of_le H1.out.2.2 hG.size⟩
  clear hG H1 hcv
  obtain ⟨L, hL⟩ : ∃ L, rowOf (nums a) (nums b) 0 = L := ⟨_, rfl⟩
  rw [hL]
  have HL : Keep (rowOf (nums a) (nums b) 0 = L ∧ L.length = 17) := ⟨hL, by rw [← hL]; simp [rowOf]⟩
  clear hL
  go_wp2_with (refine wpList_store_mid rfl 50 _ _ rfl _ _ _ rfl rfl ((Has.newA w2 _ 50).there 0 _ (by rw [List.size_toArray]; simp [nv, HL.out.2])) (info50 L HL.out.2) (nv_one L) ?_; generalize hw3 : World.setCells _ _ _ _ = w3)
  have H3 : Keep (Rs w3 w.heap.size (nums b) ∧ w.grownBy w3 none ∧ Has w3 w2.heap.size (nv (rowOf (nums a) (nums b) 0)) 50) := ⟨by
    have hA := World.grownBy_alloc w2 (.cells #[Value.int IntKind.i64 0, Value.int IntKind.i64 0, Value.int IntKind.i64 0, Value.int IntKind.i64 0, Value.int IntKind.i64 0, Value.int IntKind.i64 0, Value.int IntKind.i64 0, Value.int IntKind.i64 0, Value.int IntKind.i64 0, Value.int IntKind.i64 0, Value.int IntKind.i64 0, Value.int IntKind.i64 0, Value.int IntKind.i64 0, Value.int IntKind.i64 0, Value.int IntKind.i64 0, Value.int IntKind.i64 0, Value.int IntKind.i64 0] 50) none
    have hB := gr_sets w2.heap.size (nv L) (w2.alloc (.cells #[Value.int IntKind.i64 0, Value.int IntKind.i64 0, Value.int IntKind.i64 0, Value.int IntKind.i64 0, Value.int IntKind.i64 0, Value.int IntKind.i64 0, Value.int IntKind.i64 0, Value.int IntKind.i64 0, Value.int IntKind.i64 0, Value.int IntKind.i64 0, Value.int IntKind.i64 0, Value.int IntKind.i64 0, Value.int IntKind.i64 0, Value.int IntKind.i64 0, Value.int IntKind.i64 0, Value.int IntKind.i64 0, Value.int IntKind.i64 0] 50)) 0
    have hC := (Has.newA w2 #[Value.int IntKind.i64 0, Value.int IntKind.i64 0, Value.int IntKind.i64 0, Value.int IntKind.i64 0, Value.int IntKind.i64 0, Value.int IntKind.i64 0, Value.int IntKind.i64 0, Value.int IntKind.i64 0, Value.int IntKind.i64 0, Value.int IntKind.i64 0, Value.int IntKind.i64 0, Value.int IntKind.i64 0, Value.int IntKind.i64 0, Value.int IntKind.i64 0, Value.int IntKind.i64 0, Value.int IntKind.i64 0, Value.int IntKind.i64 0] 50).setAll (nv L) (by simp [nv, HL.out.2])
    simp only [hw3] at hB hC
    refine ⟨(H2.out.1.kept hA (by simp)).kept hB (by have := H2.out.2.2; simp; omega), gr_new (H2.out.2.1.trans hA) hB (by have := H2.out.2.1.size; omega), by rw [HL.out.1]; exact hC⟩⟩
  have HD : Keep (w.heap.size < w2.heap.size ∧ w.heap.size < w3.heap.size) := ⟨H2.out.2.2, Nat.lt_trans H2.out.2.2 H3.out.2.2.lt⟩
  have HB3 : Keep (w2.heap.size < w3.heap.size) := ⟨H3.out.2.2.lt⟩
  clear hw3 H2 HL
  obtain ⟨rb, hrb⟩ : ∃ q, w2.heap.size = q := ⟨_, rfl⟩
  rw [hrb] at H3 HD HB3 ⊢
  clear hrb
  have hnb := nums_len b
  rw [← hnb] at hb ⊢
  clear hnb
  go_loopw [7] (fun i w' => ∃ n : Nat, i = .int .i64 n ∧ Keep (It w' w3.heap.size a n ∧ Rs w' w.heap.size (nums b) ∧ Has w' rb (nv (rowOf (nums a) (nums b) n)) 50 ∧ w.grownBy w' none)) (fun _ w' => a.size - w'.iterPos w3.heap.size)
  case atStart => exact ⟨0, rfl, ⟨It.new w3 a, H3.out.1.kept (gr_iter _ _ _) (by simp), H3.out.2.2.kept (gr_iter _ _ _) (by simp), H3.out.2.1.trans (gr_iter _ _ _)⟩⟩
  case round =>
    clear H3
    obtain ⟨n, rfl, HS⟩ := hrel
    have hnl := HS.out.1.le
    by_cases hn : n = rn a
    · have hnx := HS.out.1.stop hn
      have HA : Keep ((nums a).length = n) := ⟨by rw [nums_len, hn]⟩
      have hn48 : n ≤ 281474976710656 := by omega
      clear hn hnl
      obtain ⟨m, hm⟩ : ∃ m, (nums b).length = m := ⟨_, rfl⟩
      have HM := Keep.mk hm
      rw [hm] at hb ⊢
      clear hm
      by_cases hf : (8 : Int) + m - n < 0
      · have HN : Keep (nr (nums a) (nums b) = 8) := ⟨nr_far (by rw [HA.out, HM.out]; omega)⟩
        go_wp2_with fail
        go_ret
        rw [HN.out]
        exact ⟨rfl, HS.out.2.2.2⟩
      by_cases hf2 : 17 ≤ (8 : Int) + m - n
      · have HN : Keep (nr (nums a) (nums b) = 8) := ⟨nr_far (by rw [HA.out, HM.out]; omega)⟩
        go_wp2_with fail
        go_ret
        rw [HN.out]
        exact ⟨rfl, HS.out.2.2.2⟩
      obtain ⟨D, hD⟩ : ∃ D : Nat, (8 : Int) + m - n = D := ⟨8 + m - n, by omega⟩
      have HN : Keep (rowv (nums a) (nums b) n D = nr (nums a) (nums b)) := ⟨by
        have := rowv_end (nums a) (nums b) (by rw [HA.out, HM.out]; omega) (by rw [HA.out, HM.out]; omega)
        rw [HA.out, HM.out] at this
        rw [← this]; congr 1; omega⟩
      have hc : wr.cell? ⟨rb, D, none⟩ = some (.int .i64 (nr (nums a) (nums b))) := by
        refine HS.out.2.2.1.cellv D _ ?_
        rw [nv_get, rowOf]
        simp [show D < 17 by omega, HN.out]
      have hD0 : D < 17 := by omega
      go_wp2_with fail
      go_ret
      exact ⟨rfl, HS.out.2.2.2⟩
    · obtain ⟨p, w4, hp, hnx, hN, hG, hm⟩ := HS.out.1.move hn
      have H4 : Keep (It w4 w3.heap.size a (n + 1) ∧ Rs w4 w.heap.size (nums b) ∧ Has w4 rb (nv (rowOf (nums a) (nums b) n)) 50 ∧ w.grownBy w4 none) :=
        ⟨hN, HS.out.2.1.kept hG (by have := HD.out; simp; omega), HS.out.2.2.1.kept hG (by have := HB3.out; simp; omega), gr_new HS.out.2.2.2 hG (by have := HD.out; omega)⟩
      have hn62 : n < 4611686018427387904 := by omega
      clear hN hG HS
      go_wp2_with fail
      refine (next_c rb w.heap.size c n p.1 (nums a) (nums b) w4 (by rw [nums, List.getElem?_map, hp.out]; rfl) hn62 H4.out.2.2.1 H4.out.2.1 (by have := HD.out; omega)).mono ?_
      rintro e w5 ⟨rfl, hH5, hG5⟩
      have H5 : Keep (It w5 w3.heap.size a (n + 1) ∧ Rs w5 w.heap.size (nums b) ∧ Has w5 rb (nv (rowOf (nums a) (nums b) (n + 1))) 50 ∧ w.grownBy w5 none) :=
        ⟨⟨by rw [hG5.block _ H4.out.1.lt (by have := HB3.out; simp; omega)]; exact H4.out.1.at_, H4.out.1.le⟩, H4.out.2.1.kept hG5 (by have := HD.out; simp; omega), hH5, gr_new H4.out.2.2.2 hG5 (by have := HD.out; omega)⟩
      have hm5 : Keep (a.size - w5.iterPos w3.heap.size < a.size - wr.iterPos w3.heap.size) := ⟨by rw [H5.out.1.pos, ← H4.out.1.pos]; exact hm.out⟩
      clear hH5 hG5 H4 hm hnx
      go_wp2_with fail
      go_roundw
      case rel => exact ⟨n + 1, by simp, H5⟩
      case measure => exact hm5.out
end Go.Proofs.YthhpbonacefmaaaDoor
