/- Near: its rows, its walk. -/
import Derived.Test.YthhpbonacefmaaaDoorA1
import Derived.Test.YthhpbonacefmaaaDoorP3
namespace Go.Proofs.YthhpbonacefmaaaDoor
open Go Go.RowKit

/-- a row of runes -/
def Rs (w : World) (ob : Nat) (y : List Nat) : Prop := ∀ (j : Nat) x, y[j]? = some x → w.cell? ⟨ob, j, none⟩ = some (.int .i32 x)
theorem Rs.kept {w w' : World} {ob : Nat} {y : List Nat} {row : Option Nat} (h : Rs w ob y) (hg : w.grownBy w' row) (hne : some ob ≠ row) : Rs w' ob y :=
  fun j x hx => hg.cell (h j x hx) hne

set_option maxHeartbeats 2000000 in
theorem stands_c (ob c r : Nat) (y : List Nat) (t : Int) (w : World) (h : Rs w ob y) :
    Calls Tryd.prog 47 #[.int .i32 r, .slice (some ⟨ob, 0, none⟩) y.length c, iv t] w fun e w' => e = .returned (.bool (stnd y r t)) ∧ w' = w := by
  go_enter Tryd.func47, Tryd.ntmps47
  by_cases h0 : 0 ≤ t
  · by_cases h1 : t < y.length
    · obtain ⟨k, rfl⟩ : ∃ k : Nat, t = k := ⟨t.toNat, by omega⟩
      have hk : k < y.length := by omega
      have hc := h k _ (List.getElem?_eq_getElem hk)
      have HS : Keep (stnd y r (k : Int) = decide ((y[k] : Int) = r)) := ⟨by
        unfold stnd
        rw [Int.toNat_natCast, List.getElem?_eq_getElem hk]
        apply decide_eq_decide.2
        constructor
        · rintro ⟨_, h⟩; injection h with h; omega
        · intro h; exact ⟨by omega, by congr 1; omega⟩⟩
      generalize y[k] = z at hc HS
      go_wp2_with fail
      go_ret
      rw [HS.out]
      have e : ((z : Int) == (r : Int)) = decide ((z : Int) = r) := rfl
      exact ⟨by simp [e], rfl⟩
    · have HS : Keep (stnd y r t = false) := ⟨by
        simp only [stnd, decide_eq_false_iff_not]
        rintro ⟨_, h⟩
        have := (List.getElem?_eq_some_iff.1 h).1
        omega⟩
      go_wp2_with fail
      go_ret
      rw [HS.out]
      exact ⟨rfl, rfl⟩
  · have HS : Keep (stnd y r t = false) := ⟨by simp only [stnd, decide_eq_false_iff_not]; omega⟩
    go_wp2_with fail
    go_ret
    rw [HS.out]
    exact ⟨rfl, rfl⟩

/-- a row of numbers -/
def nv (l : List Nat) : List Value := l.map fun (x : Nat) => Value.int .i64 (x : Int)
theorem nv_get (l : List Nat) (j : Nat) : (nv l)[j]? = (l[j]?).map fun (x : Nat) => Value.int .i64 (x : Int) := by simp [nv]
theorem nv_set (l : List Nat) (j x : Nat) : nv (l.set j x) = (nv l).set j (.int .i64 x) := by simp [nv, List.map_set]
theorem under50 : Tryd.prog.underlying 50 = some (.array 17 3) := by kernel_rfl
theorem min4 (ts : Array TypeId) (t : TypeId) (a b c d m : Int) (hm : m = min a (min b (min c d))) (W : World) : (Builtin.min_ ts t #[.int .i64 a, .int .i64 b, .int .i64 c, .int .i64 d]).run Tryd.prog W = .ok (.int .i64 m) W := by
  subst hm
  simp only [Builtin.min_]
  simp [Builtin.min2]
  omega

set_option maxHeartbeats 4000000 in
theorem next_c (rb ob c n r : Nat) (x y : List Nat) (w : World) (hr : x[n]? = some r) (hn : n < 4611686018427387904) (hH : Has w rb (nv (rowOf x y n)) 50) (hR : Rs w ob y) (hne : ob ≠ rb) :
    Calls Tryd.prog 30 #[.pointer (some ⟨rb, 0, none⟩), .int .i32 r, .slice (some ⟨ob, 0, none⟩) y.length c, iv n] w fun e w' => e = .returned (.tuple #[]) ∧ Has w' rb (nv (rowOf x y (n + 1))) 50 ∧ w.grownBy w' (some rb) := by
  have hnl : n < x.length := (List.getElem?_eq_some_iff.1 hr).1
  rw [← rowAt_first x y n hnl] at hH
  rw [← rowAt_last x y n hnl]
  have HR := Keep.mk hr
  clear hr hnl
  have HX := Keep.mk hR
  clear hR
  go_enter Tryd.func30, Tryd.ntmps30
  go_wp2_with fail
  go_loopw [8] (fun i w' => ∃ d : Nat, i = .int .i64 (d + 1) ∧ d ≤ 15 ∧ Has w' rb (nv (rowAt x y n (d + 1))) 50 ∧ w.grownBy w' (some rb)) (fun i _ => (17 - intOf i).toNat)
  case atStart => exact ⟨0, rfl, by omega, hH, World.grownBy.refl _ _⟩
  case round =>
    clear hH
    obtain ⟨d, rfl, hd, hH, hg⟩ := hrel
    by_cases h15 : d = 15
    · subst h15
      go_wp2_with fail
      exact bodyPost_end (results_none rfl _ _ _) rfl ⟨rfl, hH, hg⟩
    · have g0 : (nv (rowAt x y n (d + 1)))[d]? = some (.int .i64 (rowv x y (n + 1) d)) := by rw [nv_get, rowAt_get _ _ _ _ _ (by omega), if_pos (by omega)]; rfl
      have g1 : (nv (rowAt x y n (d + 1)))[d + 1]? = some (.int .i64 (rowv x y n (d + 1))) := by rw [nv_get, rowAt_get _ _ _ _ _ (by omega), if_neg (by omega)]; rfl
      have g2 : (nv (rowAt x y n (d + 1)))[d + 2]? = some (.int .i64 (rowv x y n (d + 2))) := by rw [nv_get, rowAt_get _ _ _ _ _ (by omega), if_neg (by omega)]; rfl
      have c0 := hH.cellv _ _ g0
      have c1 := hH.cellv _ _ g1
      have c2 := hH.cellv _ _ g2
      have f1 := hH.frozen (d + 1)
      have l0 := rowv_le x y (n + 1) d
      have l1 := rowv_le x y n (d + 1)
      have l2 := rowv_le x y n (d + 2)
      have HS := Keep.mk (rowv_step x y n d r HR.out)
      have HH := Keep.mk hH
      have HG := Keep.mk hg
      clear g0 g1 g2 hH hg
      generalize rowv x y (n + 1) d = v0 at c0 l0 HS
      generalize rowv x y n (d + 1) = v1 at c1 l1 HS
      generalize rowv x y n (d + 2) = v2 at c2 l2 HS
      go_wp2_with fail
      refine (stands_c ob c r y _ wr (HX.out.kept HG.out (by simpa using hne))).mono ?_
      rintro e w1 ⟨rfl, rfl⟩
      obtain ⟨S, hS⟩ : ∃ S, stnd y r ((n : Int) + (d + 1) - 8) = S := ⟨_, rfl⟩
      rw [hS] at HS ⊢
      obtain ⟨R, hR⟩ : ∃ R, rowv x y (n + 1) (d + 1) = R := ⟨_, rfl⟩
      rw [hR] at HS
      have HR2 := Keep.mk hR
      clear hS hR
      have hr8 : R ≤ 8 := by rw [HS.out]; omega
      cases S
      · have hm := min4 #[3, 3, 3, 3] 3 ((v1 : Int) + 1) ((v0 : Int) + 1) ((v2 : Int) + 1) 8 R (by rw [HS.out]; simp; omega)
        clear HS
        go_wp2_with fail
        exact ⟨⟨d + 1, by simp, by omega, by rw [← rowAt_set x y n (d + 1) (by omega), nv_set, HR2.out]; exact HH.out.setCell _ _, HG.out.trans (gr_set _ _ _ _)⟩, by simp [intOf]; omega⟩
      · have hm := min4 #[3, 3, 3, 3] 3 (v1 : Int) ((v0 : Int) + 1) ((v2 : Int) + 1) 8 R (by rw [HS.out]; simp; omega)
        clear HS
        go_wp2_with fail
        exact ⟨⟨d + 1, by simp, by omega, by rw [← rowAt_set x y n (d + 1) (by omega), nv_set, HR2.out]; exact HH.out.setCell _ _, HG.out.trans (gr_set _ _ _ _)⟩, by simp [intOf]; omega⟩

/-- the first row in the making -/
def fst (d : Nat) : List Nat := (List.range 17).map fun j => if j < d then (if j < 8 then 8 else j - 8) else 0
theorem fst_get (d j : Nat) (h : j < 17) : (fst d)[j]? = some (if j < d then (if j < 8 then 8 else j - 8) else 0) := by simp [fst, h]
theorem fst_set (d : Nat) (h : d < 17) : (fst d).set d (if d < 8 then 8 else d - 8) = fst (d + 1) := by
  apply List.ext_getElem?
  intro j
  rw [List.getElem?_set]
  by_cases hj : j < 17
  · rw [fst_get _ _ hj, fst_get _ _ hj]
    have hl : (fst d).length = 17 := by simp [fst]
    rw [hl]
    by_cases e : d = j
    · subst e; rw [if_pos rfl, if_pos h, if_pos (Nat.lt_succ_self _)]
    · rw [if_neg e]
      congr 1
      by_cases h2 : j < d
      · rw [if_pos h2, if_pos (show j < d + 1 by omega)]
      · rw [if_neg h2, if_neg (show ¬ j < d + 1 by omega)]
  · have e1 : (fst d)[j]? = none := by simp [fst]; omega
    have e2 : (fst (d + 1))[j]? = none := by simp [fst]; omega
    rw [if_neg (by omega), e1, e2]
theorem fst_end (x y : List Nat) : fst 17 = rowOf x y 0 := by
  unfold fst rowOf
  apply List.map_congr_left
  intro j hj
  have : j < 17 := by simpa using hj
  rw [if_pos this, rowv_first _ _ _ (by omega)]
theorem info50a : (Tryd.prog.info? 50).map (·.size) = some 17 := by kernel_rfl
theorem info50 (l : List Nat) (h : l.length = 17) : (Tryd.prog.info? 50).map (·.size) = some (nv l).length := by
  have : (nv l).length = 17 := by simp [nv, h]
  rw [this]; exact info50a
theorem nv_one (l : List Nat) : (nv l).toArray.all (·.oneCell') = true := by
  simp [nv, List.all_eq_true]
  intro x _; rfl

set_option maxHeartbeats 4000000 in
theorem firstRow_c (x y : List Nat) (w : World) :
    Calls Tryd.prog 29 #[] w fun e w' => e = .returned (.agg (nv (rowOf x y 0)).toArray) ∧ w.grownBy w' none := by
  rw [← fst_end]
  obtain ⟨L, hL⟩ : ∃ L, fst 17 = L := ⟨_, rfl⟩
  rw [hL]
  have HL : Keep (fst 17 = L ∧ L.length = 17) := ⟨hL, by rw [← hL]; simp [fst]⟩
  clear hL
  go_enter Tryd.func29, Tryd.ntmps29
  go_wp2_with fail
  go_loopw [3] (fun i w' => ∃ d : Nat, i = .int .i64 d ∧ d ≤ 17 ∧ Has w' (w.heap.size + 1) (nv (fst d)) 50 ∧ Has w' w.heap.size (nv (fst 0)) 50 ∧ w.grownBy w' none) (fun i _ => (17 - intOf i).toNat)
  case atStart =>
    have e : w.heap.size + 1 = (w.alloc (.cells (nv (fst 0)).toArray 50)).heap.size := by simp
    refine ⟨0, rfl, by omega, ?_, (Has.new w (nv (fst 0)) 50).alloc _, (World.grownBy_alloc _ _ _).trans (World.grownBy_alloc _ _ _)⟩
    rw [e]
    exact Has.new _ (nv (fst 0)) 50
  case round =>
    obtain ⟨d, rfl, hd, hH, hZ, hg⟩ := hrel
    by_cases h17 : d = 17
    · subst h17
      rw [HL.out.1] at hH
      have HZ := Keep.mk hZ
      have HH := Keep.mk hH
      have HG := Keep.mk hg
      clear hZ hH hg
      go_wp2_with (first
        | (refine wpList_load_mid rfl 50 _ rfl _ _ rfl _ _ HH.out.range under50 rfl (info50 L HL.out.2) ?_)
        | (refine wpList_store_mid rfl 50 _ _ rfl _ _ _ rfl rfl (HZ.out.there 0 _ (by rw [List.size_toArray]; simp [nv, HL.out.2, fst])) (info50 L HL.out.2) (nv_one L) ?_))
      have hF := HZ.out.setAll (nv L) (by simp [nv, HL.out.2, fst])
      exact ret_cell rfl rfl hF under50 rfl (info50 L HL.out.2) rfl ⟨rfl, gr_new HG.out (gr_sets _ _ _ _) (Nat.le_refl _)⟩
    · have c1 := hH.cellv d _ (by rw [nv_get, fst_get _ _ (by omega)]; rfl)
      have f1 := hH.frozen d
      have HZ := Keep.mk hZ
      have HH := Keep.mk hH
      have HG := Keep.mk hg
      clear hZ hH hg
      by_cases h8 : d < 8
      · have hS := fst_set d (by omega)
        rw [if_pos h8] at hS
        have HS := Keep.mk hS
        clear hS
        go_wp2_with fail
        exact ⟨⟨d + 1, by simp, by omega, by rw [← HS.out, nv_set]; exact HH.out.setCell _ _, HZ.out.other _ _ (by simp), gr_new HG.out (gr_set _ _ _ _) (by omega)⟩, by simp [intOf]; omega⟩
      · have hS := fst_set d (by omega)
        rw [if_neg h8] at hS
        have HS := Keep.mk hS
        clear hS
        obtain ⟨e, he⟩ : ∃ e : Nat, (d : Int) - 8 = e := ⟨d - 8, by omega⟩
        have HE : Keep (d - 8 = e) := ⟨by omega⟩
        go_wp2_with fail
        refine ⟨⟨d + 1, by simp, by omega, ?_, (HZ.out.other _ _ (by simp)).other _ _ (by simp), gr_new (gr_new HG.out (gr_set _ _ _ _) (by omega)) (gr_set _ _ _ _) (by omega)⟩, by simp [intOf]; omega⟩
        have := (HH.out.setCell d (.int .i64 8)).setCell d (.int .i64 e)
        rw [List.set_set, ← nv_set, ← HE.out, HS.out] at this
        rw [← HE.out]
        exact this
end Go.Proofs.YthhpbonacefmaaaDoor
