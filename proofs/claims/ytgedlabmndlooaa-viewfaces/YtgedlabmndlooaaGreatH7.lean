/- H5, H6, H7 -/
import Derived.Test.YtgedlabmndlooaaGreatH4
import Derived.Test.YtgedlabmndlooaaGreatLS1
import Derived.Laws.EntriesVeiled
import Derived.Laws.MakeOwn
namespace Go.Proofs.YtgedlabmndlooaaGreat
open Go Go.RowKit Go.Shelf Go.Lib Go.Sort

set_option maxRecDepth 100000 in
theorem nan54 (a : Int) (W : World) : Calls Tryz.prog 122 #[.int .i64 a] W fun e w' => e = .returned (.bool false) ∧ w' = W := by
  go_enter Tryz.func122, Tryz.ntmps122
  go_wp2_with fail
  go_ret
  exact ⟨by simp, rfl⟩
set_option maxRecDepth 100000 in
set_option maxHeartbeats 4000000 in
theorem cmp45 (a b : Int) (W : World) : Calls Tryz.prog 110 #[.int .i64 a, .int .i64 b] W fun e w' => e = .returned (.int .i64 (Lib.compareInt a b)) ∧ w' = W := by
  by_cases h1 : a < b
  · have HE : Keep (Lib.compareInt a b = -1) := ⟨by unfold Lib.compareInt; simp [h1]⟩
    go_enter Tryz.func110, Tryz.ntmps110
    go_wp2_with (go_at_call 122; refine (nan54 _ _).mono ?_; rintro e w' ⟨rfl, rfl⟩)
    go_ret
    rw [HE.out]
    exact ⟨rfl, rfl⟩
  · by_cases h2 : b < a
    · have HE : Keep (Lib.compareInt a b = 1) := ⟨by unfold Lib.compareInt; simp [h1, h2]⟩
      go_enter Tryz.func110, Tryz.ntmps110
      go_wp2_with (go_at_call 122; refine (nan54 _ _).mono ?_; rintro e w' ⟨rfl, rfl⟩)
      go_ret
      rw [HE.out]
      exact ⟨rfl, rfl⟩
    · have HE : Keep (Lib.compareInt a b = 0) := ⟨by unfold Lib.compareInt; simp [h1, h2]⟩
      go_enter Tryz.func110, Tryz.ntmps110
      go_wp2_with (go_at_call 122; refine (nan54 _ _).mono ?_; rintro e w' ⟨rfl, rfl⟩)
      go_ret
      rw [HE.out]
      exact ⟨rfl, rfl⟩
set_option maxRecDepth 100000 in
theorem num32 (w : World) (tb : Nat) (k : Int) (c0 : w.cell? ⟨tb, 0, none⟩ = some (iv k)) : Calls Tryz.prog 92 #[pt tb] w fun e w' => e = .returned (iv k) ∧ w' = w := by
  go_enter Tryz.func92, Tryz.ntmps92
  go_wp2_with fail
  go_ret
  exact ⟨rfl, rfl⟩
set_option maxRecDepth 100000 in
set_option maxHeartbeats 4000000 in
theorem far35 (w : World) (tb ab : Nat) (x y tx ty : Int) (hx : I64 x) (hy : I64 y) (htx : I64 tx) (hty : I64 ty) (c0 : w.cell? ⟨ab, 0, none⟩ = some (iv x)) (c1 : w.cell? ⟨ab, 1, none⟩ = some (iv y)) (d1 : w.cell? ⟨tb, 1, none⟩ = some (iv tx)) (d2' : w.cell? ⟨tb, 2, none⟩ = some (iv ty)) :
    Calls Tryz.prog 90 #[pt tb, pt ab] w fun e w' => e = .returned (iv (d2 x y tx ty)) ∧ Gw w w' := by
  have HD := Keep.mk (fun w => dist_c x y tx ty hx hy htx hty w)
  generalize d2 x y tx ty = d at *
  clear hx hy htx hty
  go_enter Tryz.func90, Tryz.ntmps90
  go_wp2_with fail
  refine region_X (S := fun w' => Gw w w') [] (by kernel_rfl) (Gw.drew w) (fun hHeld => ?_)
  replace HB := Keep.mk hHeld
  refine wpAnyX_take (i := 0) (oi := _) (v := .agg #[iv x, iv y]) rfl (by kernel_rfl) (by kernel_rfl) (by kernel_rfl) (by kernel_rfl) (by kernel_rfl) (fun _ _ _ h => h) (Or.inl ⟨by rfl, ?_⟩) (by assumption) ?_
  · (intro w hSw; have q0 := hSw.g.cell c0 nofun; have q1 := hSw.g.cell c1 nofun; go_simp; first | done | rfl | (simp; done) | trace_state)
  simp only [Act.put, A1, A3, A4, A5, A6]
  refine wpAnyX_take (i := 1) (oi := _) (v := ?_) rfl (by kernel_rfl) (by kernel_rfl) (by kernel_rfl) (by kernel_rfl) (by kernel_rfl) (fun _ _ _ h => h) (Or.inl ⟨by rfl, ?_⟩) (by assumption) ?_
  rotate_left
  · (intro w hSw; go_simp; first | done | (with_reducible rfl))
  simp only [Act.put, A1, A2, A3, A4, A5, A6]
  refine wpAnyX_take (i := 2) (oi := _) (v := ?_) rfl (by kernel_rfl) (by kernel_rfl) (by kernel_rfl) (by kernel_rfl) (by kernel_rfl) (fun _ _ _ h => h) (Or.inl ⟨by rfl, ?_⟩) (by assumption) ?_
  rotate_left
  · (intro w hSw; go_simp; first | done | (with_reducible rfl))
  simp only [Act.put, A1, A2, A3, A4, A5, A6]
  refine wpAnyX_take (i := 3) (oi := _) (v := ?_) rfl (by kernel_rfl) (by kernel_rfl) (by kernel_rfl) (by kernel_rfl) (by kernel_rfl) (fun _ _ _ h => h) (Or.inl ⟨by rfl, ?_⟩) (by assumption) ?_
  rotate_left
  · (intro w hSw; go_simp; first | done | (with_reducible rfl))
  simp only [Act.put, A1, A2, A3, A4, A5, A6]
  refine wpAnyX_take (i := 4) (oi := _) (v := .agg #[iv tx, iv ty]) rfl (by kernel_rfl) (by kernel_rfl) (by kernel_rfl) (by kernel_rfl) (by kernel_rfl) (fun _ _ _ h => h) (Or.inl ⟨by rfl, ?_⟩) (by assumption) ?_
  · (intro w hSw; have q0 := hSw.g.cell d1 nofun; have q1 := hSw.g.cell d2' nofun; go_simp; first | done | rfl | (simp; done) | trace_state)
  simp only [Act.put, A1, A2, A3, A4, A5, A6]
  refine wpAnyX_one (i := 5) (by kernel_rfl) rfl (fun K hK => ?_)
  go_simp
  refine (HD.out _).mono ?_
  rintro e wg ⟨rfl, hg⟩
  replace HB := Keep.mk (HB.out.trans hg)
  refine hK.out _ _ HB.out (fun hHeld => ?_)
  clear hK K hg
  refine wpAnyX_one (i := 6) (by kernel_rfl) rfl (fun K hK => ?_)
  go_simp
  refine hK.out _ _ HB.out (fun hHeld => ?_)
  clear hK K
  refine wpAnyX_done (by kernel_rfl) ?_ _
  go_wp2_with fail
  go_ret
  exact ⟨rfl, HB.out⟩
set_option maxRecDepth 100000 in
set_option maxHeartbeats 4000000 in
theorem cmp_near (w : World) (kb fg cc ta tb : Nat) (ia ib : Int) (k0 : w.cell? ⟨kb, 0, none⟩ = some (sl fg 1 cc)) (f0 : w.cell? ⟨fg, 0, none⟩ = some (.func (.func 92) #[] #[])) (a0 : w.cell? ⟨ta, 0, none⟩ = some (iv ia)) (b0 : w.cell? ⟨tb, 0, none⟩ = some (iv ib)) :
    Calls Tryz.prog 109 #[pt ta, pt tb, pt kb] w fun e w' => e = .returned (iv (Lib.compareInt ia ib)) ∧ Gw w w' := by
  have HC := Keep.mk (cmp45 ia ib w)
  have HA := Keep.mk (num32 w ta ia a0)
  have HB := Keep.mk (num32 w tb ib b0)
  generalize Lib.compareInt ia ib = r at *
  clear a0 b0
  obtain ⟨n, hn⟩ : ∃ n, 1 = n := ⟨_, rfl⟩
  rw [hn] at k0
  have HN := Keep.mk hn
  clear hn
  go_enter Tryz.func109, Tryz.ntmps109
  go_wp2_with fail
  go_loopw [11] (fun u wr => ∃ i : Nat, i ≤ n ∧ u = iv i ∧ wr = w ∧ Keep (i = 1 → r = 0)) (fun u _ => (n - intOf u).toNat)
  case atStart => exact ⟨0, by omega, rfl, rfl, ⟨by omega⟩⟩
  case round =>
    obtain ⟨i, hi, rfl, rfl, hr⟩ := hrel
    by_cases hlt : i < n
    · have hi0 : (i : Int) < (n : Int) := by omega
      have f1 : wr.cell? ⟨fg, i, none⟩ = some (.func (.func 92) #[] #[]) := by
        have : i = 0 := by have := HN.out; omega
        rw [this]; exact f0
      have hii : IntKind.i64.wrap ((i : Int) + 1) = ((i + 1 : Nat) : Int) := by have := HN.out; rw [IntKind.wrap_i64]; omega
      clear k0 f0
      go_wp2_with fail
      refine HA.out.mono ?_
      rintro e w1 ⟨rfl, hw⟩
      rw [hw]
      clear hw
      go_wp2_with fail
      refine HB.out.mono ?_
      rintro e w1 ⟨rfl, hw⟩
      rw [hw]
      clear hw
      go_wp2_with fail
      refine HC.out.mono ?_
      rintro e w1 ⟨rfl, hw⟩
      rw [hw]
      clear hw
      by_cases hz : r = 0
      · have HZ := Keep.mk hz
        have d0 : (r == 0) = true := by simpa using hz
        clear hz
        go_wp2_with fail
        go_roundw
        case rel => exact ⟨i + 1, by omega, rfl, trivial, ⟨fun _ => HZ.out⟩⟩
        case measure => simp [intOf]; omega
      · have d0 : (r == 0) = false := by simpa using hz
        go_wp2_with fail
        go_ret
        exact ⟨rfl, Gw.refl _⟩
    · have HZ : Keep (r = 0) := ⟨hr.out (by have := HN.out; omega)⟩
      clear k0 f0
      go_wp2_with fail
      go_ret
      exact ⟨by rw [HZ.out]; rfl, Gw.refl _⟩
/-- nearer, then of a lesser id -/
def cf2 (da db ia ib : Int) : Int := if Lib.compareInt da db = 0 then Lib.compareInt ia ib else Lib.compareInt da db
set_option maxRecDepth 100000 in
set_option maxHeartbeats 8000000 in
theorem cmp_nst (w : World) (kb fg cc ta tb ab : Nat) (x y ia ax ay ib bx by' : Int) (hx : I64 x) (hy : I64 y) (h1 : I64 ax) (h2 : I64 ay) (h3 : I64 bx) (h4 : I64 by') (k0 : w.cell? ⟨kb, 0, none⟩ = some (sl fg 2 cc)) (f0 : w.cell? ⟨fg, 0, none⟩ = some (.func (.func 90) #[] #[pt ab])) (f1 : w.cell? ⟨fg, 1, none⟩ = some (.func (.func 92) #[] #[]))
    (x0 : w.cell? ⟨ab, 0, none⟩ = some (iv x)) (y0 : w.cell? ⟨ab, 1, none⟩ = some (iv y)) (a0 : w.cell? ⟨ta, 0, none⟩ = some (iv ia)) (a1 : w.cell? ⟨ta, 1, none⟩ = some (iv ax)) (a2 : w.cell? ⟨ta, 2, none⟩ = some (iv ay)) (b0 : w.cell? ⟨tb, 0, none⟩ = some (iv ib)) (b1 : w.cell? ⟨tb, 1, none⟩ = some (iv bx)) (b2 : w.cell? ⟨tb, 2, none⟩ = some (iv by')) :
    Calls Tryz.prog 109 #[pt ta, pt tb, pt kb] w fun e w' => e = .returned (iv (cf2 (d2 x y ax ay) (d2 x y bx by') ia ib)) ∧ Gw w w' := by
  have HC := Keep.mk (fun W => cmp45 ia ib W)
  have HD := Keep.mk (fun W => cmp45 (d2 x y ax ay) (d2 x y bx by') W)
  have HA := Keep.mk (fun W (g : Gw w W) => num32 W ta ia (g.g.cell a0 nofun))
  have HB := Keep.mk (fun W (g : Gw w W) => num32 W tb ib (g.g.cell b0 nofun))
  have HE := Keep.mk (fun W (g : Gw w W) => far35 W ta ab x y ax ay hx hy h1 h2 (g.g.cell x0 nofun) (g.g.cell y0 nofun) (g.g.cell a1 nofun) (g.g.cell a2 nofun))
  have HF := Keep.mk (fun W (g : Gw w W) => far35 W tb ab x y bx by' hx hy h3 h4 (g.g.cell x0 nofun) (g.g.cell y0 nofun) (g.g.cell b1 nofun) (g.g.cell b2 nofun))
  have HV : Keep (cf2 (d2 x y ax ay) (d2 x y bx by') ia ib = if Lib.compareInt (d2 x y ax ay) (d2 x y bx by') = 0 then Lib.compareInt ia ib else Lib.compareInt (d2 x y ax ay) (d2 x y bx by')) := ⟨rfl⟩
  generalize cf2 (d2 x y ax ay) (d2 x y bx by') ia ib = v at *
  generalize d2 x y ax ay = da at *
  generalize d2 x y bx by' = db at *
  generalize Lib.compareInt ia ib = r2 at *
  generalize Lib.compareInt da db = r1 at *
  have HX := Keep.mk (And.intro f0 f1)
  obtain ⟨n, hn⟩ : ∃ n, 2 = n := ⟨_, rfl⟩
  rw [hn] at k0
  have HN := Keep.mk hn
  clear hn f0 f1 a0 a1 a2 b0 b1 b2 x0 y0 hx hy h1 h2 h3 h4
  go_enter Tryz.func109, Tryz.ntmps109
  go_wp2_with fail
  go_loopw [11] (fun u wr => ∃ i : Nat, i ≤ n ∧ u = iv i ∧ Keep (Gw w wr) ∧ Keep (1 ≤ i → r1 = 0) ∧ Keep (2 ≤ i → r2 = 0)) (fun u _ => (n - intOf u).toNat)
  case atStart => exact ⟨0, by omega, rfl, ⟨Gw.refl _⟩, ⟨by omega⟩, ⟨by omega⟩⟩
  case round =>
    obtain ⟨i, hi, rfl, hg, hr1, hr2⟩ := hrel
    by_cases hlt : i < n
    · have hi0 : (i : Int) < (n : Int) := by omega
      have hii : IntKind.i64.wrap ((i : Int) + 1) = ((i + 1 : Nat) : Int) := by have := HN.out; rw [IntKind.wrap_i64]; omega
      by_cases h01 : i = 0
      · have f1 : wr.cell? ⟨fg, i, none⟩ = some (.func (.func 90) #[] #[pt ab]) := by
          rw [h01]; exact hg.out.g.cell HX.out.1 nofun
        have HI := Keep.mk h01
        clear k0 h01
        go_wp2_with fail
        refine (HE.out _ hg.out).mono ?_
        rintro e w1 ⟨rfl, g1⟩
        replace hg := Keep.mk (hg.out.trans g1)
        clear g1 f1
        go_wp2_with fail
        refine (HF.out _ hg.out).mono ?_
        rintro e w2 ⟨rfl, g1⟩
        replace hg := Keep.mk (hg.out.trans g1)
        clear g1
        go_wp2_with fail
        refine (HD.out _).mono ?_
        rintro e w3 ⟨rfl, hw⟩
        rw [hw]
        clear hw
        by_cases hz : r1 = 0
        · have HZ := Keep.mk hz
          have d0 : (r1 == 0) = true := by simpa using hz
          clear hz
          go_wp2_with fail
          go_roundw
          case rel => exact ⟨i + 1, by omega, rfl, hg, ⟨fun _ => HZ.out⟩, ⟨fun q => by have := HI.out; omega⟩⟩
          case measure => simp [intOf]; omega
        · have d0 : (r1 == 0) = false := by simpa using hz
          have HV2 : Keep (v = r1) := ⟨by rw [HV.out, if_neg hz]⟩
          go_wp2_with fail
          go_ret
          exact ⟨by rw [HV2.out]; rfl, hg.out⟩
      · have f1 : wr.cell? ⟨fg, i, none⟩ = some (.func (.func 92) #[] #[]) := by
          rw [show i = 1 by have := HN.out; omega]; exact hg.out.g.cell HX.out.2 nofun
        have HI := Keep.mk h01
        clear k0 h01
        go_wp2_with fail
        refine (HA.out _ hg.out).mono ?_
        rintro e w1 ⟨rfl, hw⟩
        rw [hw]
        clear hw
        go_wp2_with fail
        refine (HB.out _ hg.out).mono ?_
        rintro e w1 ⟨rfl, hw⟩
        rw [hw]
        clear hw
        go_wp2_with fail
        refine (HC.out _).mono ?_
        rintro e w3 ⟨rfl, hw⟩
        rw [hw]
        clear hw
        by_cases hz : r2 = 0
        · have HZ := Keep.mk hz
          have d0 : (r2 == 0) = true := by simpa using hz
          clear hz
          go_wp2_with fail
          go_roundw
          case rel => exact ⟨i + 1, by omega, rfl, hg, ⟨fun _ => hr1.out (by have := HI.out; omega)⟩, ⟨fun _ => HZ.out⟩⟩
          case measure => simp [intOf]; omega
        · have d0 : (r2 == 0) = false := by simpa using hz
          have HV2 : Keep (v = r2) := ⟨by rw [HV.out, if_pos (hr1.out (by have := HI.out; omega))]⟩
          go_wp2_with fail
          go_ret
          exact ⟨by rw [HV2.out]; rfl, hg.out⟩
    · have HV2 : Keep (v = 0) := ⟨by rw [HV.out, if_pos (hr1.out (by have := HN.out; omega)), hr2.out (by have := HN.out; omega)]⟩
      clear k0
      go_wp2_with fail
      go_ret
      exact ⟨by rw [HV2.out]; rfl, hg.out⟩
end Go.Proofs.YtgedlabmndlooaaGreat

namespace Go.Proofs.YtgedlabmndlooaaGreat
open Go Go.RowKit Go.Shelf Go.Lib Go.Sort

set_option maxRecDepth 100000 in
theorem Sep.rowBox {w0 W : World} {l : List As} {e : TypeId} {s g n c : Nat} {xs : List Value} {b : Nat} {cs : List Value} {t : TypeId} (h : Sep w0 W (rowV e s (sl g n c) n xs :: l)) (hm : boxA b cs t ∈ l) : b ≠ g := by
  obtain ⟨m, hm1, hp, hd⟩ := h.ex
  cases m with
  | nil => cases hm1
  | cons o m =>
    simp only [List.map_cons, List.cons.injEq] at hm1
    obtain ⟨e1, rfl⟩ := hm1
    obtain ⟨q, hq, e2⟩ := List.mem_map.1 hm
    have h1 := (hp o (List.mem_cons_self ..)).1
    have h2 := (hp q (List.mem_cons_of_mem _ hq)).1
    rw [e1] at h1
    rw [e2] at h2
    have h3 := (List.pairwise_cons.1 hd).1 q hq g
    rw [h1.2, h2.2] at h3
    exact fun e => h3 rfl e.symm
set_option maxRecDepth 100000 in
theorem heap_sort {α : Type} [Inhabited α] (enc : α → Value) (W : World) (g m : Nat) (d : Array α) (os : Array Obj) {b : Nat} (hb : b < W.heap.size) (hg : b ≠ g) : (sortWorld enc W g 0 m d os).heap[b]? = W.heap[b]? := by
  unfold sortWorld
  rw [heap_grow_old _ _ (by simpa [putRow, mapBlock, ahead] using hb)]
  unfold putRow mapBlock
  simp only [Array.getElem?_modify]
  rw [if_neg (Ne.symm hg)]
  rfl
set_option maxRecDepth 100000 in
theorem own_sort {α : Type} [Inhabited α] {lo : Nat} {W : World} {e : TypeId} {g n c m : Nat} {xs : List Value} (enc : α → Value) (d : Array α) (os : Array Obj) (h : W.ownsRow lo e 1 (sl g n c) n xs) (hd : d.size = n) :
    (sortWorld enc W g 0 m d os).ownsRow lo e 1 (sl g n c) n (d.toList.map enc) := by
  obtain ⟨h1, h2⟩ := h
  refine ⟨by simp [hd], ?_⟩
  rcases h2 with ⟨h2, _⟩ | ⟨g', cap, cur, hv, hb, hheap, h3, h4, h5, h6⟩
  · cases h2
  · injection hv with e1 e2 e3
    cases e1
    refine .inr ⟨g, c, putCells enc 0 d cur, rfl, hb, ?_, by omega, by omega, ?_, ?_⟩
    · unfold sortWorld
      have hlt : g < W.heap.size := (Array.getElem?_eq_some_iff.1 hheap).1
      rw [heap_grow_old _ _ (by simpa [putRow, mapBlock, ahead] using hlt)]
      unfold putRow mapBlock
      simp only [Array.getElem?_modify]
      rw [if_pos trivial]
      show Option.map (onCells (putCells enc 0 d)) W.heap[g]? = _
      rw [hheap]
      rfl
    · unfold putCells
      rw [Array.size_mapIdx, h5, e3]
    · have hcs : n ≤ cur.size := by omega
      apply List.ext_getElem?
      intro i
      rw [List.getElem?_take]
      by_cases hi : i < n
      · rw [if_pos (by omega)]
        unfold putCells
        rw [Array.getElem?_toList, Array.getElem?_mapIdx, Array.getElem?_eq_getElem (by omega)]
        simp only [Option.map_some, Nat.zero_le, true_and, Nat.zero_add, hd, hi, if_true, Nat.sub_zero]
        rw [List.getElem?_map, Array.getElem?_toList, Array.getElem?_eq_getElem (by omega), getElem!_pos d i (by omega)]
        rfl
      · rw [if_neg (by omega), List.getElem?_eq_none (by simp; omega)]
set_option maxRecDepth 100000 in
theorem Sep.sorted {α : Type} [Inhabited α] {w0 W : World} {l : List As} {e : TypeId} {g n c m : Nat} {xs : List Value} (enc : α → Value) (d : Array α) (os : Array Obj) (h : Sep w0 W (rowV e 1 (sl g n c) n xs :: l)) (hd : d.size = n) : Sep w0 (sortWorld enc W g 0 m d os) (rowV e 1 (sl g n c) n (d.toList.map enc) :: l) := by
  obtain ⟨F, ⟨h1, rfl⟩, _, hu⟩ := h.use
  refine hu _ [_] ?_ (Loc.one (a := rowV _ _ _ _ _) _ ⟨own_sort enc d os h1 hd, rfl⟩ (fun i hi => .inl hi))
  exact ⟨rfl, rfl, rfl, by simp [sortWorld, grow, putRow, mapBlock], fun i hi hs => heap_sort enc W g m d os hi (fun e => hs (by rw [e]; rfl))⟩
set_option maxRecDepth 100000 in
theorem sort_none (w : World) (p : Option Addr) (cap : Nat) (fv : Value) : Calls Tryz.prog 108 #[.slice p 0 cap, fv] w fun e w' => e = .returned (.tuple #[]) ∧ w' = w :=
  AnyF.slices_SortFunc_none (P := Tryz.prog) (ρ := Tryz.sortTh_ren) { Tryz.sortTh with } p cap fv w
set_option maxRecDepth 100000 in
theorem sort_some (w0 W : World) (l : List As) (g n c kb : Nat) (N : List Tg) (cf : Tg → Tg → Int) (hO : SWO (ltOf cf)) (hn : N.length = n) (hn0 : 0 < n) (hn1 : n < 4611686018427387904)
    (hcmp : ∀ W' : World, (∀ b, b < W.heap.size → b ≠ g → W'.heap[b]? = W.heap[b]?) → ∀ t ∈ N, ∀ u ∈ N, Calls Tryz.prog 109 #[pt t.b, pt u.b, pt kb] W' fun e w' => e = .returned (iv (cf t u)) ∧ Gw W' w')
    (h : Sep w0 W (rowV 119 1 (sl g n c) n (N.map (fun t => pt t.b)) :: l)) :
    Calls Tryz.prog 108 #[sl g n c, .func (.func 109) #[] #[pt kb]] W fun e W' => e = .returned (.tuple #[]) ∧ ∃ N' : List Tg, N'.Perm N ∧ N'.Pairwise (fun a b => ltOf cf b a = false) ∧ Sep w0 W' (rowV 119 1 (sl g n c) n (N'.map (fun t => pt t.b)) :: l) := by
  obtain ⟨_, hl, hce⟩ := own_cap (h.rowGet k0m)
  have hblk : g < W.heap.size := by
    obtain ⟨_, h2⟩ := h.rowGet k0m
    rcases h2 with ⟨q, _⟩ | ⟨g', cap, cur, q, _, hh, _⟩
    · cases q
    · injection q with e1 e2 e3
      cases e1
      exact (Array.getElem?_eq_some_iff.1 hh).1
  obtain ⟨t0, ht0⟩ : ∃ t0, t0 ∈ N := by
    cases N with
    | nil => simp at hn; omega
    | cons t0 _ => exact ⟨t0, List.mem_cons_self ..⟩
  haveI : Inhabited { t : Tg // t ∈ N } := ⟨⟨t0, ht0⟩⟩
  have hH : Holds (fun x : { t : Tg // t ∈ N } => pt x.1.b) W g 0 N.attach.toArray := by
    intro j hj
    have hj' : j < N.length := by simpa using hj
    have := hce j (pt (N[j]).b) (by rw [List.getElem?_map, List.getElem?_eq_getElem hj']; rfl)
    rw [Nat.zero_add]
    rw [getElem!_pos _ j hj]
    simpa using this
  have eg : ∀ args w, (callFunc 109 args).run Tryz.prog w = .ok (.enter 109 args) w := enters_of Tryz.func109 (by kernel_rfl) rfl
  have hO2 : SWO (ltOf (fun x y : { t : Tg // t ∈ N } => cf x.1 y.1)) := ⟨fun x => hO.irrefl x.1, fun x y z => hO.trans x.1 y.1 z.1, fun x y z => hO.ntrans x.1 y.1 z.1⟩
  have hsz : N.attach.toArray.size = n := by simp [hn]
  have hcon := Any.slices_SortFunc Tryz.sortTh (fun x : { t : Tg // t ∈ N } => pt x.1.b) (fun _ => rfl) (fun x y => cf x.1 y.1) hO2 109 #[pt kb] g 0 c N.attach.toArray W eg (fun m os dk _ x y => by
      refine (hcmp _ (fun b hb hg => heap_sort _ W g m dk os hb hg) x.1 x.2 y.1 y.2).mono ?_
      rintro e w' ⟨rfl, hg⟩
      exact ⟨rfl, hg.is_grow⟩) hH hblk (by rw [hsz]; exact hn1)
  rw [hsz] at hcon
  change Calls Tryz.prog 108 _ _ _ at hcon
  refine hcon.mono ?_
  rintro e W' ⟨rfl, d', m, os, hp, hs, rfl⟩
  obtain ⟨hp1, _, hp2⟩ := hp
  have hd : d'.size = n := by rw [hp1, hsz]
  have hpm : d'.toList.Perm N.attach := by
    rw [show d'.extract 0 n = d' by rw [← hd]; simp, show N.attach.toArray.extract 0 n = N.attach.toArray by rw [← hsz, Array.extract_size]] at hp2
    exact hp2
  refine ⟨rfl, d'.toList.map Subtype.val, ?_, ?_, ?_⟩
  · have := hpm.map Subtype.val
    rwa [List.attach_map_subtype_val] at this
  · rw [List.pairwise_map, List.pairwise_iff_getElem]
    intro i j hi hj hij
    have hi' : i < d'.size := by simpa using hi
    have hj' : j < d'.size := by simpa using hj
    have := hs i j (Nat.zero_le _) hij (by omega)
    rw [getElem!_pos d' i hi', getElem!_pos d' j hj'] at this
    simp only [Array.getElem_toList]
    exact this
  · have := h.sorted (m := m) (fun x : { t : Tg // t ∈ N } => pt x.1.b) d' os hd
    rw [List.map_map]
    exact this
end Go.Proofs.YtgedlabmndlooaaGreat

namespace Go.Proofs.YtgedlabmndlooaaGreat
open Go Go.RowKit Go.Shelf Go.Lib Go.Sort

set_option maxRecDepth 100000 in
theorem row_parts {w0 W : World} {l : List As} {e : TypeId} {v : Value} {n : Nat} {xs : List Value} (h : Sep w0 W (rowV e 1 v n xs :: l)) : (n = 0 ∧ v = .slice none 0 0) ∨ ∃ g c, v = sl g n c ∧ n ≤ c := by
  obtain ⟨_, h2⟩ := h.rowGet k0m
  rcases h2 with ⟨q, q2⟩ | ⟨g, cap, cur, q, _, _, h3, _⟩
  · exact .inl ⟨by omega, q⟩
  · exact .inr ⟨g, cap, q, by omega⟩
structure SbR (w0 W : World) (N : List Tg) (cf : Tg → Tg → Int) (l : List As) (v : Value) : Prop where
  o : ∃ N' : List Tg, N'.Perm N ∧ N'.Pairwise (fun a b => ltOf cf b a = false) ∧ Sep w0 W (rowV 119 1 v N'.length (N'.map (fun t => pt t.b)) :: l)
set_option maxRecDepth 100000 in
set_option maxHeartbeats 4000000 in
theorem sortBy_c (w0 W : World) (l : List As) (v : Value) (N : List Tg) (fg k q : Nat) (cf : Tg → Tg → Int) (hO : SWO (ltOf cf)) (hn1 : N.length < 4611686018427387904)
    (hcmp : ∀ (kb : Nat) (W1 : World) (g c : Nat), Sep w0 W1 (rowV 119 1 (sl g N.length c) N.length (N.map (fun t => pt t.b)) :: boxA kb [sl fg k q] 161 :: l) → ∀ W' : World, (∀ b, b < W1.heap.size → b ≠ g → W'.heap[b]? = W1.heap[b]?) → ∀ t ∈ N, ∀ u ∈ N, Calls Tryz.prog 109 #[pt t.b, pt u.b, pt kb] W' fun e w' => e = .returned (iv (cf t u)) ∧ Gw W' w')
    (h : Sep w0 W (rowV 119 1 v N.length (N.map (fun t => pt t.b)) :: l)) :
    Calls Tryz.prog 91 #[v, sl fg k q] W fun e W' => e = .returned (.tuple #[]) ∧ SbR w0 W' N cf l v := by
  have S1 := h.newBox #[sl fg k q] 161
  obtain ⟨W1, hW1⟩ : ∃ W1, W.alloc (.cells #[sl fg k q] 161) = W1 := ⟨_, rfl⟩
  obtain ⟨kb, hkb⟩ : ∃ b, W.heap.size = b := ⟨_, rfl⟩
  rw [hW1, hkb] at S1
  have S2 : Sep w0 W1 (rowV 119 1 v N.length (N.map (fun t => pt t.b)) :: boxA kb [sl fg k q] 161 :: l) := S1.swap
  have HC : Keep (Calls Tryz.prog 108 #[v, .func (.func 109) #[] #[pt kb]] W1 fun e W' => e = .returned (.tuple #[]) ∧ SbR w0 W' N cf l v) := ⟨by
    by_cases h0 : N.length = 0
    · obtain ⟨a, c, e⟩ := own_slice (S2.rowGet k0m)
      rw [h0] at e
      subst e
      refine (sort_none W1 a c _).mono ?_
      rintro e W' ⟨rfl, rfl⟩
      have hN := List.eq_nil_of_length_eq_zero h0
      exact ⟨rfl, ⟨N, List.Perm.refl _, by rw [hN]; exact List.Pairwise.nil, S2.swap.tail⟩⟩
    · rcases row_parts S2 with ⟨q1, _⟩ | ⟨g, c, rfl, _⟩
      · exact absurd q1 h0
      · refine (sort_some w0 W1 _ g N.length c kb N cf hO rfl (by omega) hn1 (hcmp kb W1 g c S2) S2).mono ?_
        rintro e W' ⟨rfl, N', p1, p2, p3⟩
        exact ⟨rfl, ⟨N', p1, p2, by rw [p1.length_eq]; exact p3.swap.tail⟩⟩⟩
  clear S1 S2 h hcmp hn1
  go_enter Tryz.func91, Tryz.ntmps91
  go_wp2_with fail
  refine HC.out.mono ?_
  rintro e W2 ⟨rfl, hR⟩
  have HR := Keep.mk hR
  clear hR
  go_wp2_with fail
  go_end0
  exact ⟨rfl, HR.out⟩

set_option maxRecDepth 100000 in
theorem info3b : ∃ i, Tryz.prog.info? 3 = some i ∧ i.size = 1 ∧ i.bytes = 8 ∧ i.zero = some (iv 0) := by
  have h : (Tryz.prog.info? 3).map (fun i => (i.size, i.bytes, i.zero)) = some (1, 8, some (iv 0)) := by kernel_rfl
  cases e : Tryz.prog.info? 3 with
  | none => rw [e] at h; cases h
  | some i =>
    rw [e] at h
    simp only [Option.map_some, Option.some.injEq, Prod.mk.injEq] at h
    exact ⟨i, rfl, h.1, h.2.1, h.2.2⟩
set_option maxRecDepth 100000 in
theorem Sep.made3 {w0 W : World} {l : List As} (h : Sep w0 W l) (n : Nat) (hn : n * 8 ≤ 140737488355328) :
    ∃ W', (Instr.makeSlice 129 (.int .i64 0) (.int .i64 (n : Int))).run Tryz.prog W = .ok (sl W.heap.size 0 n) W' ∧ Sep w0 W' (rowV 3 1 (sl W.heap.size 0 n) 0 [] :: l) := by
  obtain ⟨i, i1, i2, i3, i4⟩ := info3b
  obtain ⟨W', r1, r2, r3⟩ := run_make_own (P := Tryz.prog) W 0 129 3 i _ 1 Tryz.underlying129 i1 i4 i2 .i64 .i64 n (by rw [i3]; omega) (by unfold maxLen; omega) (Nat.zero_le _)
  exact ⟨W', r1, h.new r3 (Loc.one (a := rowV _ _ _ _ _) _ ⟨r2, rfl⟩ (fun j hj => .inr (by have e : W.heap.size = j := Option.some.inj hj; omega)))⟩
set_option maxRecDepth 100000 in
set_option maxHeartbeats 8000000 in
theorem numbers_c (w0 W : World) (l : List As) (v : Value) (N : List Tg) (hn : N.length * 8 + 8 ≤ 140737488355328) (hb : ∀ t ∈ N, tgA t ∈ l) (h : Sep w0 W (rowV 119 1 v N.length (N.map (fun t => pt t.b)) :: l)) :
    Calls Tryz.prog 93 #[v] W fun e W' => ∃ u, e = .returned u ∧ Sep w0 W' (rowV 3 1 u N.length (N.map (fun t => iv t.id)) :: rowV 119 1 v N.length (N.map (fun t => pt t.b)) :: l) := by
  obtain ⟨a, c, rfl⟩ := own_slice (h.rowGet k0m)
  obtain ⟨W1, r1, S1⟩ := h.made3 N.length (by omega)
  obtain ⟨n, hnn⟩ : ∃ n, N.length = n := ⟨_, rfl⟩
  rw [hnn] at r1 S1 ⊢
  obtain ⟨g0, hg0⟩ : ∃ b, W.heap.size = b := ⟨_, rfl⟩
  rw [hg0] at r1 S1
  have HS := Keep.mk S1
  have HN := Keep.mk hnn
  have HN2 : Keep (n * 8 + 8 ≤ 140737488355328) := ⟨by omega⟩
  have HT := Keep.mk hb
  clear h S1 hg0 hnn hb hn
  go_enter Tryz.func93, Tryz.ntmps93
  go_wp2_with fail
  clear r1
  go_loopw [3, 11] (fun u3 u11 wr => ∃ i : Nat, i ≤ n ∧ u11 = iv i ∧ Keep (Sep w0 wr (rowV 3 1 u3 i ((N.take i).map (fun t => iv t.id)) :: rowV 119 1 (.slice a n c) n (N.map (fun t => pt t.b)) :: l))) (fun _ u11 _ => (n - intOf u11).toNat)
  case atStart => exact ⟨0, by omega, rfl, ⟨by simpa using HS.out⟩⟩
  case round =>
    clear HS
    obtain ⟨i, hi, rfl, hS⟩ := hrel
    by_cases hlt : i < n
    · obtain ⟨t, ht⟩ : ∃ t, N[i]? = some t := ⟨_, List.getElem?_eq_getElem (by rw [HN.out]; exact hlt)⟩
      obtain ⟨g1, c1, e1, hq⟩ := own_any (hS.out.rowGet k1m) (by omega)
      injection e1 with e1 _ e3
      subst e1 e3
      have l1 := (hq i (pt t.b) (by rw [List.getElem?_map, ht]; rfl)).1
      have hm : tgA t ∈ rowV 3 1 u3 i ((N.take i).map (fun t => iv t.id)) :: rowV 119 1 (sl g1 n c) n (N.map (fun t => pt t.b)) :: l := List.mem_cons_of_mem _ (List.mem_cons_of_mem _ (HT.out t (List.mem_of_getElem? ht)))
      have l2 := (hS.out.boxGet hm).cellv 0 _ rfl
      have hi0 : (i : Int) < (n : Int) := by omega
      have hii : IntKind.i64.wrap ((i : Int) + 1) = ((i + 1 : Nat) : Int) := by have := HN2.out; rw [IntKind.wrap_i64]; omega
      obtain ⟨i0, i1, i2, i3, i4⟩ := info3b
      obtain ⟨g9, c9, W9, ap, S9⟩ := Sep.app (t := 129) (bytes := 8) Tryz.underlying129 i1 i4 i2 i3 rfl (by omega) hS.out [iv t.id] rfl (by intro u hu; simp at hu; subst hu; rfl) (by have := HN2.out; omega) (by omega)
      have AP := Keep.mk ap
      have HS9 : Keep (Sep w0 W9 (rowV 3 1 (sl g9 (i + 1) c9) (i + 1) ((N.take (i + 1)).map (fun t => iv t.id)) :: rowV 119 1 (sl g1 n c) n (N.map (fun t => pt t.b)) :: l)) := ⟨by
        rw [List.take_add_one, ht, Option.toList, List.map_append, List.map_cons, List.map_nil]
        exact S9⟩
      obtain ⟨wb, hwb⟩ : ∃ b, wr.heap.size = b := ⟨_, rfl⟩
      rw [hwb] at AP
      obtain ⟨n1, hn1⟩ : ∃ n1, i + 1 = n1 := ⟨_, rfl⟩
      rw [hn1] at AP HS9 hii
      have HN1 := Keep.mk hn1
      clear ap S9 i1 i2 i3 i4 hS hq hm ht hn1
      go_wp2_with (first
        | (at_builtin; refine wpList_append_run _ rfl (.tmp 15) (.tmp 20) 129 rfl _ _ rfl rfl AP.out ?_))
      go_roundw
      case rel => exact ⟨n1, by have := HN1.out; omega, rfl, HS9⟩
      case measure => have := HN1.out; simp [intOf]; omega
    · have HE : Keep (Sep w0 wr (rowV 3 1 u3 n (N.map (fun t => iv t.id)) :: rowV 119 1 (.slice a n c) n (N.map (fun t => pt t.b)) :: l)) := ⟨by
        have q := hS.out
        rw [show i = n by omega, List.take_of_length_le (by rw [HN.out]; omega)] at q
        exact q⟩
      clear hS
      go_wp2_with fail
      go_ret
      exact ⟨_, rfl, HE.out⟩
end Go.Proofs.YtgedlabmndlooaaGreat
