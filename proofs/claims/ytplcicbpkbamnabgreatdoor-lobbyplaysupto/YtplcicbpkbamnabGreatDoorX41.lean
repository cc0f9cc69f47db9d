import Derived.Test.YtplcicbpkbamnabGreatDoorX40
/- LobbyPlays: lists -/
namespace Go.Proofs.YtplcicbpkbamnabGreatDoor.Lo
open Go Go.RowKit Go.Maps

set_option maxRecDepth 100000 in
theorem flat7 : ∀ (S : List Se) (i j : Nat) (s : Se) (v : Value), S[i]? = some s → (lvc s)[j]? = some v → (S.flatMap lvc)[i * 7 + j]? = some v
  | [], i, j, s, v, h, _ => by simp at h
  | x :: r, 0, j, s, v, h, hv => by
    obtain rfl : x = s := by simpa using h
    have hl : j < (lvc x).length := (List.getElem?_eq_some_iff.1 hv).1
    rw [List.flatMap_cons, Nat.zero_mul, Nat.zero_add, List.getElem?_append_left hl]; exact hv
  | x :: r, i + 1, j, s, v, h, hv => by
    have hl : (lvc x).length = 7 := rfl
    rw [List.flatMap_cons, List.getElem?_append_right (by omega), hl, show (i + 1) * 7 + j - 7 = i * 7 + j by omega]
    exact flat7 r i j s v (by simpa using h) hv
theorem lvr_of {W : World} {v : Value} {S : List Se} (h : W.ownsRow 0 49 7 v S.length (S.flatMap lvc)) : Lvr W v S := by
  constructor
  by_cases hn : 0 < S.length
  · obtain ⟨g, c, rfl, q⟩ := own_any h hn
    exact ⟨_, c, rfl, fun _ => ⟨g, rfl, fun j x hx i v hv => (q _ _ (flat7 S j i x v hx hv)).1⟩⟩
  · obtain ⟨a, c, rfl⟩ := own_slice h
    exact ⟨a, c, rfl, fun h => absurd h hn⟩
set_option maxRecDepth 100000 in
theorem b49_99 : Tryz.prog.built 49 [(0, .int .u64 99)] = some #[.int .u64 99, .int .i64 0, .string ⟨#[]⟩, .string ⟨#[]⟩, .int .u64 0, .int .u64 0, .int .u64 0] := by kernel_rfl
set_option maxRecDepth 100000 in
theorem b49_98 : Tryz.prog.built 49 [(0, .int .u64 98)] = some #[.int .u64 98, .int .i64 0, .string ⟨#[]⟩, .string ⟨#[]⟩, .int .u64 0, .int .u64 0, .int .u64 0] := by kernel_rfl
set_option maxRecDepth 100000 in
theorem b49_m1 (s : ByteArray) : Tryz.prog.built 49 [(1, .int .i64 (-1)), (2, .string s)] = some #[.int .u64 0, .int .i64 (-1), .string s, .string ⟨#[]⟩, .int .u64 0, .int .u64 0, .int .u64 0] := by kernel_rfl
set_option maxRecDepth 100000 in
theorem b49_m2 : Tryz.prog.built 49 [(1, .int .i64 (-2))] = some #[.int .u64 0, .int .i64 (-2), .string ⟨#[]⟩, .string ⟨#[]⟩, .int .u64 0, .int .u64 0, .int .u64 0] := by kernel_rfl
/-- seven cells of a row are there -/
theorem row7_get {w0 W : World} {l : List As} {g n c i j : Nat} {cs : List Value} (h : Sep w0 W (rowV 49 7 (.slice (some ⟨g, 0, none⟩) n c) n cs :: l)) (hl : cs.length = n * 7) (hi : i < n) (hj : j < 7) : (∃ x, W.cell? ⟨g, i * 7 + j, none⟩ = some x) ∧ W.frozen? ⟨g, i * 7 + j, none⟩ = false := by
  obtain ⟨g', c', e, hc⟩ := own_any (h.rowGet k0m) (by omega)
  injection e with e1 _ _
  injection e1 with e1
  injection e1 with e1
  subst e1
  have hlt : i * 7 + j < cs.length := by omega
  have := hc (i * 7 + j) _ (List.getElem?_eq_getElem hlt)
  exact ⟨⟨_, this.1⟩, this.2⟩
/-- and written over -/
theorem row7_set {w0 W : World} {l : List As} {g n c i : Nat} {cs : List Value} (h : Sep w0 W (rowV 49 7 (.slice (some ⟨g, 0, none⟩) n c) n cs :: l)) (hl : cs.length = n * 7) (x0 x1 x2 x3 x4 x5 x6 : Value) :
    ∃ cs', cs'.length = n * 7 ∧ Sep w0 (((((((W.setCell ⟨g, i * 7, none⟩ x0).setCell ⟨g, i * 7 + 1, none⟩ x1).setCell ⟨g, i * 7 + 2, none⟩ x2).setCell ⟨g, i * 7 + 3, none⟩ x3).setCell ⟨g, i * 7 + 4, none⟩ x4).setCell ⟨g, i * 7 + 5, none⟩ x5).setCell ⟨g, i * 7 + 6, none⟩ x6) (rowV 49 7 (.slice (some ⟨g, 0, none⟩) n c) n cs' :: l) :=
  ⟨_, by simp [hl], ((((((h.rowSet (i * 7) x0).rowSet (i * 7 + 1) x1).rowSet (i * 7 + 2) x2).rowSet (i * 7 + 3) x3).rowSet (i * 7 + 4) x4).rowSet (i * 7 + 5) x5).rowSet (i * 7 + 6) x6⟩
set_option maxRecDepth 100000 in
/-- one more -/
theorem row7_app {w0 W : World} {l : List As} {v : Value} {n : Nat} {cs : List Value} (h : Sep w0 W (rowV 49 7 v n cs :: l)) (hn : n ≤ 64) (ds : List Value) (hd : ds.length = 7) (h1 : ∀ u ∈ ds, u.oneCell' = true) (hl : cs.length = n * 7) :
    ∃ g c W', (Builtin.append_ #[43, 43] 43 #[v, .slice (some ⟨W.heap.size, 0, none⟩) 1 1]).run Tryz.prog (W.alloc (.cells ds.toArray 49)) = .ok (.slice (some ⟨g, 0, none⟩) (n + 1) c) W' ∧ Sep w0 W' (rowV 49 7 (.slice (some ⟨g, 0, none⟩) (n + 1) c) (n + 1) (cs ++ ds) :: l) ∧ ∀ W2 l2, Sep w0 W2 l2 → rowV 49 7 (.slice (some ⟨g, 0, none⟩) (n + 1) c) (n + 1) (cs ++ ds) ∈ l2 → ∀ j x, ds[j]? = some x → W2.cell? ⟨g, n * 7 + j, none⟩ = some x := by
  obtain ⟨i, i1, i2, i3, i4⟩ := info42b
  obtain ⟨g, c, W', r, S⟩ := Sep.app under63 i1 i4 i2 i3 rfl (by omega) h ds hd h1 (by omega) (by omega)
  refine ⟨g, c, W', r, S, fun W2 l2 h2 hm j x hx => ?_⟩
  obtain ⟨g', c', e, hc⟩ := own_any (h2.rowGet hm) (by omega)
  injection e with e1 _ _
  injection e1 with e1
  injection e1 with e1
  subst e1
  exact (hc (n * 7 + j) x (by rw [List.getElem?_append_right (by omega), hl, show n * 7 + j - n * 7 = j by omega]; exact hx)).1
set_option maxRecDepth 100000 in
set_option maxHeartbeats 32000000 in
theorem lists_6 (w0 W : World) (l : List As) (lb kb : Nat) (X : Lb) (Y : Rl) (o : Opr) (hk : o.kd = 6) (h : Sep w0 W (lobA lb X :: rlobA kb Y :: l)) (bt : Bt X Y) (os : OpS o) :
    Calls Tryz.prog 35 #[pt lb, pt kb, .agg (opv o).toArray] W (PlQ w0 lb kb X Y (expX X o.tick) l) := by
  have S1 := h.newBox (opv o).toArray 40
  obtain ⟨W1, hW1⟩ : ∃ W1, W.alloc (.cells (opv o).toArray 40) = W1 := ⟨_, rfl⟩
  obtain ⟨ob, hob⟩ : ∃ ob, W.heap.size = ob := ⟨_, rfl⟩
  rw [hW1, hob] at S1
  change Sep w0 W1 (boxA ob (opv o) 40 :: lobA lb X :: rlobA kb Y :: l) at S1
  have hlen : Y.S.length ≤ 1000000 := by have := bt.len; omega
  have hob' := S1.boxGet k0m
  have HBT := Keep.mk bt
  have c0 : W1.cell? ⟨ob, 0, none⟩ = some (iv 6) := by rw [← hk]; exact hob'.cellv 0 _ rfl
  have c8 : W1.cell? ⟨ob, 8, none⟩ = some (uv o.tick) := hob'.cellv 8 _ rfl
  have hact : actX X o = expX X o.tick := by unfold actX; simp [hk]
  have HOK1 : Keep (LbOk (expX X o.tick) ∧ Up (expX X o.tick)) := ⟨by rw [← hact]; exact ⟨bt.ok.act os.ok (by have := bt.rel.next; have := bt.len; omega), bt.up.act bt.ok⟩⟩
  have hL := expire_c w0 W1 _ lb X o.tick S1.swap bt.ok bt.up os.ok.tick
  obtain ⟨n, hn⟩ : ∃ n, (expL X o.tick).length = n := ⟨_, rfl⟩
  have hn64 : n ≤ 32 := by
    rw [← hn]; unfold expL
    have := List.length_filter_le (slt X o.tick) X.S
    have := bt.ok.le; have := bt.ok.m2; omega
  have HR : Keep (∀ W' v, Sep w0 W' (rowV 49 7 v (expL X o.tick).length (lvs (expL X o.tick)) :: lobA lb (expX X o.tick) :: boxA ob (opv o) 40 :: rlobA kb Y :: l) → W'.cell? ⟨ob, 8, none⟩ = some (uv o.tick) ∧ Calls Tryz.prog 82 #[pt kb, uv o.tick] W' fun e W'' => ∃ v2, e = .returned v2 ∧ ∃ Y', Sep w0 W'' (rowV 49 7 v2 (expL X o.tick).length (lvs (expL X o.tick)) :: rlobA kb Y' :: rowV 49 7 v (expL X o.tick).length (lvs (expL X o.tick)) :: lobA lb (expX X o.tick) :: boxA ob (opv o) 40 :: l) ∧ Rel (expX X o.tick) Y' ∧ Y'.S.length = Y.S.length ∧ ∀ m, (∀ x ∈ Y.S, x.L.length ≤ m) → ∀ x ∈ Y'.S, x.L.length ≤ m) := ⟨fun W' v hh => ⟨(hh.boxGet k2m).cellv 8 _ rfl, rexp_c w0 W' _ kb X Y o.tick (hh.perm (List.perm_middle (l₁ := [_, _, _]))) bt.rel hlen bt.ok bt.idle os.ok.tick⟩⟩
  clear h S1 hob' bt os hk hact
  generalize (opv o).toArray = ov at hW1 ⊢
  rw [hn] at hL
  go_enter Tryz.func35, Tryz.ntmps35
  go_wp2_with fail
  refine hL.mono ?_
  rintro e w2 ⟨va, rfl, S2⟩
  obtain ⟨aa, ca, hva⟩ := own_slice (S2.rowGet k0m)
  subst hva
  rw [← hn] at S2
  obtain ⟨d8, hC⟩ := HR.out w2 _ S2
  rw [hn] at hC
  clear hL S2 HR hob c0 c8 hW1
  go_wp2_with fail
  refine hC.mono ?_
  rintro e w3 ⟨v2, rfl, Y1, S3, r3, n3, m3⟩
  have hsm := sam_c w3 (.slice aa n ca) v2 (expL X o.tick) (lvr_of (by rw [hn]; exact S3.rowGet k2m)) (lvr_of (by rw [hn]; exact S3.rowGet k0m)) (by omega)
  have HRL1 : Keep (Rel (expX X o.tick) Y1 ∧ Y1.S.length ≤ 1000000) := ⟨r3, by omega⟩
  have HY1 : Keep (Y1.S.length ≤ Y.S.length + 1 ∧ ∀ m, (∀ x ∈ Y.S, x.L.length ≤ m) → ∀ x ∈ Y1.S, x.L.length ≤ m + 1) := ⟨by omega, mup m3⟩
  have HS3 := Keep.mk S3
  clear hC S3 r3 n3 m3 d8
  go_wp2_with fail
  refine hsm.mono ?_
  rintro e w4 ⟨rfl, g4⟩
  have S4 := HS3.out.grown g4
  have HA0 : Keep ((lvs (expL X o.tick)).length = n * 7 ∧ Sep w0 w4 (rowV 49 7 (.slice aa n ca) n (lvs (expL X o.tick)) :: lobA lb (expX X o.tick) :: rlobA kb Y1 :: l)) := ⟨by rw [lvs_len, hn], by
    have a1 := S4.tail
    have a2 : Sep w0 w4 (boxA ob (opv o) 40 :: rlobA kb Y1 :: rowV 49 7 (.slice aa n ca) n (lvs (expL X o.tick)) :: lobA lb (expX X o.tick) :: l) := a1.perm (List.perm_middle (l₁ := [_, _, _]))
    exact rot3 a2.tail⟩
  clear hsm g4 S4 HS3 hn hlen
  go_wp2_with fail
  -- the row aa, n, ca of cells cs lies first: HA0
  go_loopw [11] (fun u wr => ∃ i : Nat, i ≤ n ∧ u = iv i ∧ ∃ cs, Keep (cs.length = n * 7 ∧ Sep w0 wr (rowV 49 7 (.slice aa n ca) n cs :: lobA lb (expX X o.tick) :: rlobA kb Y1 :: l))) (fun u _ => (n - intOf u).toNat)
  case atStart => exact ⟨0, by omega, rfl, _, HA0⟩
  case round =>
    clear HA0
    obtain ⟨i, hi, rfl, cs, hS⟩ := hrel
    by_cases hlt : i < n
    · obtain ⟨g, rfl⟩ : ∃ g, aa = some ⟨g, 0, none⟩ := by
        obtain ⟨g, c, e, _⟩ := own_any (hS.out.2.rowGet k0m) (by omega)
        injection e with e1 _ _
        exact ⟨g, e1⟩
      obtain ⟨⟨y0, k0⟩, z0⟩ := row7_get hS.out.2 hS.out.1 hlt (show 0 < 7 by omega)
      obtain ⟨⟨y1, k1⟩, z1⟩ := row7_get hS.out.2 hS.out.1 hlt (show 1 < 7 by omega)
      obtain ⟨⟨y2, k2⟩, z2⟩ := row7_get hS.out.2 hS.out.1 hlt (show 2 < 7 by omega)
      obtain ⟨⟨y3, k3⟩, z3⟩ := row7_get hS.out.2 hS.out.1 hlt (show 3 < 7 by omega)
      obtain ⟨⟨y4, k4⟩, z4⟩ := row7_get hS.out.2 hS.out.1 hlt (show 4 < 7 by omega)
      obtain ⟨⟨y5, k5⟩, z5⟩ := row7_get hS.out.2 hS.out.1 hlt (show 5 < 7 by omega)
      obtain ⟨⟨y6, k6⟩, z6⟩ := row7_get hS.out.2 hS.out.1 hlt (show 6 < 7 by omega)
      rw [Nat.add_zero] at k0 z0
      obtain ⟨cs', hcs', S9⟩ := row7_set (i := i) hS.out.2 hS.out.1 (.int .u64 0) (.int .i64 (-1)) (.string ⟨#[119, 114, 105, 116, 116, 101, 110, 32, 111, 118, 101, 114]⟩) (.string ⟨#[]⟩) (.int .u64 0) (.int .u64 0) (.int .u64 0)
      have HNX : Keep _ := ⟨And.intro hcs' S9⟩
      have hi0 : (0 : Int) ≤ (i : Int) := by omega
      have hi1 : (i : Int) < (n : Nat) := by omega
      have hti : ((i : Nat) : Int).toNat = i := by omega
      have hwi : IntKind.i64.wrap ((i : Int) + 1) = ((i + 1 : Nat) : Int) := by rw [wi _ (by omega) (by omega)]; omega
      have HB := Keep.mk b49_m1
      clear hS hcs' S9
      go_wp2_with (first
        | (show wpList _ _ _ ({ dst := _, op := Op.build 49 _, type := _, pos := _, after := _, guard := _ } :: _) _ _
           refine build_p (by rfl) 49 _ rfl _ ((congrArg (Tryz.prog.built 49) (by simp only [List.map_toArray, List.map_cons, List.map_nil]; rfl)).trans (HB.out _)) ?_))
      go_roundw
      case rel => exact ⟨i + 1, by omega, rfl, cs', HNX⟩
      case measure => simp [intOf]; omega
    · have hi1 : ¬ (i : Int) < (n : Nat) := by omega
      obtain rfl : i = n := by omega
      obtain ⟨g, c, W2, r1, S2, hget⟩ := row7_app hS.out.2 (by omega) [.int .u64 0, .int .i64 (-2), .string ⟨#[]⟩, .string ⟨#[]⟩, .int .u64 0, .int .u64 0, .int .u64 0] rfl (by intro u hu; simp only [List.mem_cons, List.not_mem_nil, or_false] at hu; rcases hu with rfl | rfl | rfl | rfl | rfl | rfl | rfl <;> rfl) hS.out.1
      obtain ⟨ds, hds⟩ : ∃ ds, cs ++ [.int .u64 0, .int .i64 (-2), .string ⟨#[]⟩, .string ⟨#[]⟩, .int .u64 0, .int .u64 0, .int .u64 0] = ds := ⟨_, rfl⟩
      rw [hds] at S2 hget
      obtain ⟨n1, hn1⟩ : ∃ n1, i + 1 = n1 := ⟨_, rfl⟩
      rw [hn1] at r1 S2 hget
      have HS2 := Keep.mk S2
      have HGET : Keep (∀ W2 l2, Sep w0 W2 l2 → rowV 49 7 (.slice (some ⟨g, 0, none⟩) n1 c) n1 ds ∈ l2 → W2.cell? ⟨g, i * 7 + 1, none⟩ = some (.int .i64 (-2))) := ⟨fun W2 l2 h2 hm => hget W2 l2 h2 hm 1 _ rfl⟩
      have hlv := lives_c w0 W2 _ lb (expX X o.tick) S2.swap HOK1.out.1 HOK1.out.2
      have HAP := Keep.mk r1
      have HB := Keep.mk b49_m2
      clear hS r1 S2 hget hds
      go_wp2_with (first
        | (show wpList _ _ _ ({ dst := _, op := Op.build 49 _, type := _, pos := _, after := _, guard := _ } :: _) _ _
           refine build_p (by rfl) 49 _ rfl _ ((congrArg (Tryz.prog.built 49) (by simp only [List.map_toArray, List.map_cons, List.map_nil]; rfl)).trans HB.out) ?_)
        | (at_builtin; refine wpList_append_run _ rfl (.tmp 81) (.tmp 83) 43 rfl _ _ rfl rfl HAP.out ?_))
      refine hlv.mono ?_
      rintro e w5 ⟨vb, rfl, S5⟩
      have S6 : Sep w0 w5 (rlobA kb Y1 :: rowV 49 7 vb (expX X o.tick).S.length (lvs (expX X o.tick).S) :: lobA lb (expX X o.tick) :: rowV 49 7 (.slice (some ⟨g, 0, none⟩) n1 c) n1 ds :: l) := S5.perm (List.perm_middle (l₁ := [_, _, _]))
      have hlr := rLives_c w0 w5 _ kb (expX X o.tick) Y1 S6 HRL1.out.1 HRL1.out.2 HOK1.out.1
      clear hlv S5 S6 HS2
      go_wp2_with fail
      refine hlr.mono ?_
      rintro e w6 ⟨vc, rfl, S7⟩
      have hsm := sam_c w6 vb vc (expX X o.tick).S (lvr_of (S7.rowGet k2m)) (lvr_of (S7.rowGet k0m)) (by have := HOK1.out.1.le; have := HOK1.out.1.m2; omega)
      have HS7 := Keep.mk S7
      clear hlr S7
      go_wp2_with fail
      refine hsm.mono ?_
      rintro e w7 ⟨rfl, g7⟩
      have S8 := HS7.out.grown g7
      have q0 := HGET.out _ _ S8 k4m
      have HF : Keep (∃ Y', Sep w0 w7 (lobA lb (expX X o.tick) :: rlobA kb Y' :: l) ∧ Rel (expX X o.tick) Y' ∧ Y'.S.length ≤ Y.S.length + 1 ∧ ∀ m, (∀ x ∈ Y.S, x.L.length ≤ m) → ∀ x ∈ Y'.S, x.L.length ≤ m + 1) := ⟨Y1, S8.tail.third.third.tail.third.tail, HRL1.out.1, HY1.out⟩
      have hw1 : IntKind.i64.wrap ((n1 : Int) - 1) = ((i : Nat) : Int) := by rw [wi _ (by omega) (by omega)]; omega
      have l1 : (0 : Int) ≤ (i : Int) := by omega
      have l2 : (i : Int) < (n1 : Nat) := by omega
      have l3 : ((i : Nat) : Int).toNat = i := by omega
      clear hsm g7 S8 HS7
      go_wp2_with fail
      go_ret
      exact ⟨by simp, HF.out⟩
set_option maxRecDepth 100000 in
set_option maxHeartbeats 32000000 in
theorem lists_12 (w0 W : World) (l : List As) (lb kb : Nat) (X : Lb) (Y : Rl) (o : Opr) (hk : o.kd = 12) (h : Sep w0 W (lobA lb X :: rlobA kb Y :: l)) (bt : Bt X Y) (_os : OpS o) :
    Calls Tryz.prog 35 #[pt lb, pt kb, .agg (opv o).toArray] W (PlQ w0 lb kb X Y (X) l) := by
  have S1 := h.newBox (opv o).toArray 40
  obtain ⟨W1, hW1⟩ : ∃ W1, W.alloc (.cells (opv o).toArray 40) = W1 := ⟨_, rfl⟩
  obtain ⟨ob, hob⟩ : ∃ ob, W.heap.size = ob := ⟨_, rfl⟩
  rw [hW1, hob] at S1
  change Sep w0 W1 (boxA ob (opv o) 40 :: lobA lb X :: rlobA kb Y :: l) at S1
  have hlen : Y.S.length ≤ 1000000 := by have := bt.len; omega
  have hob' := S1.boxGet k0m
  have HBT := Keep.mk bt
  have c0 : W1.cell? ⟨ob, 0, none⟩ = some (iv 12) := by rw [← hk]; exact hob'.cellv 0 _ rfl
  have HOK1 : Keep (LbOk X ∧ Up X) := ⟨bt.ok, bt.up⟩
  have HRL1 : Keep (Rel X Y ∧ Y.S.length ≤ 1000000) := ⟨bt.rel, hlen⟩
  have HY1 : Keep (Y.S.length ≤ Y.S.length + 1 ∧ ∀ m, (∀ x ∈ Y.S, x.L.length ≤ m) → ∀ x ∈ Y.S, x.L.length ≤ m + 1) := ⟨by omega, mup fun m hm => hm⟩
  have hL := lives_c w0 W1 _ lb X S1.tail bt.ok bt.up
  obtain ⟨n, hn⟩ : ∃ n, X.S.length = n := ⟨_, rfl⟩
  have hn64 : n ≤ 32 := by have := bt.ok.le; have := bt.ok.m2; omega
  have HN := Keep.mk hn
  clear h S1 hob' bt _os hk hlen
  generalize (opv o).toArray = ov at hW1 ⊢
  rw [hn] at hL
  clear hn
  go_enter Tryz.func35, Tryz.ntmps35
  go_wp2_with fail
  refine hL.mono ?_
  rintro e w2 ⟨va, rfl, S2⟩
  obtain ⟨aa, ca, hva⟩ := own_slice (S2.rowGet k0m)
  subst hva
  have hL2 := lives_c w0 w2 _ lb X S2.swap HOK1.out.1 HOK1.out.2
  rw [HN.out] at hL2
  clear hL S2 hob c0 hW1
  go_wp2_with fail
  refine hL2.mono ?_
  rintro e w3 ⟨vb, rfl, S3⟩
  obtain ⟨ab, cb, hvb⟩ := own_slice (S3.rowGet k0m)
  subst hvb
  have hlr := rLives_c w0 w3 _ kb X Y (S3.perm (List.perm_middle (l₁ := [_, _, _]))) HRL1.out.1 HRL1.out.2 HOK1.out.1
  clear hL2 S3
  go_wp2_with fail
  refine hlr.mono ?_
  rintro e w4 ⟨vc, rfl, S4⟩
  have hsm := sam_c w4 (.slice aa n ca) vc X.S (lvr_of (by rw [HN.out]; exact S4.rowGet k4m)) (lvr_of (S4.rowGet k0m)) (by rw [HN.out]; omega)
  have HS4 := Keep.mk S4
  clear hlr S4
  go_wp2_with fail
  refine hsm.mono ?_
  rintro e w5 ⟨rfl, g5⟩
  have S5 := HS4.out.grown g5
  have hsm2 := sam_c w5 (.slice ab n cb) (.slice aa n ca) X.S (lvr_of (by rw [HN.out]; exact S5.rowGet k2m)) (lvr_of (by rw [HN.out]; exact S5.rowGet k4m)) (by rw [HN.out]; omega)
  have HS5 := Keep.mk S5.tail
  clear hsm g5 S5 HS4
  go_wp2_with fail
  refine hsm2.mono ?_
  rintro e w6 ⟨rfl, g6⟩
  have S6 := HS5.out.grown g6
  have HB0 : Keep ((lvs X.S).length = n * 7 ∧ Sep w0 w6 (rowV 49 7 (.slice ab n cb) n (lvs X.S) :: rlobA kb Y :: lobA lb X :: rowV 49 7 (.slice aa n ca) n (lvs X.S) :: l)) := ⟨by rw [lvs_len, HN.out], S6.swap⟩
  clear hsm2 g6 S6 HS5
  go_wp2_with fail
  go_loopw [10] (fun u wr => ∃ i : Nat, i ≤ n ∧ u = iv i ∧ ∃ cs, Keep (cs.length = n * 7 ∧ Sep w0 wr (rowV 49 7 (.slice ab n cb) n cs :: rlobA kb Y :: lobA lb X :: rowV 49 7 (.slice aa n ca) n (lvs X.S) :: l))) (fun u _ => (n - intOf u).toNat)
  case atStart => exact ⟨0, by omega, rfl, _, HB0⟩
  case round =>
    clear HB0
    obtain ⟨i, hi, rfl, cs, hS⟩ := hrel
    by_cases hlt : i < n
    · obtain ⟨g, rfl⟩ : ∃ g, ab = some ⟨g, 0, none⟩ := by
        obtain ⟨g, c, e, _⟩ := own_any (hS.out.2.rowGet k0m) (by omega)
        injection e with e1 _ _
        exact ⟨g, e1⟩
      obtain ⟨⟨y0, k0⟩, z0⟩ := row7_get hS.out.2 hS.out.1 hlt (show 0 < 7 by omega)
      obtain ⟨⟨y1, k1⟩, z1⟩ := row7_get hS.out.2 hS.out.1 hlt (show 1 < 7 by omega)
      obtain ⟨⟨y2, k2⟩, z2⟩ := row7_get hS.out.2 hS.out.1 hlt (show 2 < 7 by omega)
      obtain ⟨⟨y3, k3⟩, z3⟩ := row7_get hS.out.2 hS.out.1 hlt (show 3 < 7 by omega)
      obtain ⟨⟨y4, k4⟩, z4⟩ := row7_get hS.out.2 hS.out.1 hlt (show 4 < 7 by omega)
      obtain ⟨⟨y5, k5⟩, z5⟩ := row7_get hS.out.2 hS.out.1 hlt (show 5 < 7 by omega)
      obtain ⟨⟨y6, k6⟩, z6⟩ := row7_get hS.out.2 hS.out.1 hlt (show 6 < 7 by omega)
      rw [Nat.add_zero] at k0 z0
      obtain ⟨cs', hcs', S9⟩ := row7_set (i := i) hS.out.2 hS.out.1 (.int .u64 99) (.int .i64 0) (.string ⟨#[]⟩) (.string ⟨#[]⟩) (.int .u64 0) (.int .u64 0) (.int .u64 0)
      have HNX : Keep _ := ⟨And.intro hcs' S9⟩
      have hi0 : (0 : Int) ≤ (i : Int) := by omega
      have hi1 : (i : Int) < (n : Nat) := by omega
      have hti : ((i : Nat) : Int).toNat = i := by omega
      have hwi : IntKind.i64.wrap ((i : Int) + 1) = ((i + 1 : Nat) : Int) := by rw [wi _ (by omega) (by omega)]; omega
      have HB := Keep.mk b49_99
      clear hS hcs' S9
      go_wp2_with (first
        | (show wpList _ _ _ ({ dst := _, op := Op.build 49 _, type := _, pos := _, after := _, guard := _ } :: _) _ _
           refine build_p (by rfl) 49 _ rfl _ ((congrArg (Tryz.prog.built 49) (by simp only [List.map_toArray, List.map_cons, List.map_nil]; rfl)).trans HB.out) ?_))
      go_roundw
      case rel => exact ⟨i + 1, by omega, rfl, cs', HNX⟩
      case measure => simp [intOf]; omega
    · have hi1 : ¬ (i : Int) < (n : Nat) := by omega
      obtain rfl : n = i := by omega
      obtain ⟨g, c, W2, r1, S2, hget⟩ := row7_app hS.out.2 (by omega) [.int .u64 98, .int .i64 0, .string ⟨#[]⟩, .string ⟨#[]⟩, .int .u64 0, .int .u64 0, .int .u64 0] rfl (by intro u hu; simp only [List.mem_cons, List.not_mem_nil, or_false] at hu; rcases hu with rfl | rfl | rfl | rfl | rfl | rfl | rfl <;> rfl) hS.out.1
      obtain ⟨ds, hds⟩ : ∃ ds, cs ++ [.int .u64 98, .int .i64 0, .string ⟨#[]⟩, .string ⟨#[]⟩, .int .u64 0, .int .u64 0, .int .u64 0] = ds := ⟨_, rfl⟩
      rw [hds] at S2 hget
      obtain ⟨n1, hn1⟩ : ∃ n1, n + 1 = n1 := ⟨_, rfl⟩
      rw [hn1] at r1 S2 hget
      have HGET : Keep (∀ W2 l2, Sep w0 W2 l2 → rowV 49 7 (.slice (some ⟨g, 0, none⟩) n1 c) n1 ds ∈ l2 → W2.cell? ⟨g, n * 7, none⟩ = some (.int .u64 98)) := ⟨fun W2 l2 h2 hm => hget W2 l2 h2 hm 0 _ rfl⟩
      have hlr := rLives_c w0 W2 _ kb X Y S2.swap HRL1.out.1 HRL1.out.2 HOK1.out.1
      have HAP := Keep.mk r1
      have HB := Keep.mk b49_98
      clear hS r1 S2 hget hds
      go_wp2_with (first
        | (show wpList _ _ _ ({ dst := _, op := Op.build 49 _, type := _, pos := _, after := _, guard := _ } :: _) _ _
           refine build_p (by rfl) 49 _ rfl _ ((congrArg (Tryz.prog.built 49) (by simp only [List.map_toArray, List.map_cons, List.map_nil]; rfl)).trans HB.out) ?_)
        | (at_builtin; refine wpList_append_run _ rfl (.tmp 52) (.tmp 54) 43 rfl _ _ rfl rfl HAP.out ?_))
      refine hlr.mono ?_
      rintro e w8 ⟨vd, rfl, S8⟩
      have hsm := sam_c w8 (.slice aa n ca) vd X.S (lvr_of (by rw [HN.out]; exact S8.rowGet k4m)) (lvr_of (S8.rowGet k0m)) (by rw [HN.out]; omega)
      have HS8 := Keep.mk S8
      clear hlr S8 HAP HB
      go_wp2_with fail
      refine hsm.mono ?_
      rintro e w9 ⟨rfl, g9⟩
      have S9 := HS8.out.grown g9
      have q0 := HGET.out _ _ S9 k2m
      have hw1 : IntKind.i64.wrap ((n1 : Int) - 1) = ((n : Nat) : Int) := by rw [wi _ (by omega) (by omega)]; omega
      have l1 : (0 : Int) ≤ (n : Int) := by omega
      have l2 : (n : Int) < (n1 : Nat) := by omega
      have l3 : ((n : Nat) : Int).toNat = n := by omega
      have HA0 : Keep ((lvs X.S).length = n * 7 ∧ Sep w0 w9 (rowV 49 7 (.slice aa n ca) n (lvs X.S) :: lobA lb X :: rlobA kb Y :: l)) := ⟨by rw [lvs_len, HN.out], by
        have a1 : Sep w0 w9 (rowV 49 7 (.slice aa n ca) n (lvs X.S) :: rlobA kb Y :: lobA lb X :: l) := S9.tail.swap.tail.third
        exact a1.perm (List.Perm.cons _ (List.Perm.swap ..))⟩
      clear hsm g9 S9 HS8 HGET
      go_wp2_with fail
      clear q0 hw1 l1 l2 l3 hn1
      -- the row aa, n, ca of cells cs lies first: HA0
      go_loopw [11] (fun u wr => ∃ i : Nat, i ≤ n ∧ u = iv i ∧ ∃ cs, Keep (cs.length = n * 7 ∧ Sep w0 wr (rowV 49 7 (.slice aa n ca) n cs :: lobA lb (X) :: rlobA kb Y :: l))) (fun u _ => (n - intOf u).toNat)
      case atStart => exact ⟨0, by omega, rfl, _, HA0⟩
      case round =>
        clear HA0
        obtain ⟨i, hi, rfl, cs, hS⟩ := hrel
        by_cases hlt : i < n
        · obtain ⟨g, rfl⟩ : ∃ g, aa = some ⟨g, 0, none⟩ := by
            obtain ⟨g, c, e, _⟩ := own_any (hS.out.2.rowGet k0m) (by omega)
            injection e with e1 _ _
            exact ⟨g, e1⟩
          obtain ⟨⟨y0, k0⟩, z0⟩ := row7_get hS.out.2 hS.out.1 hlt (show 0 < 7 by omega)
          obtain ⟨⟨y1, k1⟩, z1⟩ := row7_get hS.out.2 hS.out.1 hlt (show 1 < 7 by omega)
          obtain ⟨⟨y2, k2⟩, z2⟩ := row7_get hS.out.2 hS.out.1 hlt (show 2 < 7 by omega)
          obtain ⟨⟨y3, k3⟩, z3⟩ := row7_get hS.out.2 hS.out.1 hlt (show 3 < 7 by omega)
          obtain ⟨⟨y4, k4⟩, z4⟩ := row7_get hS.out.2 hS.out.1 hlt (show 4 < 7 by omega)
          obtain ⟨⟨y5, k5⟩, z5⟩ := row7_get hS.out.2 hS.out.1 hlt (show 5 < 7 by omega)
          obtain ⟨⟨y6, k6⟩, z6⟩ := row7_get hS.out.2 hS.out.1 hlt (show 6 < 7 by omega)
          rw [Nat.add_zero] at k0 z0
          obtain ⟨cs', hcs', S9⟩ := row7_set (i := i) hS.out.2 hS.out.1 (.int .u64 0) (.int .i64 (-1)) (.string ⟨#[119, 114, 105, 116, 116, 101, 110, 32, 111, 118, 101, 114]⟩) (.string ⟨#[]⟩) (.int .u64 0) (.int .u64 0) (.int .u64 0)
          have HNX : Keep _ := ⟨And.intro hcs' S9⟩
          have hi0 : (0 : Int) ≤ (i : Int) := by omega
          have hi1 : (i : Int) < (n : Nat) := by omega
          have hti : ((i : Nat) : Int).toNat = i := by omega
          have hwi : IntKind.i64.wrap ((i : Int) + 1) = ((i + 1 : Nat) : Int) := by rw [wi _ (by omega) (by omega)]; omega
          have HB := Keep.mk b49_m1
          clear hS hcs' S9
          go_wp2_with (first
            | (show wpList _ _ _ ({ dst := _, op := Op.build 49 _, type := _, pos := _, after := _, guard := _ } :: _) _ _
               refine build_p (by rfl) 49 _ rfl _ ((congrArg (Tryz.prog.built 49) (by simp only [List.map_toArray, List.map_cons, List.map_nil]; rfl)).trans (HB.out _)) ?_))
          go_roundw
          case rel => exact ⟨i + 1, by omega, rfl, cs', HNX⟩
          case measure => simp [intOf]; omega
        · have hi1 : ¬ (i : Int) < (n : Nat) := by omega
          obtain rfl : i = n := by omega
          obtain ⟨g, c, W2, r1, S2, hget⟩ := row7_app hS.out.2 (by omega) [.int .u64 0, .int .i64 (-2), .string ⟨#[]⟩, .string ⟨#[]⟩, .int .u64 0, .int .u64 0, .int .u64 0] rfl (by intro u hu; simp only [List.mem_cons, List.not_mem_nil, or_false] at hu; rcases hu with rfl | rfl | rfl | rfl | rfl | rfl | rfl <;> rfl) hS.out.1
          obtain ⟨ds, hds⟩ : ∃ ds, cs ++ [.int .u64 0, .int .i64 (-2), .string ⟨#[]⟩, .string ⟨#[]⟩, .int .u64 0, .int .u64 0, .int .u64 0] = ds := ⟨_, rfl⟩
          rw [hds] at S2 hget
          obtain ⟨n1, hn1⟩ : ∃ n1, i + 1 = n1 := ⟨_, rfl⟩
          rw [hn1] at r1 S2 hget
          have HS2 := Keep.mk S2
          have HGET : Keep (∀ W2 l2, Sep w0 W2 l2 → rowV 49 7 (.slice (some ⟨g, 0, none⟩) n1 c) n1 ds ∈ l2 → W2.cell? ⟨g, i * 7 + 1, none⟩ = some (.int .i64 (-2))) := ⟨fun W2 l2 h2 hm => hget W2 l2 h2 hm 1 _ rfl⟩
          have hlv := lives_c w0 W2 _ lb (X) S2.swap HOK1.out.1 HOK1.out.2
          have HAP := Keep.mk r1
          have HB := Keep.mk b49_m2
          clear hS r1 S2 hget hds
          go_wp2_with (first
            | (show wpList _ _ _ ({ dst := _, op := Op.build 49 _, type := _, pos := _, after := _, guard := _ } :: _) _ _
               refine build_p (by rfl) 49 _ rfl _ ((congrArg (Tryz.prog.built 49) (by simp only [List.map_toArray, List.map_cons, List.map_nil]; rfl)).trans HB.out) ?_)
            | (at_builtin; refine wpList_append_run _ rfl (.tmp 81) (.tmp 83) 43 rfl _ _ rfl rfl HAP.out ?_))
          refine hlv.mono ?_
          rintro e w5 ⟨vb, rfl, S5⟩
          have S6 : Sep w0 w5 (rlobA kb Y :: rowV 49 7 vb (X).S.length (lvs (X).S) :: lobA lb (X) :: rowV 49 7 (.slice (some ⟨g, 0, none⟩) n1 c) n1 ds :: l) := S5.perm (List.perm_middle (l₁ := [_, _, _]))
          have hlr := rLives_c w0 w5 _ kb (X) Y S6 HRL1.out.1 HRL1.out.2 HOK1.out.1
          clear hlv S5 S6 HS2
          go_wp2_with fail
          refine hlr.mono ?_
          rintro e w6 ⟨vc, rfl, S7⟩
          have hsm := sam_c w6 vb vc (X).S (lvr_of (S7.rowGet k2m)) (lvr_of (S7.rowGet k0m)) (by have := HOK1.out.1.le; have := HOK1.out.1.m2; omega)
          have HS7 := Keep.mk S7
          clear hlr S7
          go_wp2_with fail
          refine hsm.mono ?_
          rintro e w7 ⟨rfl, g7⟩
          have S8 := HS7.out.grown g7
          have q0 := HGET.out _ _ S8 k4m
          have HF : Keep (∃ Y', Sep w0 w7 (lobA lb (X) :: rlobA kb Y' :: l) ∧ Rel (X) Y' ∧ Y'.S.length ≤ Y.S.length + 1 ∧ ∀ m, (∀ x ∈ Y.S, x.L.length ≤ m) → ∀ x ∈ Y'.S, x.L.length ≤ m + 1) := ⟨Y, S8.tail.third.third.tail.third.tail, HRL1.out.1, HY1.out⟩
          have hw1 : IntKind.i64.wrap ((n1 : Int) - 1) = ((i : Nat) : Int) := by rw [wi _ (by omega) (by omega)]; omega
          have l1 : (0 : Int) ≤ (i : Int) := by omega
          have l2 : (i : Int) < (n1 : Nat) := by omega
          have l3 : ((i : Nat) : Int).toNat = i := by omega
          clear hsm g7 S8 HS7
          go_wp2_with fail
          go_ret
          exact ⟨by simp, HF.out⟩

end Go.Proofs.YtplcicbpkbamnabGreatDoor.Lo

