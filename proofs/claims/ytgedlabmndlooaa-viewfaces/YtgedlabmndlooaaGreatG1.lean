/- grid: number, cellOf, lay, drop. -/
import Derived.Test.YtgedlabmndlooaaGreatV
namespace Go.Proofs.YtgedlabmndlooaaGreat
open Go Go.RowKit

abbrev pt (b : Nat) : Value := .pointer (some ⟨b, 0, none⟩)
abbrev sl (g n c : Nat) : Value := .slice (some ⟨g, 0, none⟩) n c
set_option maxHeartbeats 2000000 in
theorem number_c (w : World) (gb : Nat) (sd q : Int) (r : List Value) (hs : 1 ≤ sd ∧ sd ≤ 1099511627776) (hq : I64 q) (hh : Has w gb (iv sd :: r) 103) :
    Calls Tryz.prog 105 #[pt gb, iv q] w fun e w' => e = .returned (iv (q / sd)) ∧ w' = w := by
  have c0 : w.cell? ⟨gb, 0, none⟩ = some (iv sd) := hh.cellv 0 _ rfl
  have hd := div_I64 sd q hs.1 hq
  obtain ⟨u, hu⟩ : ∃ u, q.tdiv sd = u := ⟨_, rfl⟩
  obtain ⟨m, hm⟩ : ∃ m, q.tmod sd = m := ⟨_, rfl⟩
  have h1 : (m < 0 → q / sd = u - 1 ∧ q / sd < 0) ∧ (0 ≤ m → q / sd = u) := by
    have e1 := Int.tdiv_eq_ediv (a := q) (b := sd)
    have e2 := Int.tmod_eq_emod (a := q) (b := sd)
    rw [hu] at e1
    rw [hm] at e2
    have b1 := Int.emod_nonneg q (by omega : sd ≠ 0)
    have b2 := Int.emod_lt_of_pos q (by omega : 0 < sd)
    have b3 : sd.sign = 1 := Int.sign_eq_one_of_pos (by omega)
    have b4 : sd.natAbs = sd := by omega
    have b5 : (0 ≤ q ∨ sd ∣ q) ∨ ¬ (0 ≤ q ∨ sd ∣ q) := Classical.em _
    rcases b5 with b5 | b5
    · rw [if_pos b5] at e1 e2
      omega
    · rw [if_neg b5] at e1 e2
      rw [b3] at e1
      have b6 : q % sd ≠ 0 := fun e => b5 (.inr (Int.dvd_of_emod_eq_zero e))
      have b7 : q < 0 := Int.not_le.1 (fun z => b5 (.inl z))
      have b8 := Int.ediv_neg_of_neg_of_pos b7 (by omega : 0 < sd)
      omega
  have hn : sd ≠ 0 := by omega
  have hne : sd ≠ -1 := by omega
  clear hh
  by_cases hc : m < 0
  · obtain ⟨e, hneg⟩ := h1.1 hc
    rw [e] at hd hneg ⊢
    have e0 : IntKind.i64.wrap u = u := by unfold I64 at hd; rw [IntKind.wrap_i64]; omega
    unfold I64 at hd
    clear hneg
    have e1 : IntKind.i64.wrap (u - 1) = u - 1 := by rw [IntKind.wrap_i64]; omega
    clear h1 hd
    go_enter Tryz.func105, Tryz.ntmps105
    go_wp2_with fail
    go_ret
    exact ⟨rfl, rfl⟩
  · have e := h1.2 (by omega)
    rw [e] at hd ⊢
    have e0 : IntKind.i64.wrap u = u := by unfold I64 at hd; rw [IntKind.wrap_i64]; omega
    clear h1 hd
    go_enter Tryz.func105, Tryz.ntmps105
    go_wp2_with fail
    go_ret
    exact ⟨rfl, rfl⟩

set_option maxRecDepth 100000 in
theorem one2 {u v : Int} : ∀ z ∈ [iv u, iv v], z.oneCell' = true := by
  intro z hz
  simp only [List.mem_cons, List.not_mem_nil, or_false] at hz
  rcases hz with rfl | rfl <;> rfl
set_option maxRecDepth 100000 in
theorem info57b : ∃ i, Tryz.prog.info? 119 = some i ∧ i.size = 1 ∧ i.bytes = 8 ∧ i.zero = some (.pointer none) := by
  have h : (Tryz.prog.info? 119).map (fun i => (i.size, i.bytes, i.zero)) = some (1, 8, some (.pointer none)) := by kernel_rfl
  cases e : Tryz.prog.info? 119 with
  | none => rw [e] at h; cases h
  | some i =>
    rw [e] at h
    simp only [Option.map_some, Option.some.injEq, Prod.mk.injEq] at h
    exact ⟨i, rfl, h.1, h.2.1, h.2.2⟩
set_option maxRecDepth 100000 in
theorem under77 : ∃ d, Tryz.prog.underlying 138 = some d ∧ d.isRow = true := ⟨_, Tryz.underlying138, rfl⟩
set_option maxRecDepth 100000 in
theorem info77 : (Tryz.prog.info? 138).map (·.size) = some 2 := by kernel_rfl
set_option maxRecDepth 100000 in
set_option maxHeartbeats 4000000 in
theorem cellOf_c (W : World) (gb : Nat) (sd x y : Int) (r : List Value) (hs : 1 ≤ sd ∧ sd ≤ 1099511627776) (hx : I64 x) (hy : I64 y) (hh : Has W gb (iv sd :: r) 103) :
    Calls Tryz.prog 85 #[pt gb, vv x y] W fun e W' => e = .returned (ce (x / sd, y / sd)) ∧ W.grownBy W' none := by
  have HN := Keep.mk (And.intro (fun w h => number_c w gb sd x r hs hx h) (fun w h => number_c w gb sd y r hs hy h))
  have S1 := ((Sep.nil W).newBox #[iv x, iv y] 24).newBox #[iv 0, iv 0] 138
  obtain ⟨W1, hW1⟩ : ∃ W1, (W.alloc (.cells #[iv x, iv y] 24)).alloc (.cells #[iv 0, iv 0] 138) = W1 := ⟨_, rfl⟩
  obtain ⟨ab, hab⟩ : ∃ b, W.heap.size = b := ⟨_, rfl⟩
  obtain ⟨rb, hrb⟩ : ∃ b, (W.alloc (.cells #[iv x, iv y] 24)).heap.size = b := ⟨_, rfl⟩
  rw [hW1, hab, hrb] at S1
  have HB : Keep (Sep W W1 [boxA rb [iv 0, iv 0] 138, boxA ab [iv x, iv y] 24]) := ⟨S1⟩
  clear S1 hs hx hy
  rw [heap1, hab] at hrb
  generalize x / sd = u at *
  generalize y / sd = v at *
  go_enter Tryz.func85, Tryz.ntmps85
  go_wp2_with fail
  clear hW1
  first | rw [hrb] | skip
  clear hab hrb
  refine region_X (S := fun w' => Sep W w' [boxA rb [iv 0, iv 0] 138, boxA ab [iv x, iv y] 24]) [9] (by kernel_rfl) (HB.out.grown (gr_drew _ _)) (fun hHeld => ?_)
  replace HB := Keep.mk hHeld
  obtain ⟨W0, hW0⟩ : ∃ W_, W1.drew = W_ := ⟨_, rfl⟩
  rw [hW0] at HB hHeld ⊢
  clear hW0
  refine wpAnyX_take (i := 0) (oi := _) (v := ?_) rfl (by kernel_rfl) (by kernel_rfl) (by kernel_rfl) (by kernel_rfl) (by kernel_rfl) (fun _ _ _ h => h) (Or.inl ⟨by rfl, ?_⟩) (by assumption) ?_
  rotate_left
  · (intro w hSw; go_simp; first | done | (with_reducible rfl))
  simp only [Act.put, A1, A3, A4, A5, A6]
  refine wpAnyX_take (i := 1) (oi := _) (v := ?_) rfl (by kernel_rfl) (by kernel_rfl) (by kernel_rfl) (by kernel_rfl) (by kernel_rfl) (fun _ _ _ h => h) (Or.inl ⟨by rfl, ?_⟩) (by assumption) ?_
  rotate_left
  · (intro w hSw; go_simp; first | done | (with_reducible rfl))
  simp only [Act.put, A1, A2, A3, A4, A5, A6]
  refine wpAnyX_take (i := 2) (oi := _) (v := ?_) rfl (by kernel_rfl) (by kernel_rfl) (by kernel_rfl) (by kernel_rfl) (by kernel_rfl) (fun _ _ _ h => h) (Or.inl ⟨by rfl, ?_⟩) (by assumption) ?_
  rotate_left
  · (intro w hSw; have q0 := (hSw.boxGet k1m).cellv 0 _ rfl; go_simp; first | done | (with_reducible rfl))
  simp only [Act.put, A1, A2, A3, A4, A5, A6]
  refine wpAnyX_take (i := 4) (oi := _) (v := ?_) rfl (by kernel_rfl) (by kernel_rfl) (by kernel_rfl) (by kernel_rfl) (by kernel_rfl) (fun _ _ _ h => h) (Or.inl ⟨by rfl, ?_⟩) (by assumption) ?_
  rotate_left
  · (intro w hSw; go_simp; first | done | (with_reducible rfl))
  simp only [Act.put, A1, A2, A3, A4, A5, A6]
  refine wpAnyX_take (i := 5) (oi := _) (v := ?_) rfl (by kernel_rfl) (by kernel_rfl) (by kernel_rfl) (by kernel_rfl) (by kernel_rfl) (fun _ _ _ h => h) (Or.inl ⟨by rfl, ?_⟩) (by assumption) ?_
  rotate_left
  · (intro w hSw; go_simp; first | done | (with_reducible rfl))
  simp only [Act.put, A1, A2, A3, A4, A5, A6]
  refine wpAnyX_take (i := 6) (oi := _) (v := ?_) rfl (by kernel_rfl) (by kernel_rfl) (by kernel_rfl) (by kernel_rfl) (by kernel_rfl) (fun _ _ _ h => h) (Or.inl ⟨by rfl, ?_⟩) (by assumption) ?_
  rotate_left
  · (intro w hSw; have q1 := (hSw.boxGet k1m).cellv 1 _ rfl; go_simp; first | done | (with_reducible rfl))
  simp only [Act.put, A1, A2, A3, A4, A5, A6]
  refine wpAnyX_one (i := 3) (by kernel_rfl) rfl (fun K hK => ?_)
  go_simp
  refine (HN.out.1 _ (hh.kept HB.out.g nofun)).mono ?_
  rintro e wg ⟨rfl, hw⟩
  rw [hw]
  clear hw
  refine hK.out _ _ HB.out (fun hHeld => ?_)
  clear hK K
  refine wpAnyX_one (i := 7) (by kernel_rfl) rfl (fun K hK => ?_)
  go_simp
  refine (HN.out.2 _ (hh.kept HB.out.g nofun)).mono ?_
  rintro e wg ⟨rfl, hw⟩
  rw [hw]
  clear hw
  refine hK.out _ _ HB.out (fun hHeld => ?_)
  clear hK K
  refine wpAnyX_take (i := 8) (oi := _) (v := ?_) rfl (by kernel_rfl) (by kernel_rfl) (by kernel_rfl) (by kernel_rfl) (by kernel_rfl) (fun _ _ _ h => h) (Or.inl ⟨by rfl, ?_⟩) (by assumption) ?_
  rotate_left
  · (intro w hSw; go_simp; first | done | (with_reducible rfl))
  simp only [Act.put, A1, A2, A3, A4, A5, A6]
  refine wpAnyX_late (i := 9) (by kernel_rfl) rfl (by kernel_rfl) (fun K hK => ?_)
  rw [if_pos (show Region.wanted _ _ = true from rfl)]
  refine wp_store_mid 138 _ _ rfl rb 0 #[iv u, iv v] rfl rfl ((HB.out.boxGet k0m).there 0 2 (Nat.le_refl _)) info77 (all_oneCell_toArray one2) ?_
  have S_ := HB.out.boxTurn ((HB.out.boxGet k0m).setCells [iv u, iv v] 0) (gr_sets _ _ _ _)
  have HS := Keep.mk S_
  clear HB hHeld S_
  refine hK.out _ _ ?_
  clear hK K
  change Keep (Sep W (World.setCells W0 rb 0 [iv u, iv v]) _) at HS
  show wpAnyX _ _ _ _ _ _ _ _ _ (World.setCells W0 rb 0 [iv u, iv v])
  generalize World.setCells W0 rb 0 [iv u, iv v] = W3 at HS ⊢
  simp only [Act.put, A1, A2, A3]
  refine wpAnyX_done (by kernel_rfl) ?_ _
  go_wp2_with fail
  obtain ⟨du, hdu, hdr⟩ := under77
  exact ret_c rfl rfl (HS.out.boxGet k0m) hdu hdr info77 rfl ⟨rfl, HS.out.g⟩

set_option maxRecDepth 100000 in
set_option maxHeartbeats 4000000 in
theorem lay0_c (w0 W : World) (l : List As) (v : Value) (n : Nat) (xs : List Value) (tb : Nat) (a0 a1 a2 a3 a4 : Value) (hn : (n + 1) * 8 ≤ 140737488355328) (h : Sep w0 W (rowV 119 1 v n xs :: boxA tb [a0, a1, a2, a3, a4] 122 :: l)) :
    Calls Tryz.prog 74 #[v, iv 0, pt tb] W fun e W' => ∃ g c, e = .returned (sl g (n + 1) c) ∧ Sep w0 W' (rowV 119 1 (sl g (n + 1) c) (n + 1) (xs ++ [pt tb]) :: boxA tb [a0, a1, a2, iv n, a4] 122 :: l) := by
  obtain ⟨a, c, rfl⟩ := own_slice (h.rowGet k0m)
  have x0 := (h.boxGet k1m).cellv 3 _ rfl
  have y0 := (h.boxGet k1m).frozen 3
  have S2 := (h.swap.boxPut 3 (iv n)).swap
  obtain ⟨W2, hW2⟩ : ∃ W2, W.setCell ⟨tb, 3, none⟩ (iv n) = W2 := ⟨_, rfl⟩
  rw [hW2] at S2
  obtain ⟨i, i1, i2, i3, i4⟩ := info57b
  obtain ⟨g9, c9, W9, ap, S9⟩ := Sep.app (t := 101) (bytes := 8) Tryz.underlying101 i1 i4 i2 i3 rfl (by omega) S2 [pt tb] rfl (by intro u hu; simp at hu; subst hu; rfl) hn (by omega)
  have AP := Keep.mk ap
  have HS := Keep.mk S9
  obtain ⟨wb, hwb⟩ : ∃ b, W2.heap.size = b := ⟨_, rfl⟩
  obtain ⟨n1, hn1⟩ : ∃ n1, n + 1 = n1 := ⟨_, rfl⟩
  rw [hwb, hn1] at AP
  rw [hn1] at HS ⊢
  clear ap S9 S2 h hn1 hn
  go_enter Tryz.func74, Tryz.ntmps74
  go_wp2_with (first
    | (at_builtin; refine wpList_append_run _ rfl (.tmp 14) (.tmp 16) 101 rfl _ _ rfl rfl AP.out ?_))
  go_ret
  exact ⟨g9, c9, rfl, HS.out⟩

set_option maxRecDepth 100000 in
set_option maxHeartbeats 4000000 in
theorem lay1_c (w0 W : World) (l : List As) (v : Value) (n : Nat) (xs : List Value) (tb : Nat) (a0 a1 a2 a3 a4 : Value) (hn : (n + 1) * 8 ≤ 140737488355328) (h : Sep w0 W (rowV 119 1 v n xs :: boxA tb [a0, a1, a2, a3, a4] 122 :: l)) :
    Calls Tryz.prog 74 #[v, iv 1, pt tb] W fun e W' => ∃ g c, e = .returned (sl g (n + 1) c) ∧ Sep w0 W' (rowV 119 1 (sl g (n + 1) c) (n + 1) (xs ++ [pt tb]) :: boxA tb [a0, a1, a2, a3, iv n] 122 :: l) := by
  obtain ⟨a, c, rfl⟩ := own_slice (h.rowGet k0m)
  have x0 := (h.boxGet k1m).cellv 4 _ rfl
  have y0 := (h.boxGet k1m).frozen 4
  have S2 := (h.swap.boxPut 4 (iv n)).swap
  obtain ⟨W2, hW2⟩ : ∃ W2, W.setCell ⟨tb, 4, none⟩ (iv n) = W2 := ⟨_, rfl⟩
  rw [hW2] at S2
  obtain ⟨i, i1, i2, i3, i4⟩ := info57b
  obtain ⟨g9, c9, W9, ap, S9⟩ := Sep.app (t := 101) (bytes := 8) Tryz.underlying101 i1 i4 i2 i3 rfl (by omega) S2 [pt tb] rfl (by intro u hu; simp at hu; subst hu; rfl) hn (by omega)
  have AP := Keep.mk ap
  have HS := Keep.mk S9
  obtain ⟨wb, hwb⟩ : ∃ b, W2.heap.size = b := ⟨_, rfl⟩
  obtain ⟨n1, hn1⟩ : ∃ n1, n + 1 = n1 := ⟨_, rfl⟩
  rw [hwb, hn1] at AP
  rw [hn1] at HS ⊢
  clear ap S9 S2 h hn1 hn
  go_enter Tryz.func74, Tryz.ntmps74
  go_wp2_with (first
    | (at_builtin; refine wpList_append_run _ rfl (.tmp 14) (.tmp 16) 101 rfl _ _ rfl rfl AP.out ?_))
  go_ret
  exact ⟨g9, c9, rfl, HS.out⟩
end Go.Proofs.YtgedlabmndlooaaGreat
