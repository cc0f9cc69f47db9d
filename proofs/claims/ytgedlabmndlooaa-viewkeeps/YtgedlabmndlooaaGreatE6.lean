/- view: the view of a car -/
import Derived.Test.YtgedlabmndlooaaGreatE5
import Derived.Test.YtgedlabmndlooaaGreatE1
namespace Go.Proofs.YtgedlabmndlooaaGreat
open Go Go.RowKit Go.Maps

/-- a view as it lies -/
def vwv (t : Int) (own : Cr) (v : Value) : List Value := [.int .u64 t, iv own.pl, .string own.nm, iv own.x, iv own.y, iv own.sx, iv own.sy, iv own.hd, iv own.he, iv own.en, iv own.am, iv own.co, iv own.wa, iv own.sp, iv own.sc, v]
def zvw : List Value := [.int .u64 0, iv 0, .string { data := #[] }, iv 0, iv 0, iv 0, iv 0, iv 0, iv 0, iv 0, iv 0, iv 0, iv 0, iv 0, iv 0, .slice none 0 0]
theorem vwv_one (t : Int) (own : Cr) (v : Value) (hv : ∃ a n c, v = .slice a n c) : ∀ u ∈ vwv t own v, u.oneCell' = true := by
  obtain ⟨a, n, c, rfl⟩ := hv
  intro u hu
  simp only [vwv, List.mem_cons, List.not_mem_nil, or_false] at hu
  rcases hu with rfl | rfl | rfl | rfl | rfl | rfl | rfl | rfl | rfl | rfl | rfl | rfl | rfl | rfl | rfl | rfl <;> rfl
theorem info29 : (Tryz.prog.info? 29).map (·.size) = some 16 := by kernel_rfl
theorem under29 : ∃ d, Tryz.prog.underlying 29 = some d ∧ d.isRow = true := ⟨_, Tryz.underlying29, rfl⟩
theorem built29 (t : Int) (own : Cr) (v : Value) (hv : ∃ a n c, v = .slice a n c) : Tryz.prog.built 29 [(0, .int .u64 t), (1, .agg (crv own).toArray), (2, v)] = some (vwv t own v).toArray := by
  obtain ⟨a, n, c, rfl⟩ := hv
  kernel_rfl
set_option maxRecDepth 100000 in
set_option maxHeartbeats 16000000 in
theorem view_c (w0 W : World) (l : List As) (sb gb : Nat) (vC vT : Value) (tick r sh sd : Int) (L : List Sn) (own : Cr) (ho : CrOk own) (hsh : 0 ≤ sh ∧ sh ≤ 32) (hl : L.length * 24 + 24 ≤ 140737488355328) (h : Sep w0 W (boxA sb [.int .u64 tick, iv r, iv sh, vC, vT, pt gb] 80 :: rowV 33 5 vT L.length (fl snv L) :: gridA gb sd (plM L) :: l)) :
    Calls Tryz.prog 32 #[pt sb, vlC own] W fun e W' => ∃ v, e = .returned (.agg (vwv tick own v).toArray) ∧ SeR w0 W' (boxA sb [.int .u64 tick, iv r, iv sh, vC, vT, pt gb] 80 :: rowV 33 5 vT L.length (fl snv L) :: gridA gb sd (plM L) :: l) L own r sh v := by
  have S1 := (h.newBox #[iv own.pl, .string own.nm, iv own.x, iv own.y, iv own.sx, iv own.sy, iv own.hd, iv own.he, iv own.en, iv own.am, iv own.co, iv own.wa, iv own.sp, iv own.sc] 26).newBox #[.int .u64 0, iv 0, .string { data := #[] }, iv 0, iv 0, iv 0, iv 0, iv 0, iv 0, iv 0, iv 0, iv 0, iv 0, iv 0, iv 0, .slice none 0 0] 29
  simp only [World.size_alloc] at S1
  obtain ⟨cb, hcb⟩ : ∃ b, W.heap.size = b := ⟨_, rfl⟩
  obtain ⟨rb, hrb⟩ : ∃ b, cb + 1 = b := ⟨_, rfl⟩
  obtain ⟨Wa, hWa⟩ : ∃ w, (W.alloc (.cells #[iv own.pl, .string own.nm, iv own.x, iv own.y, iv own.sx, iv own.sy, iv own.hd, iv own.he, iv own.en, iv own.am, iv own.co, iv own.wa, iv own.sp, iv own.sc] 26)).alloc (.cells #[.int .u64 0, iv 0, .string { data := #[] }, iv 0, iv 0, iv 0, iv 0, iv 0, iv 0, iv 0, iv 0, iv 0, iv 0, iv 0, iv 0, .slice none 0 0] 29) = w := ⟨_, rfl⟩
  rw [hWa, hcb, hrb] at S1
  have HA : Keep (Sep w0 Wa (boxA rb zvw 29 :: boxA cb (crv own) 26 :: boxA sb [.int .u64 tick, iv r, iv sh, vC, vT, pt gb] 80 :: rowV 33 5 vT L.length (fl snv L) :: gridA gb sd (plM L) :: l)) := ⟨S1⟩
  have HO := Keep.mk ho
  have HSH := Keep.mk hsh
  have HL := Keep.mk hl
  have HCL := Keep.mk (clone_c own.nm Wa ho.nm)
  obtain ⟨dc, hdc⟩ := under26
  have c1 := (HA.out.boxGet k1m).cellv 1 _ rfl
  clear S1 h ho hsh hl
  go_enter Tryz.func32, Tryz.ntmps32
  go_wp2_with fail
  clear hWa hcb hrb
  refine HCL.out.mono ?_
  rintro e Wb ⟨rfl, gb1⟩
  have Sb := HA.out.grown gb1
  have c2 := (Sb.boxGet k1m).cellv 1 _ rfl
  have y2 := (Sb.boxGet k1m).frozen 1
  have Sc := Sb.swap.boxPut 1 (.string own.nm)
  obtain ⟨W1, hW1⟩ : ∃ w, Wb.setCell ⟨cb, 1, none⟩ (.string own.nm) = w := ⟨_, rfl⟩
  rw [hW1] at Sc
  have HB : Keep (Sep w0 W1 (boxA cb (crv own) 26 :: boxA rb zvw 29 :: boxA sb [.int .u64 tick, iv r, iv sh, vC, vT, pt gb] 80 :: rowV 33 5 vT L.length (fl snv L) :: gridA gb sd (plM L) :: l)) := ⟨Sc⟩
  clear Sb Sc c1 gb1 HA HCL
  go_wp2_with fail
  clear hW1 c2 y2
  refine region_Y (S := fun w' => Sep w0 w' (boxA cb (crv own) 26 :: boxA rb zvw 29 :: boxA sb [.int .u64 tick, iv r, iv sh, vC, vT, pt gb] 80 :: rowV 33 5 vT L.length (fl snv L) :: gridA gb sd (plM L) :: l)) [9] (by kernel_rfl) ?_
  obtain ⟨W0, hW0⟩ : ∃ W_, W1.drew = W_ := ⟨_, rfl⟩
  replace HB := Keep.mk (HB.out.grown (gr_drew _ none))
  rw [hW0] at HB ⊢
  clear hW0
  have hHeld : (fun w' => Sep w0 w' (boxA cb (crv own) 26 :: boxA rb zvw 29 :: boxA sb [.int .u64 tick, iv r, iv sh, vC, vT, pt gb] 80 :: rowV 33 5 vT L.length (fl snv L) :: gridA gb sd (plM L) :: l)) W0 := HB.out
  refine wpAnyY_pure (i := 0) (oi := _) (v := ?_) rfl (by kernel_rfl) (by kernel_rfl) (by kernel_rfl) (by kernel_rfl) (fun _ _ _ h => h) (Or.inl ⟨by rfl, ?_⟩) ?_
  rotate_left
  · (intro w hSw; go_simp; first | done | (with_reducible rfl))
  simp only [Act.put, List.getElem_toArray, List.getElem_cons_zero, List.setIfInBounds_toArray, List.set_cons_zero, List.set_cons_succ]
  refine wpAnyY_pure (i := 1) (oi := _) (v := ?_) rfl (by kernel_rfl) (by kernel_rfl) (by kernel_rfl) (by kernel_rfl) (fun _ _ _ h => h) (Or.inl ⟨by rfl, ?_⟩) ?_
  rotate_left
  · (intro w hSw; go_simp; first | done | (with_reducible rfl))
  simp only [Act.put, List.getElem_toArray, List.getElem_cons_succ, List.getElem_cons_zero, List.setIfInBounds_toArray, List.set_cons_zero, List.set_cons_succ]
  refine wpAnyY_pure (i := 2) (oi := _) (v := ?_) rfl (by kernel_rfl) (by kernel_rfl) (by kernel_rfl) (by kernel_rfl) (fun _ _ _ h => h) (Or.inl ⟨by rfl, ?_⟩) ?_
  rotate_left
  · (intro w hSw; go_simp; first | done | (with_reducible rfl))
  simp only [Act.put, List.getElem_toArray, List.getElem_cons_succ, List.getElem_cons_zero, List.setIfInBounds_toArray, List.set_cons_zero, List.set_cons_succ]
  refine wpAnyY_take (i := 3) (oi := _) (v := ?_) rfl (by kernel_rfl) (by kernel_rfl) (by kernel_rfl) (by kernel_rfl) (by kernel_rfl) (fun _ _ _ h => h) (Or.inl ⟨by rfl, ?_⟩) (by assumption) ?_
  rotate_left
  · (intro w hSw; have q := (hSw.boxGet k2m).cellv 0 _ rfl; go_simp; first | done | (with_reducible rfl))
  simp only [Act.put, List.getElem_toArray, List.getElem_cons_succ, List.getElem_cons_zero, List.setIfInBounds_toArray, List.set_cons_zero, List.set_cons_succ]
  refine wpAnyY_take (i := 4) (oi := _) (v := .agg (crv own).toArray) rfl (by kernel_rfl) (by kernel_rfl) (by kernel_rfl) (by kernel_rfl) (by kernel_rfl) (fun _ _ _ h => h) (yieldsIf_load_mid (by rfl) 26 _ rfl _ _ rfl _ _ (fun w hSw => (hSw.boxGet k0m).range) hdc.1 hdc.2 info26) (by assumption) ?_
  simp only [Act.put, List.getElem_toArray, List.getElem_cons_succ, List.getElem_cons_zero, List.setIfInBounds_toArray, List.set_cons_zero, List.set_cons_succ]
  refine wpAnyY_pure (i := 5) (oi := _) (v := ?_) rfl (by kernel_rfl) (by kernel_rfl) (by kernel_rfl) (by kernel_rfl) (fun _ _ _ h => h) (Or.inl ⟨by rfl, ?_⟩) ?_
  rotate_left
  · (intro w hSw; go_simp; first | done | (with_reducible rfl))
  simp only [Act.put, List.getElem_toArray, List.getElem_cons_succ, List.getElem_cons_zero, List.setIfInBounds_toArray, List.set_cons_zero, List.set_cons_succ]
  refine wpAnyY_take (i := 6) (oi := _) (v := .agg (crv own).toArray) rfl (by kernel_rfl) (by kernel_rfl) (by kernel_rfl) (by kernel_rfl) (by kernel_rfl) (fun _ _ _ h => h) (yieldsIf_load_mid (by rfl) 26 _ rfl _ _ rfl _ _ (fun w hSw => (hSw.boxGet k0m).range) hdc.1 hdc.2 info26) (by assumption) ?_
  simp only [Act.put, List.getElem_toArray, List.getElem_cons_succ, List.getElem_cons_zero, List.setIfInBounds_toArray, List.set_cons_zero, List.set_cons_succ]
  refine wpAnyY_one (i := 7) (by kernel_rfl) rfl (fun K hK => ?_)
  go_simp
  refine (seen_c w0 W0 (boxA cb (crv own) 26 :: boxA rb zvw 29 :: l) sb gb (.int .u64 tick) vC vT r sh sd L own HO.out HSH.out HL.out ((fr1 [_, _, _, _] (fr1 [_, _, _, _] (fr1 [_, _, _, _] (fr1 [_] (fr1 [_] HB.out))))))).mono ?_
  rintro e W2 ⟨v, rfl, q2⟩
  obtain ⟨T, p1, p2, S2⟩ := q2.o
  have HSL : Keep (∃ a n c, v = .slice a n c) := ⟨by obtain ⟨a, c, e⟩ := own_slice (S2.rowGet k0m); exact ⟨_, _, _, e⟩⟩
  have HP := Keep.mk (And.intro p1 p2)
  have HB2 : Keep (Sep w0 W2 (boxA cb (crv own) 26 :: boxA rb zvw 29 :: rowV 33 5 v T.length (fl snv T) :: boxA sb [.int .u64 tick, iv r, iv sh, vC, vT, pt gb] 80 :: rowV 33 5 vT L.length (fl snv L) :: gridA gb sd (plM L) :: l)) := ⟨(fr1 [_, _, _, _, _] (fr1 [_, _, _, _, _] (fr1 [_, _, _] (fr1 [_, _, _] (fr1 [_, _, _] (fr1 [_, _, _] S2))))))⟩
  refine hK.out _ _ (fun _ => Sep.dropM [_, _] [_] HB2.out) ?_
  clear hK K S2 HB hHeld p1 p2 q2
  refine wpAnyY_pure (i := 8) (oi := _) (v := .agg (vwv tick own v).toArray) rfl (by kernel_rfl) (by kernel_rfl) (by kernel_rfl) (by kernel_rfl) (fun _ _ _ h => h) (yieldsIf_build (by rfl) 29 _ rfl _ ?_) ?_
  · refine (congrArg (Tryz.prog.built 29) ?_).trans (built29 tick own v (HSL.out))
    simp only [List.map_toArray, List.map_cons, List.map_nil]
    rfl
  simp only [Act.put, List.getElem_toArray, List.getElem_cons_succ, List.getElem_cons_zero, List.setIfInBounds_toArray, List.set_cons_zero, List.set_cons_succ]
  refine wpAnyY_late (i := 9) (by kernel_rfl) rfl (by kernel_rfl) (fun K hK => ?_)
  rw [if_pos (show Region.wanted _ _ = true from rfl)]
  refine wp_store_mid 29 _ _ rfl rb 0 (vwv tick own v).toArray rfl rfl ((HB2.out.boxGet k1m).there 0 16 (Nat.le_refl _)) info29 (all_oneCell_toArray (vwv_one tick own v HSL.out)) ?_
  have S_ := HB2.out.swap.boxTurn ((HB2.out.boxGet k1m).setCells (vwv tick own v) 0) (gr_sets _ _ _ _)
  have HS := Keep.mk S_
  clear HB2 S_
  refine hK.out _ _ ?_
  clear hK K
  change Keep (Sep w0 (World.setCells W2 rb 0 (vwv tick own v)) _) at HS
  show wpAnyY _ _ _ _ _ _ _ _ _ (World.setCells W2 rb 0 (vwv tick own v))
  generalize World.setCells W2 rb 0 (vwv tick own v) = W3 at HS ⊢
  simp only [Act.put, List.getElem_toArray, List.getElem_cons_succ, List.getElem_cons_zero]
  refine wpAnyY_done (by kernel_rfl) ?_ _
  go_wp2_with fail
  obtain ⟨dv, hdv⟩ := under29
  refine ret_c rfl rfl (HS.out.boxGet k0m) hdv.1 hdv.2 info29 rfl ?_
  refine ⟨v, rfl, ⟨T, HP.out.1, HP.out.2, ?_⟩⟩
  exact HS.out.tail.tail
end Go.Proofs.YtgedlabmndlooaaGreat
