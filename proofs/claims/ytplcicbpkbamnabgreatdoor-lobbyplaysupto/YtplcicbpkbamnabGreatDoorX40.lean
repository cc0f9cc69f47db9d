import Derived.Test.YtplcicbpkbamnabGreatDoorX39
/- LobbyPlays: plays, call by call: those whose order is drawn, and the rest -/
namespace Go.Proofs.YtplcicbpkbamnabGreatDoor.Lo
open Go Go.RowKit Go.Maps

theorem rot3 {w0 W : World} {a b c : As} {l : List As} (h : Sep w0 W (a :: b :: c :: l)) : Sep w0 W (b :: c :: a :: l) := h.third.third
set_option maxRecDepth 100000 in
set_option maxHeartbeats 16000000 in
theorem play_n (w0 W : World) (l : List As) (lb kb : Nat) (X : Lb) (Y : Rl) (o : Opr) (hk : ¬ (1 ≤ o.kd ∧ o.kd ≤ 12)) (h : Sep w0 W (lobA lb X :: rlobA kb Y :: l)) (bt : Bt X Y) (_os : OpS o) (wc : Wc w0) :
    Calls Tryz.prog 7 #[pt lb, pt kb, .agg (opv o).toArray] W (PlQ w0 lb kb X Y (X) l) := by
  have S1 := h.newBox (opv o).toArray 40
  obtain ⟨W1, hW1⟩ : ∃ W1, W.alloc (.cells (opv o).toArray 40) = W1 := ⟨_, rfl⟩
  obtain ⟨ob, hob⟩ : ∃ ob, W.heap.size = ob := ⟨_, rfl⟩
  rw [hW1, hob] at S1
  change Sep w0 W1 (boxA ob (opv o) 40 :: lobA lb X :: rlobA kb Y :: l) at S1
  have hlen : Y.S.length ≤ 1000000 := by have := bt.len; omega
  have hob' := S1.boxGet k0m
  have hkc : ∀ W' l', Sep w0 W' l' → Na.Kc W' := fun W' l' hh => wc.n.kept hh.g
  have c0 : W1.cell? ⟨ob, 0, none⟩ = some (iv o.kd) := hob'.cellv 0 _ rfl
  have x1 : (o.kd == 1) = false := by simpa using (show ¬ o.kd = 1 by omega)
  have x2 : (o.kd == 2) = false := by simpa using (show ¬ o.kd = 2 by omega)
  have x3 : (o.kd == 3) = false := by simpa using (show ¬ o.kd = 3 by omega)
  have x4 : (o.kd == 4) = false := by simpa using (show ¬ o.kd = 4 by omega)
  have x5 : (o.kd == 5) = false := by simpa using (show ¬ o.kd = 5 by omega)
  have x6 : (o.kd == 6) = false := by simpa using (show ¬ o.kd = 6 by omega)
  have x7 : (o.kd == 7) = false := by simpa using (show ¬ o.kd = 7 by omega)
  have x8 : (o.kd == 8) = false := by simpa using (show ¬ o.kd = 8 by omega)
  have x9 : (o.kd == 9) = false := by simpa using (show ¬ o.kd = 9 by omega)
  have x10 : (o.kd == 10) = false := by simpa using (show ¬ o.kd = 10 by omega)
  have x11 : (o.kd == 11) = false := by simpa using (show ¬ o.kd = 11 by omega)
  have x12 : (o.kd == 12) = false := by simpa using (show ¬ o.kd = 12 by omega)
  have hL := next_c w0 W1 _ lb X S1.swap
  have hC := rnext_c w0 W1 _ kb X Y S1.third bt.rel hlen
  have HF : Keep (∃ Y', Sep w0 W1 (lobA lb X :: rlobA kb Y' :: l) ∧ Rel X Y' ∧ Y'.S.length ≤ Y.S.length + 1 ∧ ∀ m, (∀ x ∈ Y.S, x.L.length ≤ m) → ∀ x ∈ Y'.S, x.L.length ≤ m + 1) := ⟨Y, S1.tail, bt.rel, by omega, mup fun m hm => hm⟩
  generalize o.kd = kd at c0 x1 x2 x3 x4 x5 x6 x7 x8 x9 x10 x11 x12
  clear h S1 hob' bt wc hkc hlen hk
  generalize (opv o).toArray = ov at hW1 ⊢
  go_enter Tryz.func7, Tryz.ntmps7
  go_wp2_with fail
  refine hL.mono ?_
  rintro e w2 ⟨rfl, hw⟩
  subst hw
  clear hL
  go_wp2_with fail
  refine hC.mono ?_
  rintro e w3 ⟨rfl, hw⟩
  subst hw
  clear hC
  go_wp2_with fail
  go_ret
  exact ⟨by simp, HF.out⟩
set_option maxRecDepth 100000 in
set_option maxHeartbeats 16000000 in
theorem play_7 (w0 W : World) (l : List As) (lb kb : Nat) (X : Lb) (Y : Rl) (o : Opr) (hk : o.kd = 7) (h : Sep w0 W (lobA lb X :: rlobA kb Y :: l)) (bt : Bt X Y) (_os : OpS o) (wc : Wc w0) :
    Calls Tryz.prog 7 #[pt lb, pt kb, .agg (opv o).toArray] W (PlQ w0 lb kb X Y (refX X) l) := by
  have S1 := h.newBox (opv o).toArray 40
  obtain ⟨W1, hW1⟩ : ∃ W1, W.alloc (.cells (opv o).toArray 40) = W1 := ⟨_, rfl⟩
  obtain ⟨ob, hob⟩ : ∃ ob, W.heap.size = ob := ⟨_, rfl⟩
  rw [hW1, hob] at S1
  change Sep w0 W1 (boxA ob (opv o) 40 :: lobA lb X :: rlobA kb Y :: l) at S1
  have hlen : Y.S.length ≤ 1000000 := by have := bt.len; omega
  have hob' := S1.boxGet k0m
  have hkc : ∀ W' l', Sep w0 W' l' → Na.Kc W' := fun W' l' hh => wc.n.kept hh.g
  have c0 : W1.cell? ⟨ob, 0, none⟩ = some (iv 7) := by rw [← hk]; exact hob'.cellv 0 _ rfl
  have hL := refill_c w0 W1 _ lb X S1.swap bt.ok
  have HR : Keep (∀ W', Sep w0 W' (lobA lb (refX X) :: boxA ob (opv o) 40 :: rlobA kb Y :: l) → Calls Tryz.prog 37 #[pt kb] W' fun e W'' => e = .returned (.tuple #[]) ∧ ∃ Y', Sep w0 W'' (lobA lb (refX X) :: rlobA kb Y' :: l) ∧ Rel (refX X) Y' ∧ Y'.S.length ≤ Y.S.length + 1 ∧ ∀ m, (∀ x ∈ Y.S, x.L.length ≤ m) → ∀ x ∈ Y'.S, x.L.length ≤ m + 1) := ⟨fun W' hh => (rref_c w0 W' _ kb X Y hh.third bt.rel hlen bt.ok).mono fun e W'' ⟨he, Y', q1, q2, q3, q4⟩ => ⟨he, Y', drop3 q1, q2, by omega, mup q4⟩⟩
  have HLE := Keep.mk bt.len
  clear h S1 hob' bt wc hkc hlen hk
  generalize (opv o).toArray = ov at hW1 ⊢
  go_enter Tryz.func7, Tryz.ntmps7
  go_wp2_with fail
  refine hL.mono ?_
  rintro e w2 ⟨rfl, S2⟩
  have hC := HR.out w2 S2
  clear hL S2 HR hob c0 hW1
  go_wp2_with fail
  refine hC.mono ?_
  rintro e w3 ⟨rfl, Y', S3, r3, n3, m3⟩
  have hN := next_c w0 w3 _ lb (refX X) S3
  have hM := rnext_c w0 w3 _ kb (refX X) Y' S3.swap r3 (by have := HLE.out; omega)
  have HF : Keep (∃ Y', Sep w0 w3 (lobA lb (refX X) :: rlobA kb Y' :: l) ∧ Rel (refX X) Y' ∧ Y'.S.length ≤ Y.S.length + 1 ∧ ∀ m, (∀ x ∈ Y.S, x.L.length ≤ m) → ∀ x ∈ Y'.S, x.L.length ≤ m + 1) := ⟨Y', S3, r3, n3, m3⟩
  clear hC S3 r3 n3 m3
  go_wp2_with fail
  refine hN.mono ?_
  rintro e w4 ⟨rfl, hw⟩
  subst hw
  clear hN
  go_wp2_with fail
  refine hM.mono ?_
  rintro e w5 ⟨rfl, hw⟩
  subst hw
  clear hM
  go_wp2_with fail
  go_ret
  exact ⟨by simp, HF.out⟩
set_option maxRecDepth 100000 in
set_option maxHeartbeats 16000000 in
theorem play_4 (w0 W : World) (l : List As) (lb kb : Nat) (X : Lb) (Y : Rl) (o : Opr) (hk : o.kd = 4) (h : Sep w0 W (lobA lb X :: rlobA kb Y :: l)) (bt : Bt X Y) (os : OpS o) (wc : Wc w0) :
    Calls Tryz.prog 7 #[pt lb, pt kb, .agg (opv o).toArray] W (PlQ w0 lb kb X Y (X) l) := by
  have S1 := h.newBox (opv o).toArray 40
  obtain ⟨W1, hW1⟩ : ∃ W1, W.alloc (.cells (opv o).toArray 40) = W1 := ⟨_, rfl⟩
  obtain ⟨ob, hob⟩ : ∃ ob, W.heap.size = ob := ⟨_, rfl⟩
  rw [hW1, hob] at S1
  change Sep w0 W1 (boxA ob (opv o) 40 :: lobA lb X :: rlobA kb Y :: l) at S1
  have hlen : Y.S.length ≤ 1000000 := by have := bt.len; omega
  have hob' := S1.boxGet k0m
  have hkc : ∀ W' l', Sep w0 W' l' → Na.Kc W' := fun W' l' hh => wc.n.kept hh.g
  have c0 : W1.cell? ⟨ob, 0, none⟩ = some (iv 4) := by rw [← hk]; exact hob'.cellv 0 _ rfl
  have HL : Keep (∀ W', Sep w0 W' (lobA lb (X) :: boxA ob (opv o) 40 :: rlobA kb Y :: l) → Calls Tryz.prog 31 #[pt lb, uv o.ses] W' fun e W'' => e = .returned (.bool (tokS X o.ses)) ∧ Sep w0 W'' (lobA lb (X) :: boxA ob (opv o) 40 :: rlobA kb Y :: l)) := ⟨fun W' hh => (tok_c w0 W' _ lb X o.ses hh bt.ok os.ok.ses).mono fun e W'' ⟨he, hw⟩ => ⟨he, by rw [hw]; exact hh⟩⟩
  have HR : Keep (∀ W', Sep w0 W' (lobA lb (X) :: boxA ob (opv o) 40 :: rlobA kb Y :: l) → Calls Tryz.prog 32 #[pt kb, uv o.ses] W' fun e W'' => e = .returned (.bool (tokS X o.ses)) ∧ ∃ Y', Sep w0 W'' (lobA lb (X) :: boxA ob (opv o) 40 :: rlobA kb Y' :: l) ∧ Rel (X) Y' ∧ Y'.S.length ≤ Y.S.length + 1 ∧ ∀ m, (∀ x ∈ Y.S, x.L.length ≤ m) → ∀ x ∈ Y'.S, x.L.length ≤ m + 1) := ⟨fun W' hh => (rtok_c w0 W' _ kb X Y o.ses hh.third bt.rel hlen bt.ok).mono fun e W'' ⟨he, hg⟩ => ⟨he, Y, hh.grown hg, bt.rel, by omega, mup fun m hm => hm⟩⟩
  have SD := S1.swap.grown (gr_drew W1 none)
  clear h S1 hob' bt os wc hkc hlen hk
  generalize tokS X o.ses = tv at HL HR
  obtain ⟨ov, hov⟩ : ∃ ov, (opv o).toArray = ov := ⟨_, rfl⟩
  rw [hov] at hW1 ⊢
  clear hov
  go_enter Tryz.func7, Tryz.ntmps7
  go_wp2_with fail
  refine wp_region_held_drew (S := fun w' => ∃ X1 Y1, Sep w0 w' (lobA lb (X1) :: boxA ob (opv o) 40 :: rlobA kb Y1 :: l)) (by kernel_rfl) ⟨_, _, SD⟩ (fun hHeld => ?_)
  generalize W1.drew = wA0 at SD hHeld ⊢
  have HSD := Keep.mk SD
  clear SD hW1 hob c0
  refine wpAnyH_take (i := 0) (oi := { dst := some 113, op := Op.move (Operand.tmp 0), type := 27, pos := "law.go:75", after := #[], guard := none }) (v := ?_) rfl (by kernel_rfl) (by kernel_rfl) (by kernel_rfl) (fun _ _ _ h => h) (Or.inl ⟨by rfl, ?_⟩) (by assumption) ?_
  rotate_left
  · (intro w hSw; go_simp; first | done | (with_reducible rfl))
  simp only [Act.put, List.setIfInBounds_toArray, List.set_cons_zero, List.set_cons_succ]
  refine wpAnyH_take (i := 1) (oi := { dst := some 114, op := Op.fieldAddr 40 (Operand.tmp 5) 6, type := 0, pos := "law.go:75", after := #[], guard := none }) (v := ?_) rfl (by kernel_rfl) (by kernel_rfl) (by kernel_rfl) (fun _ _ _ h => h) (Or.inl ⟨by rfl, ?_⟩) (by assumption) ?_
  rotate_left
  · (intro w hSw; go_simp; first | done | (with_reducible rfl))
  simp only [Act.put, List.setIfInBounds_toArray, List.set_cons_zero, List.set_cons_succ]
  refine wpAnyH_take (i := 2) (oi := { dst := some 115, op := Op.load 38 (Operand.tmp 114), type := 38, pos := "law.go:75", after := #[{ on := 1, ground := Ground.data }], guard := none }) (v := ?_) rfl (by kernel_rfl) (by kernel_rfl) (by kernel_rfl) (fun _ _ _ h => h) (Or.inl ⟨by rfl, ?_⟩) (by assumption) ?_
  rotate_left
  · (intro w hSw; obtain ⟨X1, Y1, hSw⟩ := hSw; have cj : w.cell? ⟨ob, 6, none⟩ = some (uv o.ses) := (hSw.boxGet k1m).cellv 6 _ rfl; go_simp; first | done | (with_reducible rfl))
  simp only [Act.put, List.setIfInBounds_toArray, List.set_cons_zero, List.set_cons_succ]
  refine wpAnyH_take (i := 4) (oi := { dst := some 117, op := Op.move (Operand.tmp 1), type := 29, pos := "law.go:75", after := #[], guard := none }) (v := ?_) rfl (by kernel_rfl) (by kernel_rfl) (by kernel_rfl) (fun _ _ _ h => h) (Or.inl ⟨by rfl, ?_⟩) (by assumption) ?_
  rotate_left
  · (intro w hSw; go_simp; first | done | (with_reducible rfl))
  simp only [Act.put, List.setIfInBounds_toArray, List.set_cons_zero, List.set_cons_succ]
  refine wpAnyH_take (i := 5) (oi := { dst := some 118, op := Op.fieldAddr 40 (Operand.tmp 5) 6, type := 0, pos := "law.go:75", after := #[], guard := none }) (v := ?_) rfl (by kernel_rfl) (by kernel_rfl) (by kernel_rfl) (fun _ _ _ h => h) (Or.inl ⟨by rfl, ?_⟩) (by assumption) ?_
  rotate_left
  · (intro w hSw; go_simp; first | done | (with_reducible rfl))
  simp only [Act.put, List.setIfInBounds_toArray, List.set_cons_zero, List.set_cons_succ]
  refine wpAnyH_take (i := 6) (oi := { dst := some 119, op := Op.load 38 (Operand.tmp 118), type := 38, pos := "law.go:75", after := #[{ on := 5, ground := Ground.data }], guard := none }) (v := ?_) rfl (by kernel_rfl) (by kernel_rfl) (by kernel_rfl) (fun _ _ _ h => h) (Or.inl ⟨by rfl, ?_⟩) (by assumption) ?_
  rotate_left
  · (intro w hSw; obtain ⟨X1, Y1, hSw⟩ := hSw; have cj : w.cell? ⟨ob, 6, none⟩ = some (uv o.ses) := (hSw.boxGet k1m).cellv 6 _ rfl; go_simp; first | done | (with_reducible rfl))
  simp only [Act.put, List.setIfInBounds_toArray, List.set_cons_zero, List.set_cons_succ]
  refine wpAnyH_ready (rs := [3]) (by kernel_rfl) (by simp) ?_
  refine AllReadyH.cons (o := { dst := some 116, op := Op.call { callee := Callee.value (Operand.func 31), args := #[Operand.tmp 113, Operand.tmp 115], argTypes := #[27, 38] }, type := 4, pos := "law.go:75", after := #[{ on := 0, ground := Ground.data }, { on := 2, ground := Ground.data }], guard := none }) rfl (fun K hK => ?_) AllReadyH.nil
  go_simp
  refine (HL.out _ HSD.out).mono ?_
  rintro e wB ⟨rfl, SB⟩
  have HSB := Keep.mk SB
  refine hK.out _ _ ⟨_, _, SB⟩ (fun hHeld => ?_)
  clear hK K SB HSD
  refine wpAnyH_ready (rs := [7]) (by kernel_rfl) (by simp) ?_
  refine AllReadyH.cons (o := { dst := some 120, op := Op.call { callee := Callee.value (Operand.func 32), args := #[Operand.tmp 117, Operand.tmp 119], argTypes := #[29, 38] }, type := 4, pos := "law.go:75", after := #[{ on := 4, ground := Ground.data }, { on := 6, ground := Ground.data }, { on := 3, ground := Ground.chain }], guard := none }) rfl (fun K hK => ?_) AllReadyH.nil
  go_simp
  refine (HR.out _ HSB.out).mono ?_
  rintro e wC ⟨rfl, Y', SC, hq⟩
  have HFC := Keep.mk (And.intro SC hq)
  refine hK.out _ _ ⟨_, _, SC⟩ (fun hHeld => ?_)
  clear hK K SC hq HSB
  refine wpAnyH_take (i := 8) (oi := { dst := some 121, op := Op.binOp BinOp.eql 4 (Operand.tmp 116) (Operand.tmp 120) 4, type := 4, pos := "law.go:75", after := #[{ on := 3, ground := Ground.data }, { on := 7, ground := Ground.data }], guard := none }) (v := ?_) rfl (by kernel_rfl) (by kernel_rfl) (by kernel_rfl) (fun _ _ _ h => h) (Or.inl ⟨by rfl, ?_⟩) (by assumption) ?_
  rotate_left
  · (intro w hSw; go_simp; first | done | (with_reducible rfl))
  simp only [Act.put, List.setIfInBounds_toArray, List.set_cons_zero, List.set_cons_succ]
  refine wpAnyH_take (i := 9) (oi := { dst := some 6, op := Op.assign (Operand.tmp 121), type := 4, pos := "law.go:75", after := #[{ on := 8, ground := Ground.data }, { on := 7, ground := Ground.chain }, { on := 0, ground := Ground.phase }, { on := 1, ground := Ground.phase }, { on := 2, ground := Ground.phase }, { on := 3, ground := Ground.phase }, { on := 4, ground := Ground.phase }, { on := 5, ground := Ground.phase }, { on := 6, ground := Ground.phase }, { on := 7, ground := Ground.phase }, { on := 8, ground := Ground.phase }], guard := none }) (v := ?_) rfl (by kernel_rfl) (by kernel_rfl) (by kernel_rfl) (fun _ _ _ h => h) (Or.inl ⟨by rfl, ?_⟩) (by assumption) ?_
  rotate_left
  · (intro w hSw; go_simp; first | done | (with_reducible rfl))
  simp only [Act.put, List.setIfInBounds_toArray, List.set_cons_zero, List.set_cons_succ]
  refine wpAnyH_done (by kernel_rfl) ?_ _
  have HF : Keep (∃ Y', Sep w0 wC (lobA lb (X) :: rlobA kb Y' :: l) ∧ Rel (X) Y' ∧ Y'.S.length ≤ Y.S.length + 1 ∧ ∀ m, (∀ x ∈ Y.S, x.L.length ≤ m) → ∀ x ∈ Y'.S, x.L.length ≤ m + 1) := ⟨Y', HFC.out.1.swap.tail, HFC.out.2⟩
  clear HFC hHeld HL HR
  go_wp2_with fail
  go_ret
  exact ⟨by simp, HF.out⟩
set_option maxRecDepth 100000 in
set_option maxHeartbeats 16000000 in
theorem play_3 (w0 W : World) (l : List As) (lb kb : Nat) (X : Lb) (Y : Rl) (o : Opr) (hk : o.kd = 3) (h : Sep w0 W (lobA lb X :: rlobA kb Y :: l)) (bt : Bt X Y) (os : OpS o) (wc : Wc w0) :
    Calls Tryz.prog 7 #[pt lb, pt kb, .agg (opv o).toArray] W (PlQ w0 lb kb X Y (X) l) := by
  have S1 := h.newBox (opv o).toArray 40
  obtain ⟨W1, hW1⟩ : ∃ W1, W.alloc (.cells (opv o).toArray 40) = W1 := ⟨_, rfl⟩
  obtain ⟨ob, hob⟩ : ∃ ob, W.heap.size = ob := ⟨_, rfl⟩
  rw [hW1, hob] at S1
  change Sep w0 W1 (boxA ob (opv o) 40 :: lobA lb X :: rlobA kb Y :: l) at S1
  have hlen : Y.S.length ≤ 1000000 := by have := bt.len; omega
  have hob' := S1.boxGet k0m
  have hkc : ∀ W' l', Sep w0 W' l' → Na.Kc W' := fun W' l' hh => wc.n.kept hh.g
  have c0 : W1.cell? ⟨ob, 0, none⟩ = some (iv 3) := by rw [← hk]; exact hob'.cellv 0 _ rfl
  have HL : Keep (∀ W', Sep w0 W' (lobA lb (X) :: boxA ob (opv o) 40 :: rlobA kb Y :: l) → Calls Tryz.prog 29 #[pt lb, uv o.ses, uv o.seq] W' fun e W'' => e = .returned (iv (chkS X o.ses o.seq)) ∧ Sep w0 W'' (lobA lb (X) :: boxA ob (opv o) 40 :: rlobA kb Y :: l)) := ⟨fun W' hh => (chk_c w0 W' _ lb X o.ses o.seq hh bt.ok os.ok.ses os.ok.seq).mono fun e W'' ⟨he, q⟩ => ⟨he, q⟩⟩
  have HR : Keep (∀ W', Sep w0 W' (lobA lb (X) :: boxA ob (opv o) 40 :: rlobA kb Y :: l) → Calls Tryz.prog 30 #[pt kb, uv o.ses, uv o.seq] W' fun e W'' => e = .returned (iv (chkS X o.ses o.seq)) ∧ ∃ Y', Sep w0 W'' (lobA lb (X) :: boxA ob (opv o) 40 :: rlobA kb Y' :: l) ∧ Rel (X) Y' ∧ Y'.S.length ≤ Y.S.length + 1 ∧ ∀ m, (∀ x ∈ Y.S, x.L.length ≤ m) → ∀ x ∈ Y'.S, x.L.length ≤ m + 1) := ⟨fun W' hh => (rchk_c w0 W' _ kb X Y o.ses o.seq hh.third bt.rel hlen bt.ok os.ok.seq).mono fun e W'' ⟨he, hw⟩ => ⟨he, Y, by rw [hw]; exact hh, bt.rel, by omega, mup fun m hm => hm⟩⟩
  have SD := S1.swap.grown (gr_drew W1 none)
  clear h S1 hob' bt os wc hkc hlen hk
  generalize chkS X o.ses o.seq = tv at HL HR
  obtain ⟨ov, hov⟩ : ∃ ov, (opv o).toArray = ov := ⟨_, rfl⟩
  rw [hov] at hW1 ⊢
  clear hov
  go_enter Tryz.func7, Tryz.ntmps7
  go_wp2_with fail
  refine wp_region_held_drew (S := fun w' => ∃ X1 Y1, Sep w0 w' (lobA lb (X1) :: boxA ob (opv o) 40 :: rlobA kb Y1 :: l)) (by kernel_rfl) ⟨_, _, SD⟩ (fun hHeld => ?_)
  generalize W1.drew = wA0 at SD hHeld ⊢
  have HSD := Keep.mk SD
  clear SD hW1 hob c0
  refine wpAnyH_take (i := 0) (oi := { dst := some 98, op := Op.move (Operand.tmp 0), type := 27, pos := "law.go:73", after := #[], guard := none }) (v := ?_) rfl (by kernel_rfl) (by kernel_rfl) (by kernel_rfl) (fun _ _ _ h => h) (Or.inl ⟨by rfl, ?_⟩) (by assumption) ?_
  rotate_left
  · (intro w hSw; go_simp; first | done | (with_reducible rfl))
  simp only [Act.put, List.setIfInBounds_toArray, List.set_cons_zero, List.set_cons_succ]
  refine wpAnyH_take (i := 1) (oi := { dst := some 99, op := Op.fieldAddr 40 (Operand.tmp 5) 6, type := 0, pos := "law.go:73", after := #[], guard := none }) (v := ?_) rfl (by kernel_rfl) (by kernel_rfl) (by kernel_rfl) (fun _ _ _ h => h) (Or.inl ⟨by rfl, ?_⟩) (by assumption) ?_
  rotate_left
  · (intro w hSw; go_simp; first | done | (with_reducible rfl))
  simp only [Act.put, List.setIfInBounds_toArray, List.set_cons_zero, List.set_cons_succ]
  refine wpAnyH_take (i := 2) (oi := { dst := some 100, op := Op.load 38 (Operand.tmp 99), type := 38, pos := "law.go:73", after := #[{ on := 1, ground := Ground.data }], guard := none }) (v := ?_) rfl (by kernel_rfl) (by kernel_rfl) (by kernel_rfl) (fun _ _ _ h => h) (Or.inl ⟨by rfl, ?_⟩) (by assumption) ?_
  rotate_left
  · (intro w hSw; obtain ⟨X1, Y1, hSw⟩ := hSw; have cj : w.cell? ⟨ob, 6, none⟩ = some (uv o.ses) := (hSw.boxGet k1m).cellv 6 _ rfl; go_simp; first | done | (with_reducible rfl))
  simp only [Act.put, List.setIfInBounds_toArray, List.set_cons_zero, List.set_cons_succ]
  refine wpAnyH_take (i := 3) (oi := { dst := some 101, op := Op.fieldAddr 40 (Operand.tmp 5) 7, type := 0, pos := "law.go:73", after := #[], guard := none }) (v := ?_) rfl (by kernel_rfl) (by kernel_rfl) (by kernel_rfl) (fun _ _ _ h => h) (Or.inl ⟨by rfl, ?_⟩) (by assumption) ?_
  rotate_left
  · (intro w hSw; go_simp; first | done | (with_reducible rfl))
  simp only [Act.put, List.setIfInBounds_toArray, List.set_cons_zero, List.set_cons_succ]
  refine wpAnyH_take (i := 4) (oi := { dst := some 102, op := Op.load 38 (Operand.tmp 101), type := 38, pos := "law.go:73", after := #[{ on := 3, ground := Ground.data }], guard := none }) (v := ?_) rfl (by kernel_rfl) (by kernel_rfl) (by kernel_rfl) (fun _ _ _ h => h) (Or.inl ⟨by rfl, ?_⟩) (by assumption) ?_
  rotate_left
  · (intro w hSw; obtain ⟨X1, Y1, hSw⟩ := hSw; have cj : w.cell? ⟨ob, 7, none⟩ = some (uv o.seq) := (hSw.boxGet k1m).cellv 7 _ rfl; go_simp; first | done | (with_reducible rfl))
  simp only [Act.put, List.setIfInBounds_toArray, List.set_cons_zero, List.set_cons_succ]
  refine wpAnyH_take (i := 6) (oi := { dst := some 104, op := Op.move (Operand.tmp 1), type := 29, pos := "law.go:73", after := #[], guard := none }) (v := ?_) rfl (by kernel_rfl) (by kernel_rfl) (by kernel_rfl) (fun _ _ _ h => h) (Or.inl ⟨by rfl, ?_⟩) (by assumption) ?_
  rotate_left
  · (intro w hSw; go_simp; first | done | (with_reducible rfl))
  simp only [Act.put, List.setIfInBounds_toArray, List.set_cons_zero, List.set_cons_succ]
  refine wpAnyH_take (i := 7) (oi := { dst := some 105, op := Op.fieldAddr 40 (Operand.tmp 5) 6, type := 0, pos := "law.go:73", after := #[], guard := none }) (v := ?_) rfl (by kernel_rfl) (by kernel_rfl) (by kernel_rfl) (fun _ _ _ h => h) (Or.inl ⟨by rfl, ?_⟩) (by assumption) ?_
  rotate_left
  · (intro w hSw; go_simp; first | done | (with_reducible rfl))
  simp only [Act.put, List.setIfInBounds_toArray, List.set_cons_zero, List.set_cons_succ]
  refine wpAnyH_take (i := 8) (oi := { dst := some 106, op := Op.load 38 (Operand.tmp 105), type := 38, pos := "law.go:73", after := #[{ on := 7, ground := Ground.data }], guard := none }) (v := ?_) rfl (by kernel_rfl) (by kernel_rfl) (by kernel_rfl) (fun _ _ _ h => h) (Or.inl ⟨by rfl, ?_⟩) (by assumption) ?_
  rotate_left
  · (intro w hSw; obtain ⟨X1, Y1, hSw⟩ := hSw; have cj : w.cell? ⟨ob, 6, none⟩ = some (uv o.ses) := (hSw.boxGet k1m).cellv 6 _ rfl; go_simp; first | done | (with_reducible rfl))
  simp only [Act.put, List.setIfInBounds_toArray, List.set_cons_zero, List.set_cons_succ]
  refine wpAnyH_take (i := 9) (oi := { dst := some 107, op := Op.fieldAddr 40 (Operand.tmp 5) 7, type := 0, pos := "law.go:73", after := #[], guard := none }) (v := ?_) rfl (by kernel_rfl) (by kernel_rfl) (by kernel_rfl) (fun _ _ _ h => h) (Or.inl ⟨by rfl, ?_⟩) (by assumption) ?_
  rotate_left
  · (intro w hSw; go_simp; first | done | (with_reducible rfl))
  simp only [Act.put, List.setIfInBounds_toArray, List.set_cons_zero, List.set_cons_succ]
  refine wpAnyH_take (i := 10) (oi := { dst := some 108, op := Op.load 38 (Operand.tmp 107), type := 38, pos := "law.go:73", after := #[{ on := 9, ground := Ground.data }], guard := none }) (v := ?_) rfl (by kernel_rfl) (by kernel_rfl) (by kernel_rfl) (fun _ _ _ h => h) (Or.inl ⟨by rfl, ?_⟩) (by assumption) ?_
  rotate_left
  · (intro w hSw; obtain ⟨X1, Y1, hSw⟩ := hSw; have cj : w.cell? ⟨ob, 7, none⟩ = some (uv o.seq) := (hSw.boxGet k1m).cellv 7 _ rfl; go_simp; first | done | (with_reducible rfl))
  simp only [Act.put, List.setIfInBounds_toArray, List.set_cons_zero, List.set_cons_succ]
  refine wpAnyH_ready (rs := [5]) (by kernel_rfl) (by simp) ?_
  refine AllReadyH.cons (o := { dst := some 103, op := Op.call { callee := Callee.value (Operand.func 29), args := #[Operand.tmp 98, Operand.tmp 100, Operand.tmp 102], argTypes := #[27, 38, 38] }, type := 32, pos := "law.go:73", after := #[{ on := 0, ground := Ground.data }, { on := 2, ground := Ground.data }, { on := 4, ground := Ground.data }], guard := none }) rfl (fun K hK => ?_) AllReadyH.nil
  go_simp
  refine (HL.out _ HSD.out).mono ?_
  rintro e wB ⟨rfl, SB⟩
  have HSB := Keep.mk SB
  refine hK.out _ _ ⟨_, _, SB⟩ (fun hHeld => ?_)
  clear hK K SB HSD
  refine wpAnyH_ready (rs := [11]) (by kernel_rfl) (by simp) ?_
  refine AllReadyH.cons (o := { dst := some 109, op := Op.call { callee := Callee.value (Operand.func 30), args := #[Operand.tmp 104, Operand.tmp 106, Operand.tmp 108], argTypes := #[29, 38, 38] }, type := 32, pos := "law.go:73", after := #[{ on := 6, ground := Ground.data }, { on := 8, ground := Ground.data }, { on := 10, ground := Ground.data }, { on := 5, ground := Ground.chain }], guard := none }) rfl (fun K hK => ?_) AllReadyH.nil
  go_simp
  refine (HR.out _ HSB.out).mono ?_
  rintro e wC ⟨rfl, Y', SC, hq⟩
  have HFC := Keep.mk (And.intro SC hq)
  refine hK.out _ _ ⟨_, _, SC⟩ (fun hHeld => ?_)
  clear hK K SC hq HSB
  refine wpAnyH_take (i := 12) (oi := { dst := some 110, op := Op.binOp BinOp.eql 32 (Operand.tmp 103) (Operand.tmp 109) 32, type := 4, pos := "law.go:73", after := #[{ on := 5, ground := Ground.data }, { on := 11, ground := Ground.data }], guard := none }) (v := ?_) rfl (by kernel_rfl) (by kernel_rfl) (by kernel_rfl) (fun _ _ _ h => h) (Or.inl ⟨by rfl, ?_⟩) (by assumption) ?_
  rotate_left
  · (intro w hSw; go_simp; first | done | (with_reducible rfl))
  simp only [Act.put, List.setIfInBounds_toArray, List.set_cons_zero, List.set_cons_succ]
  refine wpAnyH_take (i := 13) (oi := { dst := some 6, op := Op.assign (Operand.tmp 110), type := 4, pos := "law.go:73", after := #[{ on := 12, ground := Ground.data }, { on := 11, ground := Ground.chain }, { on := 0, ground := Ground.phase }, { on := 1, ground := Ground.phase }, { on := 2, ground := Ground.phase }, { on := 3, ground := Ground.phase }, { on := 4, ground := Ground.phase }, { on := 5, ground := Ground.phase }, { on := 6, ground := Ground.phase }, { on := 7, ground := Ground.phase }, { on := 8, ground := Ground.phase }, { on := 9, ground := Ground.phase }, { on := 10, ground := Ground.phase }, { on := 11, ground := Ground.phase }, { on := 12, ground := Ground.phase }], guard := none }) (v := ?_) rfl (by kernel_rfl) (by kernel_rfl) (by kernel_rfl) (fun _ _ _ h => h) (Or.inl ⟨by rfl, ?_⟩) (by assumption) ?_
  rotate_left
  · (intro w hSw; go_simp; first | done | (with_reducible rfl))
  simp only [Act.put, List.setIfInBounds_toArray, List.set_cons_zero, List.set_cons_succ]
  refine wpAnyH_done (by kernel_rfl) ?_ _
  have HF : Keep (∃ Y', Sep w0 wC (lobA lb (X) :: rlobA kb Y' :: l) ∧ Rel (X) Y' ∧ Y'.S.length ≤ Y.S.length + 1 ∧ ∀ m, (∀ x ∈ Y.S, x.L.length ≤ m) → ∀ x ∈ Y'.S, x.L.length ≤ m + 1) := ⟨Y', HFC.out.1.swap.tail, HFC.out.2⟩
  clear HFC hHeld HL HR
  go_wp2_with fail
  go_ret
  exact ⟨by simp, HF.out⟩
set_option maxRecDepth 100000 in
set_option maxHeartbeats 16000000 in
theorem play_2 (w0 W : World) (l : List As) (lb kb : Nat) (X : Lb) (Y : Rl) (o : Opr) (hk : o.kd = 2) (h : Sep w0 W (lobA lb X :: rlobA kb Y :: l)) (bt : Bt X Y) (os : OpS o) (wc : Wc w0) :
    Calls Tryz.prog 7 #[pt lb, pt kb, .agg (opv o).toArray] W (PlQ w0 lb kb X Y (acpX X o.ses o.seq o.yes o.tick) l) := by
  have S1 := h.newBox (opv o).toArray 40
  obtain ⟨W1, hW1⟩ : ∃ W1, W.alloc (.cells (opv o).toArray 40) = W1 := ⟨_, rfl⟩
  obtain ⟨ob, hob⟩ : ∃ ob, W.heap.size = ob := ⟨_, rfl⟩
  rw [hW1, hob] at S1
  change Sep w0 W1 (boxA ob (opv o) 40 :: lobA lb X :: rlobA kb Y :: l) at S1
  have hlen : Y.S.length ≤ 1000000 := by have := bt.len; omega
  have hob' := S1.boxGet k0m
  have hkc : ∀ W' l', Sep w0 W' l' → Na.Kc W' := fun W' l' hh => wc.n.kept hh.g
  have c0 : W1.cell? ⟨ob, 0, none⟩ = some (iv 2) := by rw [← hk]; exact hob'.cellv 0 _ rfl
  have HL : Keep (∀ W', Sep w0 W' (lobA lb (X) :: boxA ob (opv o) 40 :: rlobA kb Y :: l) → Calls Tryz.prog 19 #[pt lb, uv o.ses, uv o.seq, .bool o.yes, uv o.tick] W' fun e W'' => e = .returned (iv (acpS X o.ses o.seq o.yes)) ∧ Sep w0 W'' (lobA lb (acpX X o.ses o.seq o.yes o.tick) :: boxA ob (opv o) 40 :: rlobA kb Y :: l)) := ⟨fun W' hh => (acp_c w0 W' _ lb X o.ses o.seq o.tick o.yes hh bt.ok os.ok.ses os.ok.seq).mono fun e W'' ⟨he, q⟩ => ⟨he, q⟩⟩
  have HR : Keep (∀ W', Sep w0 W' (lobA lb (acpX X o.ses o.seq o.yes o.tick) :: boxA ob (opv o) 40 :: rlobA kb Y :: l) → Calls Tryz.prog 28 #[pt kb, uv o.ses, uv o.seq, .bool o.yes, uv o.tick] W' fun e W'' => e = .returned (iv (acpS X o.ses o.seq o.yes)) ∧ ∃ Y', Sep w0 W'' (lobA lb (acpX X o.ses o.seq o.yes o.tick) :: boxA ob (opv o) 40 :: rlobA kb Y' :: l) ∧ Rel (acpX X o.ses o.seq o.yes o.tick) Y' ∧ Y'.S.length ≤ Y.S.length + 1 ∧ ∀ m, (∀ x ∈ Y.S, x.L.length ≤ m) → ∀ x ∈ Y'.S, x.L.length ≤ m + 1) := ⟨fun W' hh => (racp_c w0 W' _ kb X Y o.ses o.seq o.tick o.yes hh.third bt.rel hlen bt.ok bt.mks os.ok.seq).mono fun e W'' ⟨he, Y', q1, q2, q3, q4⟩ => ⟨he, Y', rot3 q1, q2, by omega, q4⟩⟩
  have SD := S1.swap.grown (gr_drew W1 none)
  clear h S1 hob' bt os wc hkc hlen hk
  generalize acpS X o.ses o.seq o.yes = tv at HL HR
  obtain ⟨ov, hov⟩ : ∃ ov, (opv o).toArray = ov := ⟨_, rfl⟩
  rw [hov] at hW1 ⊢
  clear hov
  go_enter Tryz.func7, Tryz.ntmps7
  go_wp2_with fail
  refine wp_region_held_drew (S := fun w' => ∃ X1 Y1, Sep w0 w' (lobA lb (X1) :: boxA ob (opv o) 40 :: rlobA kb Y1 :: l)) (by kernel_rfl) ⟨_, _, SD⟩ (fun hHeld => ?_)
  generalize W1.drew = wA0 at SD hHeld ⊢
  have HSD := Keep.mk SD
  clear SD hW1 hob c0
  refine wpAnyH_take (i := 0) (oi := { dst := some 75, op := Op.move (Operand.tmp 0), type := 27, pos := "law.go:71", after := #[], guard := none }) (v := ?_) rfl (by kernel_rfl) (by kernel_rfl) (by kernel_rfl) (fun _ _ _ h => h) (Or.inl ⟨by rfl, ?_⟩) (by assumption) ?_
  rotate_left
  · (intro w hSw; go_simp; first | done | (with_reducible rfl))
  simp only [Act.put, List.setIfInBounds_toArray, List.set_cons_zero, List.set_cons_succ]
  refine wpAnyH_take (i := 1) (oi := { dst := some 76, op := Op.fieldAddr 40 (Operand.tmp 5) 6, type := 0, pos := "law.go:71", after := #[], guard := none }) (v := ?_) rfl (by kernel_rfl) (by kernel_rfl) (by kernel_rfl) (fun _ _ _ h => h) (Or.inl ⟨by rfl, ?_⟩) (by assumption) ?_
  rotate_left
  · (intro w hSw; go_simp; first | done | (with_reducible rfl))
  simp only [Act.put, List.setIfInBounds_toArray, List.set_cons_zero, List.set_cons_succ]
  refine wpAnyH_take (i := 2) (oi := { dst := some 77, op := Op.load 38 (Operand.tmp 76), type := 38, pos := "law.go:71", after := #[{ on := 1, ground := Ground.data }], guard := none }) (v := ?_) rfl (by kernel_rfl) (by kernel_rfl) (by kernel_rfl) (fun _ _ _ h => h) (Or.inl ⟨by rfl, ?_⟩) (by assumption) ?_
  rotate_left
  · (intro w hSw; obtain ⟨X1, Y1, hSw⟩ := hSw; have cj : w.cell? ⟨ob, 6, none⟩ = some (uv o.ses) := (hSw.boxGet k1m).cellv 6 _ rfl; go_simp; first | done | (with_reducible rfl))
  simp only [Act.put, List.setIfInBounds_toArray, List.set_cons_zero, List.set_cons_succ]
  refine wpAnyH_take (i := 3) (oi := { dst := some 78, op := Op.fieldAddr 40 (Operand.tmp 5) 7, type := 0, pos := "law.go:71", after := #[], guard := none }) (v := ?_) rfl (by kernel_rfl) (by kernel_rfl) (by kernel_rfl) (fun _ _ _ h => h) (Or.inl ⟨by rfl, ?_⟩) (by assumption) ?_
  rotate_left
  · (intro w hSw; go_simp; first | done | (with_reducible rfl))
  simp only [Act.put, List.setIfInBounds_toArray, List.set_cons_zero, List.set_cons_succ]
  refine wpAnyH_take (i := 4) (oi := { dst := some 79, op := Op.load 38 (Operand.tmp 78), type := 38, pos := "law.go:71", after := #[{ on := 3, ground := Ground.data }], guard := none }) (v := ?_) rfl (by kernel_rfl) (by kernel_rfl) (by kernel_rfl) (fun _ _ _ h => h) (Or.inl ⟨by rfl, ?_⟩) (by assumption) ?_
  rotate_left
  · (intro w hSw; obtain ⟨X1, Y1, hSw⟩ := hSw; have cj : w.cell? ⟨ob, 7, none⟩ = some (uv o.seq) := (hSw.boxGet k1m).cellv 7 _ rfl; go_simp; first | done | (with_reducible rfl))
  simp only [Act.put, List.setIfInBounds_toArray, List.set_cons_zero, List.set_cons_succ]
  refine wpAnyH_take (i := 5) (oi := { dst := some 80, op := Op.fieldAddr 40 (Operand.tmp 5) 9, type := 0, pos := "law.go:71", after := #[], guard := none }) (v := ?_) rfl (by kernel_rfl) (by kernel_rfl) (by kernel_rfl) (fun _ _ _ h => h) (Or.inl ⟨by rfl, ?_⟩) (by assumption) ?_
  rotate_left
  · (intro w hSw; go_simp; first | done | (with_reducible rfl))
  simp only [Act.put, List.setIfInBounds_toArray, List.set_cons_zero, List.set_cons_succ]
  refine wpAnyH_take (i := 6) (oi := { dst := some 81, op := Op.load 4 (Operand.tmp 80), type := 4, pos := "law.go:71", after := #[{ on := 5, ground := Ground.data }], guard := none }) (v := ?_) rfl (by kernel_rfl) (by kernel_rfl) (by kernel_rfl) (fun _ _ _ h => h) (Or.inl ⟨by rfl, ?_⟩) (by assumption) ?_
  rotate_left
  · (intro w hSw; obtain ⟨X1, Y1, hSw⟩ := hSw; have cj : w.cell? ⟨ob, 9, none⟩ = some (.bool o.yes) := (hSw.boxGet k1m).cellv 9 _ rfl; go_simp; first | done | (with_reducible rfl))
  simp only [Act.put, List.setIfInBounds_toArray, List.set_cons_zero, List.set_cons_succ]
  refine wpAnyH_take (i := 7) (oi := { dst := some 82, op := Op.fieldAddr 40 (Operand.tmp 5) 8, type := 0, pos := "law.go:71", after := #[], guard := none }) (v := ?_) rfl (by kernel_rfl) (by kernel_rfl) (by kernel_rfl) (fun _ _ _ h => h) (Or.inl ⟨by rfl, ?_⟩) (by assumption) ?_
  rotate_left
  · (intro w hSw; go_simp; first | done | (with_reducible rfl))
  simp only [Act.put, List.setIfInBounds_toArray, List.set_cons_zero, List.set_cons_succ]
  refine wpAnyH_take (i := 8) (oi := { dst := some 83, op := Op.load 38 (Operand.tmp 82), type := 38, pos := "law.go:71", after := #[{ on := 7, ground := Ground.data }], guard := none }) (v := ?_) rfl (by kernel_rfl) (by kernel_rfl) (by kernel_rfl) (fun _ _ _ h => h) (Or.inl ⟨by rfl, ?_⟩) (by assumption) ?_
  rotate_left
  · (intro w hSw; obtain ⟨X1, Y1, hSw⟩ := hSw; have cj : w.cell? ⟨ob, 8, none⟩ = some (uv o.tick) := (hSw.boxGet k1m).cellv 8 _ rfl; go_simp; first | done | (with_reducible rfl))
  simp only [Act.put, List.setIfInBounds_toArray, List.set_cons_zero, List.set_cons_succ]
  refine wpAnyH_take (i := 10) (oi := { dst := some 85, op := Op.move (Operand.tmp 1), type := 29, pos := "law.go:71", after := #[], guard := none }) (v := ?_) rfl (by kernel_rfl) (by kernel_rfl) (by kernel_rfl) (fun _ _ _ h => h) (Or.inl ⟨by rfl, ?_⟩) (by assumption) ?_
  rotate_left
  · (intro w hSw; go_simp; first | done | (with_reducible rfl))
  simp only [Act.put, List.setIfInBounds_toArray, List.set_cons_zero, List.set_cons_succ]
  refine wpAnyH_take (i := 11) (oi := { dst := some 86, op := Op.fieldAddr 40 (Operand.tmp 5) 6, type := 0, pos := "law.go:71", after := #[], guard := none }) (v := ?_) rfl (by kernel_rfl) (by kernel_rfl) (by kernel_rfl) (fun _ _ _ h => h) (Or.inl ⟨by rfl, ?_⟩) (by assumption) ?_
  rotate_left
  · (intro w hSw; go_simp; first | done | (with_reducible rfl))
  simp only [Act.put, List.setIfInBounds_toArray, List.set_cons_zero, List.set_cons_succ]
  refine wpAnyH_take (i := 12) (oi := { dst := some 87, op := Op.load 38 (Operand.tmp 86), type := 38, pos := "law.go:71", after := #[{ on := 11, ground := Ground.data }], guard := none }) (v := ?_) rfl (by kernel_rfl) (by kernel_rfl) (by kernel_rfl) (fun _ _ _ h => h) (Or.inl ⟨by rfl, ?_⟩) (by assumption) ?_
  rotate_left
  · (intro w hSw; obtain ⟨X1, Y1, hSw⟩ := hSw; have cj : w.cell? ⟨ob, 6, none⟩ = some (uv o.ses) := (hSw.boxGet k1m).cellv 6 _ rfl; go_simp; first | done | (with_reducible rfl))
  simp only [Act.put, List.setIfInBounds_toArray, List.set_cons_zero, List.set_cons_succ]
  refine wpAnyH_take (i := 13) (oi := { dst := some 88, op := Op.fieldAddr 40 (Operand.tmp 5) 7, type := 0, pos := "law.go:71", after := #[], guard := none }) (v := ?_) rfl (by kernel_rfl) (by kernel_rfl) (by kernel_rfl) (fun _ _ _ h => h) (Or.inl ⟨by rfl, ?_⟩) (by assumption) ?_
  rotate_left
  · (intro w hSw; go_simp; first | done | (with_reducible rfl))
  simp only [Act.put, List.setIfInBounds_toArray, List.set_cons_zero, List.set_cons_succ]
  refine wpAnyH_take (i := 14) (oi := { dst := some 89, op := Op.load 38 (Operand.tmp 88), type := 38, pos := "law.go:71", after := #[{ on := 13, ground := Ground.data }], guard := none }) (v := ?_) rfl (by kernel_rfl) (by kernel_rfl) (by kernel_rfl) (fun _ _ _ h => h) (Or.inl ⟨by rfl, ?_⟩) (by assumption) ?_
  rotate_left
  · (intro w hSw; obtain ⟨X1, Y1, hSw⟩ := hSw; have cj : w.cell? ⟨ob, 7, none⟩ = some (uv o.seq) := (hSw.boxGet k1m).cellv 7 _ rfl; go_simp; first | done | (with_reducible rfl))
  simp only [Act.put, List.setIfInBounds_toArray, List.set_cons_zero, List.set_cons_succ]
  refine wpAnyH_take (i := 15) (oi := { dst := some 90, op := Op.fieldAddr 40 (Operand.tmp 5) 9, type := 0, pos := "law.go:71", after := #[], guard := none }) (v := ?_) rfl (by kernel_rfl) (by kernel_rfl) (by kernel_rfl) (fun _ _ _ h => h) (Or.inl ⟨by rfl, ?_⟩) (by assumption) ?_
  rotate_left
  · (intro w hSw; go_simp; first | done | (with_reducible rfl))
  simp only [Act.put, List.setIfInBounds_toArray, List.set_cons_zero, List.set_cons_succ]
  refine wpAnyH_take (i := 16) (oi := { dst := some 91, op := Op.load 4 (Operand.tmp 90), type := 4, pos := "law.go:71", after := #[{ on := 15, ground := Ground.data }], guard := none }) (v := ?_) rfl (by kernel_rfl) (by kernel_rfl) (by kernel_rfl) (fun _ _ _ h => h) (Or.inl ⟨by rfl, ?_⟩) (by assumption) ?_
  rotate_left
  · (intro w hSw; obtain ⟨X1, Y1, hSw⟩ := hSw; have cj : w.cell? ⟨ob, 9, none⟩ = some (.bool o.yes) := (hSw.boxGet k1m).cellv 9 _ rfl; go_simp; first | done | (with_reducible rfl))
  simp only [Act.put, List.setIfInBounds_toArray, List.set_cons_zero, List.set_cons_succ]
  refine wpAnyH_take (i := 17) (oi := { dst := some 92, op := Op.fieldAddr 40 (Operand.tmp 5) 8, type := 0, pos := "law.go:71", after := #[], guard := none }) (v := ?_) rfl (by kernel_rfl) (by kernel_rfl) (by kernel_rfl) (fun _ _ _ h => h) (Or.inl ⟨by rfl, ?_⟩) (by assumption) ?_
  rotate_left
  · (intro w hSw; go_simp; first | done | (with_reducible rfl))
  simp only [Act.put, List.setIfInBounds_toArray, List.set_cons_zero, List.set_cons_succ]
  refine wpAnyH_take (i := 18) (oi := { dst := some 93, op := Op.load 38 (Operand.tmp 92), type := 38, pos := "law.go:71", after := #[{ on := 17, ground := Ground.data }], guard := none }) (v := ?_) rfl (by kernel_rfl) (by kernel_rfl) (by kernel_rfl) (fun _ _ _ h => h) (Or.inl ⟨by rfl, ?_⟩) (by assumption) ?_
  rotate_left
  · (intro w hSw; obtain ⟨X1, Y1, hSw⟩ := hSw; have cj : w.cell? ⟨ob, 8, none⟩ = some (uv o.tick) := (hSw.boxGet k1m).cellv 8 _ rfl; go_simp; first | done | (with_reducible rfl))
  simp only [Act.put, List.setIfInBounds_toArray, List.set_cons_zero, List.set_cons_succ]
  refine wpAnyH_ready (rs := [9]) (by kernel_rfl) (by simp) ?_
  refine AllReadyH.cons (o := { dst := some 84, op := Op.call { callee := Callee.value (Operand.func 19), args := #[Operand.tmp 75, Operand.tmp 77, Operand.tmp 79, Operand.tmp 81, Operand.tmp 83], argTypes := #[27, 38, 38, 4, 38] }, type := 32, pos := "law.go:71", after := #[{ on := 0, ground := Ground.data }, { on := 2, ground := Ground.data }, { on := 4, ground := Ground.data }, { on := 6, ground := Ground.data }, { on := 8, ground := Ground.data }], guard := none }) rfl (fun K hK => ?_) AllReadyH.nil
  go_simp
  refine (HL.out _ HSD.out).mono ?_
  rintro e wB ⟨rfl, SB⟩
  have HSB := Keep.mk SB
  refine hK.out _ _ ⟨_, _, SB⟩ (fun hHeld => ?_)
  clear hK K SB HSD
  refine wpAnyH_ready (rs := [19]) (by kernel_rfl) (by simp) ?_
  refine AllReadyH.cons (o := { dst := some 94, op := Op.call { callee := Callee.value (Operand.func 28), args := #[Operand.tmp 85, Operand.tmp 87, Operand.tmp 89, Operand.tmp 91, Operand.tmp 93], argTypes := #[29, 38, 38, 4, 38] }, type := 32, pos := "law.go:71", after := #[{ on := 10, ground := Ground.data }, { on := 12, ground := Ground.data }, { on := 14, ground := Ground.data }, { on := 16, ground := Ground.data }, { on := 18, ground := Ground.data }, { on := 9, ground := Ground.chain }], guard := none }) rfl (fun K hK => ?_) AllReadyH.nil
  go_simp
  refine (HR.out _ HSB.out).mono ?_
  rintro e wC ⟨rfl, Y', SC, hq⟩
  have HFC := Keep.mk (And.intro SC hq)
  refine hK.out _ _ ⟨_, _, SC⟩ (fun hHeld => ?_)
  clear hK K SC hq HSB
  refine wpAnyH_take (i := 20) (oi := { dst := some 95, op := Op.binOp BinOp.eql 32 (Operand.tmp 84) (Operand.tmp 94) 32, type := 4, pos := "law.go:71", after := #[{ on := 9, ground := Ground.data }, { on := 19, ground := Ground.data }], guard := none }) (v := ?_) rfl (by kernel_rfl) (by kernel_rfl) (by kernel_rfl) (fun _ _ _ h => h) (Or.inl ⟨by rfl, ?_⟩) (by assumption) ?_
  rotate_left
  · (intro w hSw; go_simp; first | done | (with_reducible rfl))
  simp only [Act.put, List.setIfInBounds_toArray, List.set_cons_zero, List.set_cons_succ]
  refine wpAnyH_take (i := 21) (oi := { dst := some 6, op := Op.assign (Operand.tmp 95), type := 4, pos := "law.go:71", after := #[{ on := 20, ground := Ground.data }, { on := 19, ground := Ground.chain }, { on := 0, ground := Ground.phase }, { on := 1, ground := Ground.phase }, { on := 2, ground := Ground.phase }, { on := 3, ground := Ground.phase }, { on := 4, ground := Ground.phase }, { on := 5, ground := Ground.phase }, { on := 6, ground := Ground.phase }, { on := 7, ground := Ground.phase }, { on := 8, ground := Ground.phase }, { on := 9, ground := Ground.phase }, { on := 10, ground := Ground.phase }, { on := 11, ground := Ground.phase }, { on := 12, ground := Ground.phase }, { on := 13, ground := Ground.phase }, { on := 14, ground := Ground.phase }, { on := 15, ground := Ground.phase }, { on := 16, ground := Ground.phase }, { on := 17, ground := Ground.phase }, { on := 18, ground := Ground.phase }, { on := 19, ground := Ground.phase }, { on := 20, ground := Ground.phase }], guard := none }) (v := ?_) rfl (by kernel_rfl) (by kernel_rfl) (by kernel_rfl) (fun _ _ _ h => h) (Or.inl ⟨by rfl, ?_⟩) (by assumption) ?_
  rotate_left
  · (intro w hSw; go_simp; first | done | (with_reducible rfl))
  simp only [Act.put, List.setIfInBounds_toArray, List.set_cons_zero, List.set_cons_succ]
  refine wpAnyH_done (by kernel_rfl) ?_ _
  have HF : Keep (∃ Y', Sep w0 wC (lobA lb (acpX X o.ses o.seq o.yes o.tick) :: rlobA kb Y' :: l) ∧ Rel (acpX X o.ses o.seq o.yes o.tick) Y' ∧ Y'.S.length ≤ Y.S.length + 1 ∧ ∀ m, (∀ x ∈ Y.S, x.L.length ≤ m) → ∀ x ∈ Y'.S, x.L.length ≤ m + 1) := ⟨Y', HFC.out.1.swap.tail, HFC.out.2⟩
  clear HFC hHeld HL HR
  go_wp2_with fail
  go_ret
  exact ⟨by simp, HF.out⟩
end Go.Proofs.YtplcicbpkbamnabGreatDoor.Lo

