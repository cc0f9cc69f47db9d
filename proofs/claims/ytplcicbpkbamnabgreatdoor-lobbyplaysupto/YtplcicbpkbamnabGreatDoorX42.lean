import Derived.Test.YtplcicbpkbamnabGreatDoorX39
/- LobbyPlays: plays, call by call: those that tell of a session -/
namespace Go.Proofs.YtplcicbpkbamnabGreatDoor.Lo
open Go Go.RowKit Go.Maps

theorem drop4 {w0 W : World} {a b c d : As} {l : List As} (h : Sep w0 W (a :: b :: c :: d :: l)) : Sep w0 W (b :: c :: a :: l) := by
  have h1 : Sep w0 W (d :: a :: b :: c :: l) := h.perm (List.perm_middle (l₁ := [a, b, c]))
  exact h1.tail.third.third
theorem z7_lv : z7 = lvc ⟨0, 0, ⟨#[]⟩, ⟨#[]⟩, 0, 0, 0, 0, [], 0, 0, 0⟩ := rfl
theorem joi_form (X : Lb) (a b c d : ByteArray) (t : Nat) : ∃ s, ((joiS X a b c d t).map lvc).getD z7 = lvc s := by
  cases joiS X a b c d t with
  | none => exact ⟨_, z7_lv⟩
  | some s => exact ⟨s, rfl⟩
theorem lev_form (X : Lb) (k : Nat) : ∃ s, (levS X k).1 = lvc s := by
  unfold levS
  cases fds X k with
  | none => exact ⟨_, z7_lv⟩
  | some s => exact ⟨s, rfl⟩
theorem fnd_form (X : Lb) (k : Nat) (f : ByteArray) : ∃ s, (fndS X k f).1 = lvc s := by
  unfold fndS
  cases fds X k with
  | none => exact ⟨_, z7_lv⟩
  | some s =>
    by_cases h : s.fr = f
    · exact ⟨s, by simp [h]⟩
    · exact ⟨_, by simp [h]; exact z7_lv⟩
set_option maxRecDepth 100000 in
set_option maxHeartbeats 16000000 in
theorem play_9 (w0 W : World) (l : List As) (lb kb : Nat) (X : Lb) (Y : Rl) (o : Opr) (hk : o.kd = 9) (h : Sep w0 W (lobA lb X :: rlobA kb Y :: l)) (bt : Bt X Y) (os : OpS o) (wc : Wc w0) :
    Calls Tryz.prog 7 #[pt lb, pt kb, .agg (opv o).toArray] W (PlQ w0 lb kb X Y (X) l) := by
  have S1 := h.newBox (opv o).toArray 40
  obtain ⟨W1, hW1⟩ : ∃ W1, W.alloc (.cells (opv o).toArray 40) = W1 := ⟨_, rfl⟩
  obtain ⟨ob, hob⟩ : ∃ ob, W.heap.size = ob := ⟨_, rfl⟩
  rw [hW1, hob] at S1
  change Sep w0 W1 (boxA ob (opv o) 40 :: lobA lb X :: rlobA kb Y :: l) at S1
  have hlen : Y.S.length ≤ 1000000 := by have := bt.len; omega
  have hob' := S1.boxGet k0m
  have hkc : ∀ W' l', Sep w0 W' l' → Na.Kc W' := fun W' l' hh => wc.n.kept hh.g
  have c6 : W1.cell? ⟨ob, 6, none⟩ = some (uv o.ses) := hob'.cellv 6 _ rfl
  have c2 : W1.cell? ⟨ob, 2, none⟩ = some (.string o.a) := hob'.cellv 2 _ rfl
  have c0 : W1.cell? ⟨ob, 0, none⟩ = some (iv 9) := by rw [← hk]; exact hob'.cellv 0 _ rfl
  obtain ⟨du, hdu, hdr⟩ := under42
  have hL := fnd_c w0 W1 _ lb X o.ses o.a S1.swap bt.ok os.ok.ses
  have HR : Keep (∀ W' b1 lv, Sep w0 W' (boxA b1 lv 49 :: lobA lb (X) :: boxA ob (opv o) 40 :: rlobA kb Y :: l) → (W'.cell? ⟨ob, 6, none⟩ = some (uv o.ses) ∧ W'.cell? ⟨ob, 2, none⟩ = some (.string o.a)) ∧ Calls Tryz.prog 41 #[pt kb, uv o.ses, .string o.a] W' fun e W'' => e = .returned (.tuple #[.agg ((fndS X o.ses o.a).1).toArray, iv ((fndS X o.ses o.a).2)]) ∧ ∃ Y', Sep w0 W'' (boxA b1 lv 49 :: lobA lb (X) :: rlobA kb Y' :: l) ∧ Rel (X) Y' ∧ Y'.S.length ≤ Y.S.length + 1 ∧ ∀ m, (∀ x ∈ Y.S, x.L.length ≤ m) → ∀ x ∈ Y'.S, x.L.length ≤ m + 1) := ⟨fun W' b1 lv hh => ⟨⟨(hh.boxGet k2m).cellv 6 _ rfl, (hh.boxGet k2m).cellv 2 _ rfl⟩, by
    have hh4 : Sep w0 W' (rlobA kb Y :: boxA b1 lv 49 :: lobA lb (X) :: boxA ob (opv o) 40 :: l) := hh.perm (List.perm_middle (l₁ := [boxA b1 lv 49, lobA lb (X), boxA ob (opv o) 40]))
    refine (rfnd_c w0 W' _ kb X Y o.ses o.a hh4 bt.rel hlen).mono fun e W'' ⟨he, q1⟩ => ⟨he, Y, drop4 q1, bt.rel, by omega, mup fun m hm => hm⟩⟩⟩
  obtain ⟨s, hs⟩ := fnd_form X o.ses o.a
  obtain ⟨lv, hlv⟩ : ∃ lv, lvc s = lv := ⟨_, rfl⟩
  have hE : ∀ w : World, (Op.equalIn 10000 49 (.agg lv.toArray) (.agg lv.toArray)).run Tryz.prog w = .ok true w := fun w => by rw [← hlv]; exact (eq_lv s s w).trans (by rw [sme_refl])
  have HL7 : Keep (lv.length = 7) := ⟨by rw [← hlv]; rfl⟩
  have HL1 : Keep (∀ v ∈ lv, v.oneCell' = true) := ⟨by rw [← hlv]; exact lvc_one s⟩
  rw [hs, hlv] at hL
  have HR2 := HR.out
  rw [hs, hlv] at HR2
  have HR3 := Keep.mk HR2
  clear h S1 hob' bt os wc hkc hlen hk HR HR2 hs hlv
  generalize (opv o).toArray = ov at hW1 ⊢
  generalize (fndS X o.ses o.a).2 = ce at hL HR3
  go_enter Tryz.func7, Tryz.ntmps7
  go_wp2_with fail
  refine hL.mono ?_
  rintro e w2 ⟨rfl, S2⟩
  have HS2 := Keep.mk S2
  clear hL S2 hob c0 hW1 c6 c2
  go_wp2_with (first
    | (show wpList _ _ _ ({ dst := _, op := Op.store 49 _ _, type := _, pos := _, after := _, guard := _ } :: _) _ _
       refine store_new _ lv 49 rfl rfl rfl rfl (by rw [HL7.out]; rfl) (by rw [HL7.out]; exact info42) HL1.out ?_))
  intro w6 hS6 g6
  have S6 := hS6 _ _ HS2.out
  obtain ⟨b1, hb1⟩ : ∃ b1, w2.heap.size = b1 := ⟨_, rfl⟩
  rw [hb1] at S6 ⊢
  obtain ⟨⟨d6, d2⟩, hC⟩ := HR3.out w6 b1 lv S6
  clear hS6 g6 S6 HS2 HR3 hb1
  go_wp2_with fail
  refine hC.mono ?_
  rintro e w7 ⟨rfl, Y', S7, hq⟩
  have HS7 := Keep.mk S7
  have HQ := Keep.mk hq
  clear hC S7 hq d6 d2
  go_wp2_with (first
    | (show wpList _ _ _ ({ dst := _, op := Op.store 49 _ _, type := _, pos := _, after := _, guard := _ } :: _) _ _
       refine store_new _ lv 49 rfl rfl rfl rfl (by rw [HL7.out]; rfl) (by rw [HL7.out]; exact info42) HL1.out ?_))
  intro w8 hS8 g8
  have S8 := hS8 _ _ HS7.out
  obtain ⟨b2, hb2⟩ : ∃ b2, w7.heap.size = b2 := ⟨_, rfl⟩
  rw [hb2] at S8 ⊢
  have R2 := Keep.mk (S8.boxGet k0m).range
  have R1 := Keep.mk (S8.boxGet k1m).range
  have HF : Keep (∃ Y', Sep w0 w8 (lobA lb (X) :: rlobA kb Y' :: l) ∧ Rel (X) Y' ∧ Y'.S.length ≤ Y.S.length + 1 ∧ ∀ m, (∀ x ∈ Y.S, x.L.length ≤ m) → ∀ x ∈ Y'.S, x.L.length ≤ m + 1) := ⟨Y', S8.tail.tail, HQ.out⟩
  clear hS8 g8 S8 HS7 hb2 HQ
  go_wp2_with (first
    | (show wpList _ _ _ ({ dst := _, op := Op.load 49 (.tmp 19), type := _, pos := _, after := _, guard := _ } :: _) _ _
       refine wpList_load_mid rfl 49 _ rfl _ _ rfl _ _ R1.out hdu hdr (by rw [HL7.out]; exact info42) ?_)
    | (show wpList _ _ _ ({ dst := _, op := Op.load 49 (.tmp 21), type := _, pos := _, after := _, guard := _ } :: _) _ _
       refine wpList_load_mid rfl 49 _ rfl _ _ rfl _ _ R2.out hdu hdr (by rw [HL7.out]; exact info42) ?_))
  go_ret
  exact ⟨by simp, HF.out⟩
set_option maxRecDepth 100000 in
set_option maxHeartbeats 16000000 in
theorem play_5 (w0 W : World) (l : List As) (lb kb : Nat) (X : Lb) (Y : Rl) (o : Opr) (hk : o.kd = 5) (h : Sep w0 W (lobA lb X :: rlobA kb Y :: l)) (bt : Bt X Y) (os : OpS o) (wc : Wc w0) :
    Calls Tryz.prog 7 #[pt lb, pt kb, .agg (opv o).toArray] W (PlQ w0 lb kb X Y (levX X o.ses) l) := by
  have S1 := h.newBox (opv o).toArray 40
  obtain ⟨W1, hW1⟩ : ∃ W1, W.alloc (.cells (opv o).toArray 40) = W1 := ⟨_, rfl⟩
  obtain ⟨ob, hob⟩ : ∃ ob, W.heap.size = ob := ⟨_, rfl⟩
  rw [hW1, hob] at S1
  change Sep w0 W1 (boxA ob (opv o) 40 :: lobA lb X :: rlobA kb Y :: l) at S1
  have hlen : Y.S.length ≤ 1000000 := by have := bt.len; omega
  have hob' := S1.boxGet k0m
  have hkc : ∀ W' l', Sep w0 W' l' → Na.Kc W' := fun W' l' hh => wc.n.kept hh.g
  have c6 : W1.cell? ⟨ob, 6, none⟩ = some (uv o.ses) := hob'.cellv 6 _ rfl
  have c0 : W1.cell? ⟨ob, 0, none⟩ = some (iv 5) := by rw [← hk]; exact hob'.cellv 0 _ rfl
  obtain ⟨du, hdu, hdr⟩ := under42
  have hL := leave_c w0 W1 _ lb X o.ses S1.swap bt.ok os.ok.ses
  have HR : Keep (∀ W' b1 lv, Sep w0 W' (boxA b1 lv 49 :: lobA lb (levX X o.ses) :: boxA ob (opv o) 40 :: rlobA kb Y :: l) → (W'.cell? ⟨ob, 6, none⟩ = some (uv o.ses)) ∧ Calls Tryz.prog 34 #[pt kb, uv o.ses] W' fun e W'' => e = .returned (.tuple #[.agg ((levS X o.ses).1).toArray, iv ((levS X o.ses).2)]) ∧ ∃ Y', Sep w0 W'' (boxA b1 lv 49 :: lobA lb (levX X o.ses) :: rlobA kb Y' :: l) ∧ Rel (levX X o.ses) Y' ∧ Y'.S.length ≤ Y.S.length + 1 ∧ ∀ m, (∀ x ∈ Y.S, x.L.length ≤ m) → ∀ x ∈ Y'.S, x.L.length ≤ m + 1) := ⟨fun W' b1 lv hh => ⟨(hh.boxGet k2m).cellv 6 _ rfl, by
    have hh4 : Sep w0 W' (rlobA kb Y :: boxA b1 lv 49 :: lobA lb (levX X o.ses) :: boxA ob (opv o) 40 :: l) := hh.perm (List.perm_middle (l₁ := [boxA b1 lv 49, lobA lb (levX X o.ses), boxA ob (opv o) 40]))
    refine (rlev_c w0 W' _ kb X Y o.ses hh4 bt.rel hlen).mono fun e W'' ⟨he, Y', q1, q2, q3, q4⟩ => ⟨he, Y', drop4 q1, q2, by omega, mup q4⟩⟩⟩
  obtain ⟨s, hs⟩ := lev_form X o.ses
  obtain ⟨lv, hlv⟩ : ∃ lv, lvc s = lv := ⟨_, rfl⟩
  have hE : ∀ w : World, (Op.equalIn 10000 49 (.agg lv.toArray) (.agg lv.toArray)).run Tryz.prog w = .ok true w := fun w => by rw [← hlv]; exact (eq_lv s s w).trans (by rw [sme_refl])
  have HL7 : Keep (lv.length = 7) := ⟨by rw [← hlv]; rfl⟩
  have HL1 : Keep (∀ v ∈ lv, v.oneCell' = true) := ⟨by rw [← hlv]; exact lvc_one s⟩
  rw [hs, hlv] at hL
  have HR2 := HR.out
  rw [hs, hlv] at HR2
  have HR3 := Keep.mk HR2
  clear h S1 hob' bt os wc hkc hlen hk HR HR2 hs hlv
  generalize (opv o).toArray = ov at hW1 ⊢
  generalize (levS X o.ses).2 = ce at hL HR3
  go_enter Tryz.func7, Tryz.ntmps7
  go_wp2_with fail
  refine hL.mono ?_
  rintro e w2 ⟨rfl, S2⟩
  have HS2 := Keep.mk S2
  clear hL S2 hob c0 hW1 c6
  go_wp2_with (first
    | (show wpList _ _ _ ({ dst := _, op := Op.store 49 _ _, type := _, pos := _, after := _, guard := _ } :: _) _ _
       refine store_new _ lv 49 rfl rfl rfl rfl (by rw [HL7.out]; rfl) (by rw [HL7.out]; exact info42) HL1.out ?_))
  intro w6 hS6 g6
  have S6 := hS6 _ _ HS2.out
  obtain ⟨b1, hb1⟩ : ∃ b1, w2.heap.size = b1 := ⟨_, rfl⟩
  rw [hb1] at S6 ⊢
  obtain ⟨d6, hC⟩ := HR3.out w6 b1 lv S6
  clear hS6 g6 S6 HS2 HR3 hb1
  go_wp2_with fail
  refine hC.mono ?_
  rintro e w7 ⟨rfl, Y', S7, hq⟩
  have HS7 := Keep.mk S7
  have HQ := Keep.mk hq
  clear hC S7 hq d6
  go_wp2_with (first
    | (show wpList _ _ _ ({ dst := _, op := Op.store 49 _ _, type := _, pos := _, after := _, guard := _ } :: _) _ _
       refine store_new _ lv 49 rfl rfl rfl rfl (by rw [HL7.out]; rfl) (by rw [HL7.out]; exact info42) HL1.out ?_))
  intro w8 hS8 g8
  have S8 := hS8 _ _ HS7.out
  obtain ⟨b2, hb2⟩ : ∃ b2, w7.heap.size = b2 := ⟨_, rfl⟩
  rw [hb2] at S8 ⊢
  have R2 := Keep.mk (S8.boxGet k0m).range
  have R1 := Keep.mk (S8.boxGet k1m).range
  have HF : Keep (∃ Y', Sep w0 w8 (lobA lb (levX X o.ses) :: rlobA kb Y' :: l) ∧ Rel (levX X o.ses) Y' ∧ Y'.S.length ≤ Y.S.length + 1 ∧ ∀ m, (∀ x ∈ Y.S, x.L.length ≤ m) → ∀ x ∈ Y'.S, x.L.length ≤ m + 1) := ⟨Y', S8.tail.tail, HQ.out⟩
  clear hS8 g8 S8 HS7 hb2 HQ
  go_wp2_with (first
    | (show wpList _ _ _ ({ dst := _, op := Op.load 49 (.tmp 11), type := _, pos := _, after := _, guard := _ } :: _) _ _
       refine wpList_load_mid rfl 49 _ rfl _ _ rfl _ _ R1.out hdu hdr (by rw [HL7.out]; exact info42) ?_)
    | (show wpList _ _ _ ({ dst := _, op := Op.load 49 (.tmp 13), type := _, pos := _, after := _, guard := _ } :: _) _ _
       refine wpList_load_mid rfl 49 _ rfl _ _ rfl _ _ R2.out hdu hdr (by rw [HL7.out]; exact info42) ?_))
  go_ret
  exact ⟨by simp, HF.out⟩
set_option maxRecDepth 100000 in
set_option maxHeartbeats 16000000 in
theorem play_1 (w0 W : World) (l : List As) (lb kb : Nat) (X : Lb) (Y : Rl) (o : Opr) (hk : o.kd = 1) (h : Sep w0 W (lobA lb X :: rlobA kb Y :: l)) (bt : Bt X Y) (os : OpS o) (wc : Wc w0) :
    Calls Tryz.prog 7 #[pt lb, pt kb, .agg (opv o).toArray] W (PlQ w0 lb kb X Y (joiX X o.a o.b o.c o.nm o.tick) l) := by
  have S1 := h.newBox (opv o).toArray 40
  obtain ⟨W1, hW1⟩ : ∃ W1, W.alloc (.cells (opv o).toArray 40) = W1 := ⟨_, rfl⟩
  obtain ⟨ob, hob⟩ : ∃ ob, W.heap.size = ob := ⟨_, rfl⟩
  rw [hW1, hob] at S1
  change Sep w0 W1 (boxA ob (opv o) 40 :: lobA lb X :: rlobA kb Y :: l) at S1
  have hlen : Y.S.length ≤ 1000000 := by have := bt.len; omega
  have hob' := S1.boxGet k0m
  have hkc : ∀ W' l', Sep w0 W' l' → Na.Kc W' := fun W' l' hh => wc.n.kept hh.g
  have c2 : W1.cell? ⟨ob, 2, none⟩ = some (.string o.a) := hob'.cellv 2 _ rfl
  have c3 : W1.cell? ⟨ob, 3, none⟩ = some (.string o.b) := hob'.cellv 3 _ rfl
  have c4 : W1.cell? ⟨ob, 4, none⟩ = some (.string o.c) := hob'.cellv 4 _ rfl
  have c5 : W1.cell? ⟨ob, 5, none⟩ = some (.string o.nm) := hob'.cellv 5 _ rfl
  have c8 : W1.cell? ⟨ob, 8, none⟩ = some (uv o.tick) := hob'.cellv 8 _ rfl
  have c0 : W1.cell? ⟨ob, 0, none⟩ = some (iv 1) := by rw [← hk]; exact hob'.cellv 0 _ rfl
  obtain ⟨du, hdu, hdr⟩ := under42
  have hL := join_c w0 W1 _ lb X o.a o.b o.c o.nm o.tick S1.swap bt.ok (hkc _ _ S1) wc.k os.ok.nm os.ok.b os.ok.c os.ok.a (by have := bt.rel.next; have := bt.len; omega)
  have HR : Keep (∀ W' b1 lv, Sep w0 W' (boxA b1 lv 49 :: lobA lb (joiX X o.a o.b o.c o.nm o.tick) :: boxA ob (opv o) 40 :: rlobA kb Y :: l) → (W'.cell? ⟨ob, 2, none⟩ = some (.string o.a) ∧ W'.cell? ⟨ob, 3, none⟩ = some (.string o.b) ∧ W'.cell? ⟨ob, 4, none⟩ = some (.string o.c) ∧ W'.cell? ⟨ob, 5, none⟩ = some (.string o.nm) ∧ W'.cell? ⟨ob, 8, none⟩ = some (uv o.tick)) ∧ Calls Tryz.prog 27 #[pt kb, .string o.a, .string o.b, .string o.c, .string o.nm, uv o.tick] W' fun e W'' => e = .returned (.tuple #[.agg (((joiS X o.a o.b o.c o.nm o.tick).map lvc).getD z7).toArray, iv (joiC X o.nm)]) ∧ ∃ Y', Sep w0 W'' (boxA b1 lv 49 :: lobA lb (joiX X o.a o.b o.c o.nm o.tick) :: rlobA kb Y' :: l) ∧ Rel (joiX X o.a o.b o.c o.nm o.tick) Y' ∧ Y'.S.length ≤ Y.S.length + 1 ∧ ∀ m, (∀ x ∈ Y.S, x.L.length ≤ m) → ∀ x ∈ Y'.S, x.L.length ≤ m + 1) := ⟨fun W' b1 lv hh => ⟨⟨(hh.boxGet k2m).cellv 2 _ rfl, (hh.boxGet k2m).cellv 3 _ rfl, (hh.boxGet k2m).cellv 4 _ rfl, (hh.boxGet k2m).cellv 5 _ rfl, (hh.boxGet k2m).cellv 8 _ rfl⟩, by
    have hh4 : Sep w0 W' (rlobA kb Y :: boxA b1 lv 49 :: lobA lb (joiX X o.a o.b o.c o.nm o.tick) :: boxA ob (opv o) 40 :: l) := hh.perm (List.perm_middle (l₁ := [boxA b1 lv 49, lobA lb (joiX X o.a o.b o.c o.nm o.tick), boxA ob (opv o) 40]))
    refine (rjoi_c w0 W' _ kb X Y o.a o.b o.c o.nm o.tick hh4 bt.rel (by have := bt.len; omega) bt.ok os.nm bt.nm wc.r wc.h os.b os.c).mono fun e W'' ⟨he, Y', q1, q2, q3, q4⟩ => ⟨he, Y', drop4 q1, q2, q3, mup q4⟩⟩⟩
  obtain ⟨s, hs⟩ := joi_form X o.a o.b o.c o.nm o.tick
  obtain ⟨lv, hlv⟩ : ∃ lv, lvc s = lv := ⟨_, rfl⟩
  have hE : ∀ w : World, (Op.equalIn 10000 49 (.agg lv.toArray) (.agg lv.toArray)).run Tryz.prog w = .ok true w := fun w => by rw [← hlv]; exact (eq_lv s s w).trans (by rw [sme_refl])
  have HL7 : Keep (lv.length = 7) := ⟨by rw [← hlv]; rfl⟩
  have HL1 : Keep (∀ v ∈ lv, v.oneCell' = true) := ⟨by rw [← hlv]; exact lvc_one s⟩
  rw [hs, hlv] at hL
  have HR2 := HR.out
  rw [hs, hlv] at HR2
  have HR3 := Keep.mk HR2
  clear h S1 hob' bt os wc hkc hlen hk HR HR2 hs hlv
  generalize (opv o).toArray = ov at hW1 ⊢
  generalize joiC X o.nm = ce at hL HR3
  go_enter Tryz.func7, Tryz.ntmps7
  go_wp2_with fail
  refine hL.mono ?_
  rintro e w2 ⟨rfl, S2⟩
  have HS2 := Keep.mk S2
  clear hL S2 hob c0 hW1 c2 c3 c4 c5 c8
  go_wp2_with (first
    | (show wpList _ _ _ ({ dst := _, op := Op.store 49 _ _, type := _, pos := _, after := _, guard := _ } :: _) _ _
       refine store_new _ lv 49 rfl rfl rfl rfl (by rw [HL7.out]; rfl) (by rw [HL7.out]; exact info42) HL1.out ?_))
  intro w6 hS6 g6
  have S6 := hS6 _ _ HS2.out
  obtain ⟨b1, hb1⟩ : ∃ b1, w2.heap.size = b1 := ⟨_, rfl⟩
  rw [hb1] at S6 ⊢
  obtain ⟨⟨d2, d3, d4, d5, d8⟩, hC⟩ := HR3.out w6 b1 lv S6
  clear hS6 g6 S6 HS2 HR3 hb1
  go_wp2_with fail
  refine hC.mono ?_
  rintro e w7 ⟨rfl, Y', S7, hq⟩
  have HS7 := Keep.mk S7
  have HQ := Keep.mk hq
  clear hC S7 hq d2 d3 d4 d5 d8
  go_wp2_with (first
    | (show wpList _ _ _ ({ dst := _, op := Op.store 49 _ _, type := _, pos := _, after := _, guard := _ } :: _) _ _
       refine store_new _ lv 49 rfl rfl rfl rfl (by rw [HL7.out]; rfl) (by rw [HL7.out]; exact info42) HL1.out ?_))
  intro w8 hS8 g8
  have S8 := hS8 _ _ HS7.out
  obtain ⟨b2, hb2⟩ : ∃ b2, w7.heap.size = b2 := ⟨_, rfl⟩
  rw [hb2] at S8 ⊢
  have R2 := Keep.mk (S8.boxGet k0m).range
  have R1 := Keep.mk (S8.boxGet k1m).range
  have HF : Keep (∃ Y', Sep w0 w8 (lobA lb (joiX X o.a o.b o.c o.nm o.tick) :: rlobA kb Y' :: l) ∧ Rel (joiX X o.a o.b o.c o.nm o.tick) Y' ∧ Y'.S.length ≤ Y.S.length + 1 ∧ ∀ m, (∀ x ∈ Y.S, x.L.length ≤ m) → ∀ x ∈ Y'.S, x.L.length ≤ m + 1) := ⟨Y', S8.tail.tail, HQ.out⟩
  clear hS8 g8 S8 HS7 hb2 HQ
  go_wp2_with (first
    | (show wpList _ _ _ ({ dst := _, op := Op.load 49 (.tmp 7), type := _, pos := _, after := _, guard := _ } :: _) _ _
       refine wpList_load_mid rfl 49 _ rfl _ _ rfl _ _ R1.out hdu hdr (by rw [HL7.out]; exact info42) ?_)
    | (show wpList _ _ _ ({ dst := _, op := Op.load 49 (.tmp 9), type := _, pos := _, after := _, guard := _ } :: _) _ _
       refine wpList_load_mid rfl 49 _ rfl _ _ rfl _ _ R2.out hdu hdr (by rw [HL7.out]; exact info42) ?_))
  go_ret
  exact ⟨by simp, HF.out⟩
end Go.Proofs.YtplcicbpkbamnabGreatDoor.Lo

