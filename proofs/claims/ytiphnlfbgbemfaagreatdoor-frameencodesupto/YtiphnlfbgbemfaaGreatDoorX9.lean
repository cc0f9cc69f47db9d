import Derived.Test.YtiphnlfbgbemfaaGreatDoorX8
/- the laws' alive -/
namespace Go.Proofs.YtiphnlfbgbemfaaGreatDoor.Pk
open Go Go.RowKit

def S0 : ByteArray := ba S0L
def T0 : ByteArray := ba (h0L ++ mK)
def H0 : ByteArray := ba h0L
def Z7 : ByteArray := ba (List.replicate 7 0)
def T32 : ByteArray := ba (List.replicate 32 116)
theorem hmacB_mk (k t : ByteArray) : hmacB k t = ba (Mac.hmac (sl k) (sl t)) := rfl
set_option maxRecDepth 100000 in
theorem dec0 : (dec (h0L ++ mK)).2 = 0 := by kernel_rfl
set_option maxRecDepth 100000 in
theorem seq0 : (dec (h0L ++ mK)).1.seq = 2 := by kernel_rfl
set_option maxRecDepth 100000 in
theorem bodyT0 : bodyL (h0L ++ mK) = h0L := by kernel_rfl
theorem bodyBb : bodyB (ba (h0L ++ List.replicate 32 0)) = H0 := by
  rw [bodyB, show sl (ba (h0L ++ List.replicate 32 0)) = h0L ++ List.replicate 32 0 from sl_mk _, bodyb0]; rfl
theorem bodyBT : bodyB T0 = H0 := by rw [bodyB, T0, show sl (ba (h0L ++ mK)) = h0L ++ mK from sl_mk _, bodyT0]; rfl
theorem bodyBS : bodyB S0 = H0 := by rw [bodyB, S0, show sl (ba S0L) = S0L from sl_mk _, body0]; rfl
theorem slx (s : ByteArray) (m : Nat) : sl (s.extract m s.size) = (sl s).drop m := sl_extract s m
theorem mK_eq : H0 ++ hmacB kB H0 = T0 := by
  apply sl_inj
  have e : sl (hmacB kB H0) = mK := hmacB_sl kB H0
  rw [sl_app, e, show sl H0 = h0L from sl_mk _, show sl T0 = h0L ++ mK from sl_mk _]
theorem seal0 : sealD d0 kB = (T0, 0) := by
  have e : enc d0.bare = (h0L ++ List.replicate 32 0, 0) := encb0
  rw [sealD, if_pos (by decide), e, if_pos rfl]
  dsimp only
  rw [bodyBb, mK_eq]
theorem ext0 : T0.extract H0.size T0.size = ba mK := by
  apply sl_inj
  rw [slx, show sl T0 = h0L ++ mK from sl_mk _, show H0.size = h0L.length from ba_size _, List.drop_left]
  exact (sl_mk _).symm
theorem extS : S0.extract H0.size S0.size = ba (List.replicate 32 116) := by
  apply sl_inj
  rw [slx, show sl S0 = h0L ++ List.replicate 32 116 from sl_mk _, show H0.size = h0L.length from ba_size _, List.drop_left]
  exact (sl_mk _).symm
theorem ba_inj {a b : List UInt8} (h : ba a = ba b) : a = b := by
  have := congrArg sl h
  rw [show sl (ba a) = a from sl_mk _, show sl (ba b) = b from sl_mk _] at this
  exact this
theorem h0_ne : H0 ≠ nob := fun e => by
  have := ba_inj (b := []) e
  cases this
theorem sk0 : sealed T0 kB = true := by
  unfold sealed
  rw [bodyBT, ext0]
  exact decide_eq_true ⟨h0_ne, rfl⟩
theorem sl0 : sealed T0 lB = false := by
  unfold sealed
  rw [bodyBT, ext0]
  refine decide_eq_false (fun h => ?_)
  have e : mK = mL := ba_inj h.2
  have := mKL
  rw [e] at this
  simp at this
theorem ss0 : sealed S0 kB = false := by
  unfold sealed
  rw [bodyBS, extS]
  refine decide_eq_false (fun h => ?_)
  have e : List.replicate 32 116 = mK := ba_inj h.2
  have := mKT
  rw [← e] at this
  simp at this
theorem d0_fine : d0.fine := ⟨by decide, by decide, by decide, by decide, by decide, by decide, by decide⟩
theorem d0_small : d0.small := ⟨by decide, by decide, by decide, by decide, by decide, by decide⟩
set_option maxHeartbeats 16000000 in
set_option maxRecDepth 100000 in
theorem alive_c (w : World) (hk : Kc w) :
    Calls Tryz.prog 9 #[] w fun e w' => e = .returned (.bool true) ∧ w.grownBy w' none := by
  obtain ⟨du, hdu, hdr⟩ := under26
  have HK := Keep.mk hk
  have HD : Keep (d0.fine ∧ d0.small) := ⟨d0_fine, d0_small⟩
  obtain ⟨S, hS⟩ : ∃ S, S0 = S := ⟨_, rfl⟩
  obtain ⟨T, hT⟩ : ∃ T, T32 = T := ⟨_, rfl⟩
  obtain ⟨U, hU⟩ : ∃ U, T0 = U := ⟨_, rfl⟩
  obtain ⟨H, hH⟩ : ∃ H, H0 = H := ⟨_, rfl⟩
  obtain ⟨Z, hZ⟩ : ∃ Z, Z7 = Z := ⟨_, rfl⟩
  obtain ⟨dT, hdT⟩ : ∃ x, (dec (h0L ++ mK)).1 = x := ⟨_, rfl⟩
  obtain ⟨D0, hD0⟩ : ∃ x, d0.cells = x := ⟨_, rfl⟩
  have HT : Keep (∀ W, Calls Tryz.prog 15 #[.int .u8 116, .int .i64 32] W fun e w' => e = .returned (.string T) ∧ W.grownBy w' none) := ⟨fun W => by rw [← hT]; exact times_c 116 116 rfl 32 (by decide) W⟩
  have HZ : Keep (∀ W, Calls Tryz.prog 15 #[.int .u8 0, .int .i64 7] W fun e w' => e = .returned (.string Z) ∧ W.grownBy w' none) := ⟨fun W => by rw [← hZ]; exact times_c 0 0 rfl 7 (by decide) W⟩
  have HE : Keep (∀ W, Calls Tryz.prog 12 #[.agg D0.toArray] W fun e w' => e = .returned (.tuple #[.string S, .int .i64 0]) ∧ W.grownBy w' none) := ⟨fun W => by rw [← hS, ← hD0]; have := encode_c d0 HD.out.1 HD.out.2 W; rw [enc0] at this; exact this⟩
  have HSE : Keep (∀ W, Kc W → Calls Tryz.prog 10 #[.agg D0.toArray, .string { data := #[107] }] W fun e w' => e = .returned (.tuple #[.string U, .int .i64 0]) ∧ W.grownBy w' none) := ⟨fun W hk => by rw [← hU, ← hD0]; have := seal_c d0 kB HD.out.1 HD.out.2 W hk (by decide); rw [seal0] at this; exact this⟩
  have hTs : sl T0 = h0L ++ mK := sl_mk _
  have hsz : T0.size = 55 := by rw [← sl_len, hTs, List.length_append, mKl]; rfl
  have HDE : Keep (∀ W, Calls Tryz.prog 11 #[.string U] W fun e w' => e = .returned (.tuple #[.agg dT.cells.toArray, .int .i64 0]) ∧ W.grownBy w' none) := ⟨fun W => by rw [← hU, ← hdT]; have := decode_c T0 W (by rw [hsz]; decide); rw [hTs, dec0] at this; exact this⟩
  have HBO : Keep (∀ W, Calls Tryz.prog 14 #[.string S] W fun e w' => e = .returned (.string H) ∧ W.grownBy w' none) := ⟨fun W => by rw [← hS, ← hH]; have := body_c S0 W (by decide); rw [bodyBS] at this; exact this⟩
  have HSK : Keep (∀ W, Kc W → Calls Tryz.prog 18 #[.string U, .string { data := #[107] }] W fun e w' => e = .returned (.bool true) ∧ W.grownBy w' none) := ⟨fun W hk => by rw [← hU]; have := sealed_c T0 kB W hk (by rw [hsz]; decide) (by decide); rw [sk0] at this; exact this⟩
  have HSL : Keep (∀ W, Kc W → Calls Tryz.prog 18 #[.string U, .string { data := #[108] }] W fun e w' => e = .returned (.bool false) ∧ W.grownBy w' none) := ⟨fun W hk => by rw [← hU]; have := sealed_c T0 lB W hk (by rw [hsz]; decide) (by decide); rw [sl0] at this; exact this⟩
  have HSS : Keep (∀ W, Kc W → Calls Tryz.prog 18 #[.string S, .string { data := #[107] }] W fun e w' => e = .returned (.bool false) ∧ W.grownBy w' none) := ⟨fun W hk => by rw [← hS]; have := sealed_c S0 kB W hk (by decide) (by decide); rw [ss0] at this; exact this⟩
  obtain ⟨A1, hA1⟩ : ∃ x, ({ data := #[74, 48, 49, 5] } : ByteArray) ++ Z = x := ⟨_, rfl⟩
  obtain ⟨A2, hA2⟩ : ∃ x, A1 ++ ({ data := #[1] } : ByteArray) = x := ⟨_, rfl⟩
  obtain ⟨A3, hA3⟩ : ∃ x, A2 ++ Z = x := ⟨_, rfl⟩
  obtain ⟨A4, hA4⟩ : ∃ x, A3 ++ ({ data := #[2, 255, 5, 1] } : ByteArray) = x := ⟨_, rfl⟩
  obtain ⟨A5, hA5⟩ : ∃ x, A4 ++ T = x := ⟨_, rfl⟩
  have zZ : Z.size = 7 := by rw [← hZ]; exact ba_size _
  have zT : T.size = 32 := by rw [← hT]; exact ba_size _
  have s1 : A1.size = 11 := by rw [← hA1, ByteArray.size_append, zZ]; rfl
  have s2 : A2.size = 12 := by rw [← hA2, ByteArray.size_append, s1]; rfl
  have s3 : A3.size = 19 := by rw [← hA3, ByteArray.size_append, s2, zZ]
  have s4 : A4.size = 23 := by rw [← hA4, ByteArray.size_append, s3]; rfl
  have b1 : ∀ W, (Op.stringOp .add { data := #[74, 48, 49, 5] } Z).run Tryz.prog W = .ok (.string A1) W := fun W => by rw [← hA1]; exact addS _ _ (by rw [zZ]; decide) W
  have b2 : ∀ W, (Op.stringOp .add A1 { data := #[1] }).run Tryz.prog W = .ok (.string A2) W := fun W => by rw [← hA2]; exact addS _ _ (by rw [s1]; decide) W
  have b3 : ∀ W, (Op.stringOp .add A2 Z).run Tryz.prog W = .ok (.string A3) W := fun W => by rw [← hA3]; exact addS _ _ (by rw [s2, zZ]; decide) W
  have b4 : ∀ W, (Op.stringOp .add A3 { data := #[2, 255, 5, 1] }).run Tryz.prog W = .ok (.string A4) W := fun W => by rw [← hA4]; exact addS _ _ (by rw [s3]; decide) W
  have b5 : ∀ W, (Op.stringOp .add A4 T).run Tryz.prog W = .ok (.string A5) W := fun W => by rw [← hA5]; exact addS _ _ (by rw [s4, zT]; decide) W
  have hEq : (S.toList == A5.toList) = true := by
    rw [eqS]
    refine decide_eq_true ?_
    apply sl_inj
    rw [← hA5, ← hA4, ← hA3, ← hA2, ← hA1, ← hS, ← hZ, ← hT]
    simp only [sl_app]
    rfl
  have hlen : S.size = 55 := by rw [← hS]; exact ba_size _
  have hext : S.extract 0 23 = H := by
    rw [ext_to, ← hS, ← hH, show sl S0 = S0L from sl_mk _]; rfl
  have hHH : (H.toList == H.toList) = true := by simp
  have HTL : Keep ((Tryz.prog.info? 26).map (·.size) = some dT.cells.toArray.size ∧ dT.cells.toArray.all (·.oneCell') = true ∧ dT.cells[8]? = some (.int .u64 2) ∧ dT.cells.length = 15) := ⟨info26, by simp [Dg.cells, Value.oneCell'], by rw [← hdT]; show some (Value.int .u64 ((dec (h0L ++ mK)).1.seq : Nat)) = _; rw [seq0]; rfl, rfl⟩
  have HD0 : Keep (D0.length = 15) := ⟨by rw [← hD0]; rfl⟩
  have hcells : ∀ W : World, W.alloc (.cells #[.int .i64 5, .string { data := #[] }, .int .u64 0, .string { data := #[] }, .string { data := #[] }, .int .u64 1, .int .i64 0, .string { data := #[] }, .int .u64 2, .int .i64 (-1), .int .i64 5, .bool true, .bool false, .string { data := #[] }, .string T] 26) = W.alloc (.cells D0.toArray 26) := fun W => by rw [← hD0, ← hT]; rfl
  have HC := Keep.mk hcells
  clear hk hS hU hH hZ hTs hsz hA1 hA2 hA3 hA4 hA5 zZ zT s1 s2 s3 s4 hcells hT hD0
  generalize dT.cells = D at HDE HTL
  clear hdT dT
  go_enter Tryz.func9, Tryz.ntmps9
  go_wp2_with fail
  refine (HT.out w).mono ?_
  rintro e w1 ⟨rfl, g1⟩
  obtain ⟨w2, hw2⟩ : ∃ q, w1.alloc (.cells #[.int .i64 5, .string { data := #[] }, .int .u64 0, .string { data := #[] }, .string { data := #[] }, .int .u64 1, .int .i64 0, .string { data := #[] }, .int .u64 2, .int .i64 (-1), .int .i64 5, .bool true, .bool false, .string { data := #[] }, .string T] 26) = q := ⟨_, rfl⟩
  obtain ⟨b0, hb0⟩ : ∃ q, w1.heap.size = q := ⟨_, rfl⟩
  have HW2 : Keep (Has w2 b0 D0 26 ∧ w.grownBy w2 none) := by
    rw [HC.out] at hw2
    exact ⟨by rw [← hw2, ← hb0]; exact Has.new w1 _ 26, by rw [← hw2]; exact g1.trans (World.grownBy_alloc _ _ _)⟩
  clear g1
  go_wp2_with (refine wpList_load_mid rfl 26 _ rfl _ _ rfl D0 _ HW2.out.1.range hdu hdr (by rw [HD0.out]; exact info26) ?_)
  refine (HE.out w2).mono ?_
  rintro e w3 ⟨rfl, g3⟩
  have HW3 : Keep (Has w3 b0 D0 26 ∧ w.grownBy w3 none) := ⟨HW2.out.1.kept g3 (by simp), HW2.out.2.trans g3⟩
  clear g3
  go_wp2_with (refine wpList_load_mid rfl 26 _ rfl _ _ rfl D0 _ HW3.out.1.range hdu hdr (by rw [HD0.out]; exact info26) ?_)
  refine (HSE.out w3 (HK.out.kept HW3.out.2 (by simp))).mono ?_
  rintro e w4 ⟨rfl, g4⟩
  have HW4 : Keep (w.grownBy w4 none) := ⟨HW3.out.2.trans g4⟩
  clear g4
  go_wp2_with fail
  refine (HDE.out w4).mono ?_
  rintro e w5 ⟨rfl, g5⟩
  have HW5 : Keep (w.grownBy w5 none) := ⟨HW4.out.trans g5⟩
  clear g5
  go_wp2_with (
    (refine wpList_store_mid rfl 26 _ _ rfl _ _ _ rfl rfl ((Has.newA w5 _ 26).there 0 _ (by rw [List.size_toArray, HTL.out.2.2.2]; exact Nat.le_refl 15)) HTL.out.1 HTL.out.2.1 ?_
     generalize hw6 : World.setCells _ _ _ _ = w6
     have HW6 : Keep (Has w6 w5.heap.size D 26 ∧ w.grownBy w6 none) := by
       rw [← hw6]
       exact ⟨(Has.newA w5 _ 26).setAll D (by rw [HTL.out.2.2.2]; rfl), gr_new (HW5.out.trans (World.grownBy_alloc _ _ _)) (gr_sets _ _ _ _) HW5.out.size⟩
     clear hw6))
  obtain ⟨tb, htb⟩ : ∃ q, w5.heap.size = q := ⟨_, rfl⟩
  rw [htb] at HW6 ⊢
  have HW7 : Keep (Has w6.drew tb D 26 ∧ w.grownBy w6.drew none) := ⟨HW6.out.1.kept (gr_drew _ none) (by simp), HW6.out.2.trans (gr_drew _ _)⟩
  refine wp_region_held_drew (S := fun w' => Has w' tb D 26 ∧ w.grownBy w' none) (by kernel_rfl) HW7.out (fun hHeld => ?_)
  refine wpAnyH_take (i := 0) (oi := _) (v := ?_) rfl (by kernel_rfl) (by kernel_rfl) (by kernel_rfl) (fun _ _ _ h => h) (Or.inl ⟨by rfl, ?_⟩) (by assumption) ?_
  rotate_left
  · (intro w hSw; go_simp; first | done | (with_reducible rfl))
  simp only [Act.put, List.getElem_toArray, List.getElem_cons_zero, List.setIfInBounds_toArray, List.set_cons_zero, List.set_cons_succ]
  refine wpAnyH_take (i := 1) (oi := _) (v := ?_) rfl (by kernel_rfl) (by kernel_rfl) (by kernel_rfl) (fun _ _ _ h => h) (Or.inl ⟨by rfl, ?_⟩) (by assumption) ?_
  rotate_left
  · (intro w hSw; go_simp; first | done | (with_reducible rfl))
  simp only [Act.put, List.getElem_toArray, List.getElem_cons_succ, List.getElem_cons_zero, List.setIfInBounds_toArray, List.set_cons_zero, List.set_cons_succ]
  refine wpAnyH_take (i := 2) (oi := _) (v := ?_) rfl (by kernel_rfl) (by kernel_rfl) (by kernel_rfl) (fun _ _ _ h => h) (Or.inl ⟨by rfl, ?_⟩) (by assumption) ?_
  rotate_left
  · (intro w hSw; go_simp; first | done | (with_reducible rfl))
  simp only [Act.put, List.getElem_toArray, List.getElem_cons_succ, List.getElem_cons_zero, List.setIfInBounds_toArray, List.set_cons_zero, List.set_cons_succ]
  refine wpAnyH_take (i := 3) (oi := _) (v := ?_) rfl (by kernel_rfl) (by kernel_rfl) (by kernel_rfl) (fun _ _ _ h => h) (Or.inl ⟨by rfl, ?_⟩) (by assumption) ?_
  rotate_left
  · (intro w hSw; go_simp; first | done | (with_reducible rfl))
  simp only [Act.put, List.getElem_toArray, List.getElem_cons_succ, List.getElem_cons_zero, List.setIfInBounds_toArray, List.set_cons_zero, List.set_cons_succ]
  refine wpAnyH_take (i := 4) (oi := _) (v := ?_) rfl (by kernel_rfl) (by kernel_rfl) (by kernel_rfl) (fun _ _ _ h => h) (Or.inl ⟨by rfl, ?_⟩) (by assumption) ?_
  rotate_left
  · (intro w hSw; go_simp; first | done | (with_reducible rfl))
  simp only [Act.put, List.getElem_toArray, List.getElem_cons_succ, List.getElem_cons_zero, List.setIfInBounds_toArray, List.set_cons_zero, List.set_cons_succ]
  refine wpAnyH_take (i := 5) (oi := _) (v := ?_) rfl (by kernel_rfl) (by kernel_rfl) (by kernel_rfl) (fun _ _ _ h => h) (Or.inl ⟨by rfl, ?_⟩) (by assumption) ?_
  rotate_left
  · (intro w hSw; go_simp; first | done | (with_reducible rfl))
  simp only [Act.put, List.getElem_toArray, List.getElem_cons_succ, List.getElem_cons_zero, List.setIfInBounds_toArray, List.set_cons_zero, List.set_cons_succ]
  refine wpAnyH_take (i := 6) (oi := _) (v := ?_) rfl (by kernel_rfl) (by kernel_rfl) (by kernel_rfl) (fun _ _ _ h => h) (Or.inl ⟨by rfl, ?_⟩) (by assumption) ?_
  rotate_left
  · (intro w hSw; go_simp; first | done | (with_reducible rfl))
  simp only [Act.put, List.getElem_toArray, List.getElem_cons_succ, List.getElem_cons_zero, List.setIfInBounds_toArray, List.set_cons_zero, List.set_cons_succ]
  refine wpAnyH_take (i := 7) (oi := _) (v := ?_) rfl (by kernel_rfl) (by kernel_rfl) (by kernel_rfl) (fun _ _ _ h => h) (Or.inl ⟨by rfl, ?_⟩) (by assumption) ?_
  rotate_left
  · (intro w hSw; go_simp; first | done | (with_reducible rfl))
  simp only [Act.put, List.getElem_toArray, List.getElem_cons_succ, List.getElem_cons_zero, List.setIfInBounds_toArray, List.set_cons_zero, List.set_cons_succ]
  refine wpAnyH_take (i := 8) (oi := _) (v := ?_) rfl (by kernel_rfl) (by kernel_rfl) (by kernel_rfl) (fun _ _ _ h => h) (Or.inl ⟨by rfl, ?_⟩) (by assumption) ?_
  rotate_left
  · (intro w hSw; go_simp; first | done | (with_reducible rfl))
  simp only [Act.put, List.getElem_toArray, List.getElem_cons_succ, List.getElem_cons_zero, List.setIfInBounds_toArray, List.set_cons_zero, List.set_cons_succ]
  refine wpAnyH_take (i := 9) (oi := _) (v := ?_) rfl (by kernel_rfl) (by kernel_rfl) (by kernel_rfl) (fun _ _ _ h => h) (Or.inl ⟨by rfl, ?_⟩) (by assumption) ?_
  rotate_left
  · (intro w hSw; go_simp; first | done | (with_reducible rfl))
  simp only [Act.put, List.getElem_toArray, List.getElem_cons_succ, List.getElem_cons_zero, List.setIfInBounds_toArray, List.set_cons_zero, List.set_cons_succ]
  refine wpAnyH_take (i := 10) (oi := _) (v := ?_) rfl (by kernel_rfl) (by kernel_rfl) (by kernel_rfl) (fun _ _ _ h => h) (Or.inl ⟨by rfl, ?_⟩) (by assumption) ?_
  rotate_left
  · (intro w hSw; go_simp; first | done | (with_reducible rfl))
  simp only [Act.put, List.getElem_toArray, List.getElem_cons_succ, List.getElem_cons_zero, List.setIfInBounds_toArray, List.set_cons_zero, List.set_cons_succ]
  refine wpAnyH_take (i := 11) (oi := _) (v := ?_) rfl (by kernel_rfl) (by kernel_rfl) (by kernel_rfl) (fun _ _ _ h => h) (Or.inl ⟨by rfl, ?_⟩) (by assumption) ?_
  rotate_left
  · (intro w hSw; go_simp; first | done | (with_reducible rfl))
  simp only [Act.put, List.getElem_toArray, List.getElem_cons_succ, List.getElem_cons_zero, List.setIfInBounds_toArray, List.set_cons_zero, List.set_cons_succ]
  refine wpAnyH_take (i := 12) (oi := _) (v := ?_) rfl (by kernel_rfl) (by kernel_rfl) (by kernel_rfl) (fun _ _ _ h => h) (Or.inl ⟨by rfl, ?_⟩) (by assumption) ?_
  rotate_left
  · (intro w hSw; go_simp; first | done | (with_reducible rfl))
  simp only [Act.put, List.getElem_toArray, List.getElem_cons_succ, List.getElem_cons_zero, List.setIfInBounds_toArray, List.set_cons_zero, List.set_cons_succ]
  refine wpAnyH_take (i := 13) (oi := _) (v := ?_) rfl (by kernel_rfl) (by kernel_rfl) (by kernel_rfl) (fun _ _ _ h => h) (Or.inl ⟨by rfl, ?_⟩) (by assumption) ?_
  rotate_left
  · (intro w hSw; go_simp; first | done | (with_reducible rfl))
  simp only [Act.put, List.getElem_toArray, List.getElem_cons_succ, List.getElem_cons_zero, List.setIfInBounds_toArray, List.set_cons_zero, List.set_cons_succ]
  refine wpAnyH_take (i := 14) (oi := _) (v := ?_) rfl (by kernel_rfl) (by kernel_rfl) (by kernel_rfl) (fun _ _ _ h => h) (Or.inl ⟨by rfl, ?_⟩) (by assumption) ?_
  rotate_left
  · (intro w hSw; go_simp; first | done | (with_reducible rfl))
  simp only [Act.put, List.getElem_toArray, List.getElem_cons_succ, List.getElem_cons_zero, List.setIfInBounds_toArray, List.set_cons_zero, List.set_cons_succ]
  refine wpAnyH_take (i := 15) (oi := _) (v := ?_) rfl (by kernel_rfl) (by kernel_rfl) (by kernel_rfl) (fun _ _ _ h => h) (Or.inl ⟨by rfl, ?_⟩) (by assumption) ?_
  rotate_left
  · (intro w hSw; go_simp; first | done | (with_reducible rfl))
  simp only [Act.put, List.getElem_toArray, List.getElem_cons_succ, List.getElem_cons_zero, List.setIfInBounds_toArray, List.set_cons_zero, List.set_cons_succ]
  refine wpAnyH_take (i := 16) (oi := _) (v := ?_) rfl (by kernel_rfl) (by kernel_rfl) (by kernel_rfl) (fun _ _ _ h => h) (Or.inl ⟨by rfl, ?_⟩) (by assumption) ?_
  rotate_left
  · (intro w hSw; go_simp; first | done | (with_reducible rfl))
  simp only [Act.put, List.getElem_toArray, List.getElem_cons_succ, List.getElem_cons_zero, List.setIfInBounds_toArray, List.set_cons_zero, List.set_cons_succ]
  refine wpAnyH_ready (rs := [17]) (by kernel_rfl) (by simp) ?_
  refine AllReadyH.cons rfl (fun K hK => ?_) AllReadyH.nil
  go_simp
  refine (HZ.out _).mono ?_
  rintro e wn ⟨rfl, gn⟩
  refine hK.out _ _ ⟨hHeld.1.kept gn (by simp), hHeld.2.trans gn⟩ (fun hHeld => ?_)
  clear hK K gn
  refine wpAnyH_take (i := 18) (oi := _) (v := ?_) rfl (by kernel_rfl) (by kernel_rfl) (by kernel_rfl) (fun _ _ _ h => h) (Or.inl ⟨by rfl, ?_⟩) (by assumption) ?_
  rotate_left
  · (intro w hSw; go_simp; first | done | (with_reducible rfl))
  simp only [Act.put, List.getElem_toArray, List.getElem_cons_succ, List.getElem_cons_zero, List.setIfInBounds_toArray, List.set_cons_zero, List.set_cons_succ]
  refine wpAnyH_take (i := 19) (oi := _) (v := ?_) rfl (by kernel_rfl) (by kernel_rfl) (by kernel_rfl) (fun _ _ _ h => h) (Or.inl ⟨by rfl, ?_⟩) (by assumption) ?_
  rotate_left
  · (intro w hSw; go_simp; first | done | (with_reducible rfl))
  simp only [Act.put, List.getElem_toArray, List.getElem_cons_succ, List.getElem_cons_zero, List.setIfInBounds_toArray, List.set_cons_zero, List.set_cons_succ]
  refine wpAnyH_ready (rs := [20]) (by kernel_rfl) (by simp) ?_
  refine AllReadyH.cons rfl (fun K hK => ?_) AllReadyH.nil
  go_simp
  refine (HZ.out _).mono ?_
  rintro e wn ⟨rfl, gn⟩
  refine hK.out _ _ ⟨hHeld.1.kept gn (by simp), hHeld.2.trans gn⟩ (fun hHeld => ?_)
  clear hK K gn
  refine wpAnyH_take (i := 21) (oi := _) (v := ?_) rfl (by kernel_rfl) (by kernel_rfl) (by kernel_rfl) (fun _ _ _ h => h) (Or.inl ⟨by rfl, ?_⟩) (by assumption) ?_
  rotate_left
  · (intro w hSw; go_simp; first | done | (with_reducible rfl))
  simp only [Act.put, List.getElem_toArray, List.getElem_cons_succ, List.getElem_cons_zero, List.setIfInBounds_toArray, List.set_cons_zero, List.set_cons_succ]
  refine wpAnyH_take (i := 22) (oi := _) (v := ?_) rfl (by kernel_rfl) (by kernel_rfl) (by kernel_rfl) (fun _ _ _ h => h) (Or.inl ⟨by rfl, ?_⟩) (by assumption) ?_
  rotate_left
  · (intro w hSw; go_simp; first | done | (with_reducible rfl))
  simp only [Act.put, List.getElem_toArray, List.getElem_cons_succ, List.getElem_cons_zero, List.setIfInBounds_toArray, List.set_cons_zero, List.set_cons_succ]
  refine wpAnyH_ready (rs := [23]) (by kernel_rfl) (by simp) ?_
  refine AllReadyH.cons rfl (fun K hK => ?_) AllReadyH.nil
  go_simp
  refine (HT.out _).mono ?_
  rintro e wn ⟨rfl, gn⟩
  refine hK.out _ _ ⟨hHeld.1.kept gn (by simp), hHeld.2.trans gn⟩ (fun hHeld => ?_)
  clear hK K gn
  refine wpAnyH_take (i := 24) (oi := _) (v := ?_) rfl (by kernel_rfl) (by kernel_rfl) (by kernel_rfl) (fun _ _ _ h => h) (Or.inl ⟨by rfl, ?_⟩) (by assumption) ?_
  rotate_left
  · (intro w hSw; go_simp; first | done | (with_reducible rfl))
  simp only [Act.put, List.getElem_toArray, List.getElem_cons_succ, List.getElem_cons_zero, List.setIfInBounds_toArray, List.set_cons_zero, List.set_cons_succ]
  refine wpAnyH_take (i := 25) (oi := _) (v := ?_) rfl (by kernel_rfl) (by kernel_rfl) (by kernel_rfl) (fun _ _ _ h => h) (Or.inl ⟨by rfl, ?_⟩) (by assumption) ?_
  rotate_left
  · (intro w hSw; go_simp; first | done | (with_reducible rfl))
  simp only [Act.put, List.getElem_toArray, List.getElem_cons_succ, List.getElem_cons_zero, List.setIfInBounds_toArray, List.set_cons_zero, List.set_cons_succ]
  refine wpAnyH_take (i := 26) (oi := _) (v := ?_) rfl (by kernel_rfl) (by kernel_rfl) (by kernel_rfl) (fun _ _ _ h => h) (Or.inl ⟨by rfl, ?_⟩) (by assumption) ?_
  rotate_left
  · (intro w hSw; go_simp; first | done | (with_reducible rfl))
  simp only [Act.put, List.getElem_toArray, List.getElem_cons_succ, List.getElem_cons_zero, List.setIfInBounds_toArray, List.set_cons_zero, List.set_cons_succ]
  refine wpAnyH_take (i := 27) (oi := _) (v := ?_) rfl (by kernel_rfl) (by kernel_rfl) (by kernel_rfl) (fun _ _ _ h => h) (Or.inl ⟨by rfl, ?_⟩) (by assumption) ?_
  rotate_left
  · (intro w hSw; go_simp; first | done | (with_reducible rfl))
  simp only [Act.put, List.getElem_toArray, List.getElem_cons_succ, List.getElem_cons_zero, List.setIfInBounds_toArray, List.set_cons_zero, List.set_cons_succ]
  refine wpAnyH_take (i := 28) (oi := _) (v := ?_) rfl (by kernel_rfl) (by kernel_rfl) (by kernel_rfl) (fun _ _ _ h => h) (Or.inl ⟨by rfl, ?_⟩) (by assumption) ?_
  rotate_left
  · (intro w hSw; go_simp; first | done | (with_reducible rfl))
  simp only [Act.put, List.getElem_toArray, List.getElem_cons_succ, List.getElem_cons_zero, List.setIfInBounds_toArray, List.set_cons_zero, List.set_cons_succ]
  refine wpAnyH_take (i := 29) (oi := _) (v := ?_) rfl (by kernel_rfl) (by kernel_rfl) (by kernel_rfl) (fun _ _ _ h => h) (Or.inl ⟨by rfl, ?_⟩) (by assumption) ?_
  rotate_left
  · (intro w hSw; have x1 := hSw.1.cellv 8 _ HTL.out.2.2.1; clear hSw; go_simp; first | done | (with_reducible rfl))
  simp only [Act.put, List.getElem_toArray, List.getElem_cons_succ, List.getElem_cons_zero, List.setIfInBounds_toArray, List.set_cons_zero, List.set_cons_succ]
  refine wpAnyH_take (i := 30) (oi := _) (v := ?_) rfl (by kernel_rfl) (by kernel_rfl) (by kernel_rfl) (fun _ _ _ h => h) (Or.inl ⟨by rfl, ?_⟩) (by assumption) ?_
  rotate_left
  · (intro w hSw; go_simp; first | done | (with_reducible rfl))
  simp only [Act.put, List.getElem_toArray, List.getElem_cons_succ, List.getElem_cons_zero, List.setIfInBounds_toArray, List.set_cons_zero, List.set_cons_succ]
  refine wpAnyH_take (i := 31) (oi := _) (v := ?_) rfl (by kernel_rfl) (by kernel_rfl) (by kernel_rfl) (fun _ _ _ h => h) (Or.inl ⟨by rfl, ?_⟩) (by assumption) ?_
  rotate_left
  · (intro w hSw; go_simp; first | done | (with_reducible rfl))
  simp only [Act.put, List.getElem_toArray, List.getElem_cons_succ, List.getElem_cons_zero, List.setIfInBounds_toArray, List.set_cons_zero, List.set_cons_succ]
  refine wpAnyH_take (i := 32) (oi := _) (v := ?_) rfl (by kernel_rfl) (by kernel_rfl) (by kernel_rfl) (fun _ _ _ h => h) (Or.inl ⟨by rfl, ?_⟩) (by assumption) ?_
  rotate_left
  · (intro w hSw; go_simp; first | done | (with_reducible rfl))
  simp only [Act.put, List.getElem_toArray, List.getElem_cons_succ, List.getElem_cons_zero, List.setIfInBounds_toArray, List.set_cons_zero, List.set_cons_succ]
  refine wpAnyH_take (i := 33) (oi := _) (v := ?_) rfl (by kernel_rfl) (by kernel_rfl) (by kernel_rfl) (fun _ _ _ h => h) (Or.inl ⟨by rfl, ?_⟩) (by assumption) ?_
  rotate_left
  · (intro w hSw; go_simp; first | done | (with_reducible rfl))
  simp only [Act.put, List.getElem_toArray, List.getElem_cons_succ, List.getElem_cons_zero, List.setIfInBounds_toArray, List.set_cons_zero, List.set_cons_succ]
  refine wpAnyH_take (i := 35) (oi := _) (v := ?_) rfl (by kernel_rfl) (by kernel_rfl) (by kernel_rfl) (fun _ _ _ h => h) (Or.inl ⟨by rfl, ?_⟩) (by assumption) ?_
  rotate_left
  · (intro w hSw; go_simp; first | done | (with_reducible rfl))
  simp only [Act.put, List.getElem_toArray, List.getElem_cons_succ, List.getElem_cons_zero, List.setIfInBounds_toArray, List.set_cons_zero, List.set_cons_succ]
  refine wpAnyH_take (i := 36) (oi := _) (v := ?_) rfl (by kernel_rfl) (by kernel_rfl) (by kernel_rfl) (fun _ _ _ h => h) (Or.inl ⟨by rfl, ?_⟩) (by assumption) ?_
  rotate_left
  · (intro w hSw; go_simp; first | done | (with_reducible rfl))
  simp only [Act.put, List.getElem_toArray, List.getElem_cons_succ, List.getElem_cons_zero, List.setIfInBounds_toArray, List.set_cons_zero, List.set_cons_succ]
  refine wpAnyH_ready (rs := [34]) (by kernel_rfl) (by simp) ?_
  refine AllReadyH.cons rfl (fun K hK => ?_) AllReadyH.nil
  go_simp
  refine (HBO.out _).mono ?_
  rintro e wn ⟨rfl, gn⟩
  refine hK.out _ _ ⟨hHeld.1.kept gn (by simp), hHeld.2.trans gn⟩ (fun hHeld => ?_)
  clear hK K gn
  refine wpAnyH_take (i := 37) (oi := _) (v := ?_) rfl (by kernel_rfl) (by kernel_rfl) (by kernel_rfl) (fun _ _ _ h => h) (Or.inl ⟨by rfl, ?_⟩) (by assumption) ?_
  rotate_left
  · (intro w hSw; go_simp; first | done | (with_reducible rfl))
  simp only [Act.put, List.getElem_toArray, List.getElem_cons_succ, List.getElem_cons_zero, List.setIfInBounds_toArray, List.set_cons_zero, List.set_cons_succ]
  refine wpAnyH_take (i := 38) (oi := _) (v := ?_) rfl (by kernel_rfl) (by kernel_rfl) (by kernel_rfl) (fun _ _ _ h => h) (Or.inl ⟨by rfl, ?_⟩) (by assumption) ?_
  rotate_left
  · (intro w hSw; go_simp; first | done | (with_reducible rfl))
  simp only [Act.put, List.getElem_toArray, List.getElem_cons_succ, List.getElem_cons_zero, List.setIfInBounds_toArray, List.set_cons_zero, List.set_cons_succ]
  refine wpAnyH_take (i := 39) (oi := _) (v := ?_) rfl (by kernel_rfl) (by kernel_rfl) (by kernel_rfl) (fun _ _ _ h => h) (Or.inl ⟨by rfl, ?_⟩) (by assumption) ?_
  rotate_left
  · (intro w hSw; go_simp; first | done | (with_reducible rfl))
  simp only [Act.put, List.getElem_toArray, List.getElem_cons_succ, List.getElem_cons_zero, List.setIfInBounds_toArray, List.set_cons_zero, List.set_cons_succ]
  refine wpAnyH_take (i := 40) (oi := _) (v := ?_) rfl (by kernel_rfl) (by kernel_rfl) (by kernel_rfl) (fun _ _ _ h => h) (Or.inl ⟨by rfl, ?_⟩) (by assumption) ?_
  rotate_left
  · (intro w hSw; go_simp; first | done | (with_reducible rfl))
  simp only [Act.put, List.getElem_toArray, List.getElem_cons_succ, List.getElem_cons_zero, List.setIfInBounds_toArray, List.set_cons_zero, List.set_cons_succ]
  refine wpAnyH_ready (rs := [41]) (by kernel_rfl) (by simp) ?_
  refine AllReadyH.cons rfl (fun K hK => ?_) AllReadyH.nil
  go_simp
  refine (HSK.out _ (HK.out.kept hHeld.2 (by simp))).mono ?_
  rintro e wn ⟨rfl, gn⟩
  refine hK.out _ _ ⟨hHeld.1.kept gn (by simp), hHeld.2.trans gn⟩ (fun hHeld => ?_)
  clear hK K gn
  refine wpAnyH_take (i := 42) (oi := _) (v := ?_) rfl (by kernel_rfl) (by kernel_rfl) (by kernel_rfl) (fun _ _ _ h => h) (Or.inl ⟨by rfl, ?_⟩) (by assumption) ?_
  rotate_left
  · (intro w hSw; go_simp; first | done | (with_reducible rfl))
  simp only [Act.put, List.getElem_toArray, List.getElem_cons_succ, List.getElem_cons_zero, List.setIfInBounds_toArray, List.set_cons_zero, List.set_cons_succ]
  refine wpAnyH_take (i := 43) (oi := _) (v := ?_) rfl (by kernel_rfl) (by kernel_rfl) (by kernel_rfl) (fun _ _ _ h => h) (Or.inl ⟨by rfl, ?_⟩) (by assumption) ?_
  rotate_left
  · (intro w hSw; go_simp; first | done | (with_reducible rfl))
  simp only [Act.put, List.getElem_toArray, List.getElem_cons_succ, List.getElem_cons_zero, List.setIfInBounds_toArray, List.set_cons_zero, List.set_cons_succ]
  refine wpAnyH_take (i := 44) (oi := _) (v := ?_) rfl (by kernel_rfl) (by kernel_rfl) (by kernel_rfl) (fun _ _ _ h => h) (Or.inl ⟨by rfl, ?_⟩) (by assumption) ?_
  rotate_left
  · (intro w hSw; go_simp; first | done | (with_reducible rfl))
  simp only [Act.put, List.getElem_toArray, List.getElem_cons_succ, List.getElem_cons_zero, List.setIfInBounds_toArray, List.set_cons_zero, List.set_cons_succ]
  refine wpAnyH_ready (rs := [45]) (by kernel_rfl) (by simp) ?_
  refine AllReadyH.cons rfl (fun K hK => ?_) AllReadyH.nil
  go_simp
  refine (HSL.out _ (HK.out.kept hHeld.2 (by simp))).mono ?_
  rintro e wn ⟨rfl, gn⟩
  refine hK.out _ _ ⟨hHeld.1.kept gn (by simp), hHeld.2.trans gn⟩ (fun hHeld => ?_)
  clear hK K gn
  refine wpAnyH_take (i := 46) (oi := _) (v := ?_) rfl (by kernel_rfl) (by kernel_rfl) (by kernel_rfl) (fun _ _ _ h => h) (Or.inl ⟨by rfl, ?_⟩) (by assumption) ?_
  rotate_left
  · (intro w hSw; go_simp; first | done | (with_reducible rfl))
  simp only [Act.put, List.getElem_toArray, List.getElem_cons_succ, List.getElem_cons_zero, List.setIfInBounds_toArray, List.set_cons_zero, List.set_cons_succ]
  refine wpAnyH_take (i := 47) (oi := _) (v := ?_) rfl (by kernel_rfl) (by kernel_rfl) (by kernel_rfl) (fun _ _ _ h => h) (Or.inl ⟨by rfl, ?_⟩) (by assumption) ?_
  rotate_left
  · (intro w hSw; go_simp; first | done | (with_reducible rfl))
  simp only [Act.put, List.getElem_toArray, List.getElem_cons_succ, List.getElem_cons_zero, List.setIfInBounds_toArray, List.set_cons_zero, List.set_cons_succ]
  refine wpAnyH_take (i := 48) (oi := _) (v := ?_) rfl (by kernel_rfl) (by kernel_rfl) (by kernel_rfl) (fun _ _ _ h => h) (Or.inl ⟨by rfl, ?_⟩) (by assumption) ?_
  rotate_left
  · (intro w hSw; go_simp; first | done | (with_reducible rfl))
  simp only [Act.put, List.getElem_toArray, List.getElem_cons_succ, List.getElem_cons_zero, List.setIfInBounds_toArray, List.set_cons_zero, List.set_cons_succ]
  refine wpAnyH_take (i := 49) (oi := _) (v := ?_) rfl (by kernel_rfl) (by kernel_rfl) (by kernel_rfl) (fun _ _ _ h => h) (Or.inl ⟨by rfl, ?_⟩) (by assumption) ?_
  rotate_left
  · (intro w hSw; go_simp; first | done | (with_reducible rfl))
  simp only [Act.put, List.getElem_toArray, List.getElem_cons_succ, List.getElem_cons_zero, List.setIfInBounds_toArray, List.set_cons_zero, List.set_cons_succ]
  refine wpAnyH_ready (rs := [50]) (by kernel_rfl) (by simp) ?_
  refine AllReadyH.cons rfl (fun K hK => ?_) AllReadyH.nil
  go_simp
  refine (HSS.out _ (HK.out.kept hHeld.2 (by simp))).mono ?_
  rintro e wn ⟨rfl, gn⟩
  refine hK.out _ _ ⟨hHeld.1.kept gn (by simp), hHeld.2.trans gn⟩ (fun hHeld => ?_)
  clear hK K gn
  refine wpAnyH_take (i := 51) (oi := _) (v := ?_) rfl (by kernel_rfl) (by kernel_rfl) (by kernel_rfl) (fun _ _ _ h => h) (Or.inl ⟨by rfl, ?_⟩) (by assumption) ?_
  rotate_left
  · (intro w hSw; go_simp; first | done | (with_reducible rfl))
  simp only [Act.put, List.getElem_toArray, List.getElem_cons_succ, List.getElem_cons_zero, List.setIfInBounds_toArray, List.set_cons_zero, List.set_cons_succ]
  refine wpAnyH_take (i := 52) (oi := _) (v := ?_) rfl (by kernel_rfl) (by kernel_rfl) (by kernel_rfl) (fun _ _ _ h => h) (Or.inl ⟨by rfl, ?_⟩) (by assumption) ?_
  rotate_left
  · (intro w hSw; go_simp; first | done | (with_reducible rfl))
  simp only [Act.put, List.getElem_toArray, List.getElem_cons_succ, List.getElem_cons_zero, List.setIfInBounds_toArray, List.set_cons_zero, List.set_cons_succ]
  refine wpAnyH_take (i := 53) (oi := _) (v := ?_) rfl (by kernel_rfl) (by kernel_rfl) (by kernel_rfl) (fun _ _ _ h => h) (Or.inl ⟨by rfl, ?_⟩) (by assumption) ?_
  rotate_left
  · (intro w hSw; go_simp; first | done | (with_reducible rfl))
  simp only [Act.put, List.getElem_toArray, List.getElem_cons_succ, List.getElem_cons_zero, List.setIfInBounds_toArray, List.set_cons_zero]
  refine wpAnyH_done (by kernel_rfl) ?_ _
  have HF := Keep.mk hHeld.2
  clear hHeld
  go_wp2_with fail
  go_ret
  exact ⟨rfl, HF.out⟩
end Go.Proofs.YtiphnlfbgbemfaaGreatDoor.Pk

/- FrameApart -/
namespace Go.Proofs.YtiphnlfbgbemfaaGreatDoor.Pk
open Go Go.RowKit

theorem alloc_has {w w0 : World} {D : List Value} (h : w.alloc (.cells D.toArray 26) = w0) : Has w0 w.heap.size D 26 ∧ w.grownBy w0 none := by
  rw [← h]; exact ⟨Has.new w _ 26, World.grownBy_alloc _ _ _⟩
theorem dg_one (d : Dg) : d.cells.toArray.all (·.oneCell') = true := by simp [Dg.cells, Value.oneCell']
theorem dg_info (d : Dg) : (Tryz.prog.info? 26).map (·.size) = some d.cells.toArray.size := info26
/-- a datagram is laid into a new block -/
theorem store_dg {ops : Array Oper} {rest : List Oper} {op : Oper} {a : Act} {Q : Exit → Act → World → Prop} (w3 : World) (d : Dg) {A : Array Value} (hgd : op.guard = none) {x y : Operand} (ho : op.op = .store 26 x y)
    (hx : a.eval x = .pointer (some ⟨w3.heap.size, 0, none⟩)) (hy : a.eval y = .agg d.cells.toArray) (hA : A.size = 15)
    (h : ∀ w6, Has w6 w3.heap.size d.cells 26 → w3.grownBy w6 none → wpList Tryz.prog ops Q rest (a.put op.dst undef) w6) : wpList Tryz.prog ops Q (op :: rest) a (w3.alloc (.cells A 26)) := by
  have e : A.toList.length = 15 := by rw [Array.length_toList]; exact hA
  have hn := Has.newA w3 A 26
  refine wpList_store_mid hgd 26 x y ho w3.heap.size 0 d.cells.toArray hx hy (hn.there 0 15 (by rw [e]; exact Nat.le_refl _)) (dg_info d) (dg_one d) ?_
  exact h _ (hn.setAll d.cells (by rw [e]; rfl)) (gr_new (World.grownBy_alloc _ _ _) (gr_sets _ _ _ _) (Nat.le_refl _))
set_option maxHeartbeats 16000000 in
set_option maxRecDepth 100000 in
theorem apart_c (a b : Dg) (key : ByteArray) (w : World) (hk : Kc w) (ha : a.fine ∧ a.small) (hb : b.fine ∧ b.small) (hkey : key.size ≤ 1048576) :
    Calls Tryz.prog 3 #[dv a, dv b, .string key] w fun e w' => e = .returned (.bool true) ∧ w.grownBy w' none := by
  obtain ⟨du, hdu, hdr⟩ := under26
  have HK := Keep.mk hk
  obtain ⟨sa, hsa⟩ : ∃ x, (sealD a key).1 = x := ⟨_, rfl⟩
  obtain ⟨ea, hea⟩ : ∃ x, (sealD a key).2 = x := ⟨_, rfl⟩
  obtain ⟨sb, hsb⟩ : ∃ x, (sealD b key).1 = x := ⟨_, rfl⟩
  obtain ⟨eb, heb⟩ : ∃ x, (sealD b key).2 = x := ⟨_, rfl⟩
  obtain ⟨da, hda⟩ : ∃ x, (dec (sl sa)).1 = x := ⟨_, rfl⟩
  obtain ⟨fa, hfa⟩ : ∃ x, (dec (sl sa)).2 = x := ⟨_, rfl⟩
  obtain ⟨db, hdb⟩ : ∃ x, (dec (sl sb)).1 = x := ⟨_, rfl⟩
  obtain ⟨fb, hfb⟩ : ∃ x, (dec (sl sb)).2 = x := ⟨_, rfl⟩
  have HP : Keep (eb = 0 → fb = 0 ∧ db.kind = b.kind) := ⟨fun h => by
    obtain ⟨body, _, _, h3⟩ := seal_dec b key hb.1 (by rw [heb]; exact h)
    rw [hsb] at h3
    rw [← hfb, ← hdb, h3]
    exact ⟨rfl, by rw [onlyD, cps_kind]; rfl⟩⟩
  have hsz : ∀ (d : Dg), (sealD d key).1.size ≤ 4611686018427387904 := fun d => by
    unfold sealD
    split
    · split
      · have h1 := bodyB_size (ba (enc d.bare).1)
        have h2 := enc_le d.bare
        rw [ba_size (enc d.bare).1] at h1
        rw [ByteArray.size_append, hmacB_size]
        omega
      · show nob.size ≤ _; decide
    · show nob.size ≤ _; decide
  have HSa : Keep (∀ W, Kc W → Calls Tryz.prog 10 #[.agg a.cells.toArray, .string key] W fun e w' => e = .returned (.tuple #[.string sa, .int .i64 ea]) ∧ W.grownBy w' none) := ⟨fun W hk => by have := seal_c a key ha.1 ha.2 W hk (by omega); rw [hsa, hea] at this; exact this⟩
  have HSb : Keep (∀ W, Kc W → Calls Tryz.prog 10 #[.agg b.cells.toArray, .string key] W fun e w' => e = .returned (.tuple #[.string sb, .int .i64 eb]) ∧ W.grownBy w' none) := ⟨fun W hk => by have := seal_c b key hb.1 hb.2 W hk (by omega); rw [hsb, heb] at this; exact this⟩
  have HDa : Keep (∀ W, Calls Tryz.prog 11 #[.string sa] W fun e w' => e = .returned (.tuple #[.agg da.cells.toArray, .int .i64 fa]) ∧ W.grownBy w' none) := ⟨fun W => by have := decode_c sa W (by rw [← hsa]; exact hsz a); rw [hda, hfa] at this; exact this⟩
  have HDb : Keep (∀ W, Calls Tryz.prog 11 #[.string sb] W fun e w' => e = .returned (.tuple #[.agg db.cells.toArray, .int .i64 fb]) ∧ W.grownBy w' none) := ⟨fun W => by have := decode_c sb W (by rw [← hsb]; exact hsz b); rw [hdb, hfb] at this; exact this⟩
  obtain ⟨w00, hw00⟩ : ∃ q, w.alloc (.cells a.cells.toArray 26) = q := ⟨_, rfl⟩
  obtain ⟨w0, hw0⟩ : ∃ q, w00.alloc (.cells b.cells.toArray 26) = q := ⟨_, rfl⟩
  obtain ⟨h1, g1⟩ := alloc_has hw00
  obtain ⟨h2, g2⟩ := alloc_has hw0
  have hsz1 : w00.heap.size = w.heap.size + 1 := by rw [← hw00]; exact hs1 _ _
  rw [hsz1] at h2
  have HC : Keep (Has w0 w.heap.size a.cells 26 ∧ Has w0 (w.heap.size + 1) b.cells 26 ∧ w.grownBy w0 none) := ⟨h1.kept g2 (by simp), h2, g1.trans g2⟩
  have q1 : w.alloc (.cells #[.int .i64 a.kind, .string a.nonce, .int .u64 a.epoch, .string a.cookie, .string a.name, .int .u64 a.session, .int .i64 a.player, .string a.salt, .int .u64 a.seq, .int .i64 a.thr, .int .i64 a.turn, .bool a.fire, .bool a.boost, .string a.data, .string a.tag] 26) = w00 := hw00
  have q2 : w00.alloc (.cells #[.int .i64 b.kind, .string b.nonce, .int .u64 b.epoch, .string b.cookie, .string b.name, .int .u64 b.session, .int .i64 b.player, .string b.salt, .int .u64 b.seq, .int .i64 b.thr, .int .i64 b.turn, .bool b.fire, .bool b.boost, .string b.data, .string b.tag] 26) = w0 := hw0
  clear hw00 hw0 h1 g1 h2 g2 hsa hea hsb heb hda hfa hdb hfb hsz ha hb hkey hk
  unfold dv
  go_enter Tryz.func3, Tryz.ntmps3
  go_wp2_with fail
  refine (alive_c w0 (HK.out.kept HC.out.2.2 (by simp))).mono ?_
  rintro e w1 ⟨rfl, gn⟩
  replace HC : Keep (Has w1 w.heap.size a.cells 26 ∧ Has w1 (w.heap.size + 1) b.cells 26 ∧ w.grownBy w1 none) := ⟨(HC.out.1).kept gn (by simp), (HC.out.2.1).kept gn (by simp), (HC.out.2.2).trans gn⟩
  clear gn
  go_wp2_with (refine wpList_load_mid rfl 26 _ rfl _ _ rfl a.cells _ (HC.out.1).range hdu hdr info26 ?_)
  refine (HSa.out w1 (HK.out.kept (HC.out.2.2) (by simp))).mono ?_
  rintro e w2 ⟨rfl, gn⟩
  replace HC : Keep (Has w2 w.heap.size a.cells 26 ∧ Has w2 (w.heap.size + 1) b.cells 26 ∧ w.grownBy w2 none) := ⟨(HC.out.1).kept gn (by simp), (HC.out.2.1).kept gn (by simp), (HC.out.2.2).trans gn⟩
  clear gn
  go_wp2_with fail
  refine (HDa.out w2).mono ?_
  rintro e w3 ⟨rfl, gn⟩
  replace HC : Keep (Has w3 w.heap.size a.cells 26 ∧ Has w3 (w.heap.size + 1) b.cells 26 ∧ w.grownBy w3 none) := ⟨(HC.out.1).kept gn (by simp), (HC.out.2.1).kept gn (by simp), (HC.out.2.2).trans gn⟩
  clear gn
  go_wp2_with (first
    | (refine store_dg w3 da rfl rfl rfl rfl rfl ?_
       intro w4 hs gs
       obtain ⟨b9, hblk⟩ : ∃ q, w3.heap.size = q := ⟨_, rfl⟩
       rw [hblk] at hs
       have HC2 : Keep (Has w4 w.heap.size a.cells 26 ∧ Has w4 (w.heap.size + 1) b.cells 26 ∧ Has w4 b9 da.cells 26 ∧ w.grownBy w4 none) := ⟨(HC.out.1).kept gs (by simp), (HC.out.2.1).kept gs (by simp), hs, (HC.out.2.2).trans gs⟩
       clear hs gs)
    | (refine wpList_load_mid rfl 26 _ rfl _ _ rfl b.cells _ (HC2.out.2.1).range hdu hdr info26 ?_))
  replace HC := HC2
  clear HC2
  refine (HSb.out w4 (HK.out.kept (HC.out.2.2.2) (by simp))).mono ?_
  rintro e w5 ⟨rfl, gn⟩
  replace HC : Keep (Has w5 w.heap.size a.cells 26 ∧ Has w5 (w.heap.size + 1) b.cells 26 ∧ Has w5 b9 da.cells 26 ∧ w.grownBy w5 none) := ⟨(HC.out.1).kept gn (by simp), (HC.out.2.1).kept gn (by simp), (HC.out.2.2.1).kept gn (by simp), (HC.out.2.2.2).trans gn⟩
  clear gn
  go_wp2_with fail
  refine (HDb.out w5).mono ?_
  rintro e w6 ⟨rfl, gn⟩
  replace HC : Keep (Has w6 w.heap.size a.cells 26 ∧ Has w6 (w.heap.size + 1) b.cells 26 ∧ Has w6 b9 da.cells 26 ∧ w.grownBy w6 none) := ⟨(HC.out.1).kept gn (by simp), (HC.out.2.1).kept gn (by simp), (HC.out.2.2.1).kept gn (by simp), (HC.out.2.2.2).trans gn⟩
  clear gn
  go_wp2_with (first
    | (refine store_dg w6 db rfl rfl rfl rfl rfl ?_
       intro w7 hs gs
       obtain ⟨b13, hblk⟩ : ∃ q, w6.heap.size = q := ⟨_, rfl⟩
       rw [hblk] at hs
       have HC2 : Keep (Has w7 w.heap.size a.cells 26 ∧ Has w7 (w.heap.size + 1) b.cells 26 ∧ Has w7 b9 da.cells 26 ∧ Has w7 b13 db.cells 26 ∧ w.grownBy w7 none) := ⟨(HC.out.1).kept gs (by simp), (HC.out.2.1).kept gs (by simp), (HC.out.2.2.1).kept gs (by simp), hs, (HC.out.2.2.2).trans gs⟩
       clear hs gs)
    | (refine wpList_load_mid rfl 26 _ rfl _ _ rfl a.cells _ (HC2.out.1).range hdu hdr info26 ?_))
  replace HC := HC2
  clear HC2
  refine (HSa.out w7 (HK.out.kept (HC.out.2.2.2.2) (by simp))).mono ?_
  rintro e w8 ⟨rfl, gn⟩
  replace HC : Keep (Has w8 w.heap.size a.cells 26 ∧ Has w8 (w.heap.size + 1) b.cells 26 ∧ Has w8 b9 da.cells 26 ∧ Has w8 b13 db.cells 26 ∧ w.grownBy w8 none) := ⟨(HC.out.1).kept gn (by simp), (HC.out.2.1).kept gn (by simp), (HC.out.2.2.1).kept gn (by simp), (HC.out.2.2.2.1).kept gn (by simp), (HC.out.2.2.2.2).trans gn⟩
  clear gn
  go_wp2_with fail
  refine (HDa.out w8).mono ?_
  rintro e w9 ⟨rfl, gn⟩
  replace HC : Keep (Has w9 w.heap.size a.cells 26 ∧ Has w9 (w.heap.size + 1) b.cells 26 ∧ Has w9 b9 da.cells 26 ∧ Has w9 b13 db.cells 26 ∧ w.grownBy w9 none) := ⟨(HC.out.1).kept gn (by simp), (HC.out.2.1).kept gn (by simp), (HC.out.2.2.1).kept gn (by simp), (HC.out.2.2.2.1).kept gn (by simp), (HC.out.2.2.2.2).trans gn⟩
  clear gn
  go_wp2_with (first
    | (refine store_dg w9 da rfl rfl rfl rfl rfl ?_
       intro w10 hs gs
       obtain ⟨b17, hblk⟩ : ∃ q, w9.heap.size = q := ⟨_, rfl⟩
       rw [hblk] at hs
       have HC2 : Keep (Has w10 w.heap.size a.cells 26 ∧ Has w10 (w.heap.size + 1) b.cells 26 ∧ Has w10 b9 da.cells 26 ∧ Has w10 b13 db.cells 26 ∧ Has w10 b17 da.cells 26 ∧ w.grownBy w10 none) := ⟨(HC.out.1).kept gs (by simp), (HC.out.2.1).kept gs (by simp), (HC.out.2.2.1).kept gs (by simp), (HC.out.2.2.2.1).kept gs (by simp), hs, (HC.out.2.2.2.2).trans gs⟩
       clear hs gs)
    | (refine wpList_load_mid rfl 26 _ rfl _ _ rfl b.cells _ (HC2.out.2.1).range hdu hdr info26 ?_))
  replace HC := HC2
  clear HC2
  refine (HSb.out w10 (HK.out.kept (HC.out.2.2.2.2.2) (by simp))).mono ?_
  rintro e w11 ⟨rfl, gn⟩
  replace HC : Keep (Has w11 w.heap.size a.cells 26 ∧ Has w11 (w.heap.size + 1) b.cells 26 ∧ Has w11 b9 da.cells 26 ∧ Has w11 b13 db.cells 26 ∧ Has w11 b17 da.cells 26 ∧ w.grownBy w11 none) := ⟨(HC.out.1).kept gn (by simp), (HC.out.2.1).kept gn (by simp), (HC.out.2.2.1).kept gn (by simp), (HC.out.2.2.2.1).kept gn (by simp), (HC.out.2.2.2.2.1).kept gn (by simp), (HC.out.2.2.2.2.2).trans gn⟩
  clear gn
  have cb9_0 : w11.cell? ⟨b9, 0, none⟩ = some (.int .i64 da.kind) := (HC.out.2.2.1).cellv 0 _ rfl
  have cb9_1 : w11.cell? ⟨b9, 1, none⟩ = some (.string da.nonce) := (HC.out.2.2.1).cellv 1 _ rfl
  have cb9_2 : w11.cell? ⟨b9, 2, none⟩ = some (.int .u64 da.epoch) := (HC.out.2.2.1).cellv 2 _ rfl
  have cb9_3 : w11.cell? ⟨b9, 3, none⟩ = some (.string da.cookie) := (HC.out.2.2.1).cellv 3 _ rfl
  have cb9_4 : w11.cell? ⟨b9, 4, none⟩ = some (.string da.name) := (HC.out.2.2.1).cellv 4 _ rfl
  have cb9_5 : w11.cell? ⟨b9, 5, none⟩ = some (.int .u64 da.session) := (HC.out.2.2.1).cellv 5 _ rfl
  have cb9_6 : w11.cell? ⟨b9, 6, none⟩ = some (.int .i64 da.player) := (HC.out.2.2.1).cellv 6 _ rfl
  have cb9_7 : w11.cell? ⟨b9, 7, none⟩ = some (.string da.salt) := (HC.out.2.2.1).cellv 7 _ rfl
  have cb9_8 : w11.cell? ⟨b9, 8, none⟩ = some (.int .u64 da.seq) := (HC.out.2.2.1).cellv 8 _ rfl
  have cb9_9 : w11.cell? ⟨b9, 9, none⟩ = some (.int .i64 da.thr) := (HC.out.2.2.1).cellv 9 _ rfl
  have cb9_10 : w11.cell? ⟨b9, 10, none⟩ = some (.int .i64 da.turn) := (HC.out.2.2.1).cellv 10 _ rfl
  have cb9_11 : w11.cell? ⟨b9, 11, none⟩ = some (.bool da.fire) := (HC.out.2.2.1).cellv 11 _ rfl
  have cb9_12 : w11.cell? ⟨b9, 12, none⟩ = some (.bool da.boost) := (HC.out.2.2.1).cellv 12 _ rfl
  have cb9_13 : w11.cell? ⟨b9, 13, none⟩ = some (.string da.data) := (HC.out.2.2.1).cellv 13 _ rfl
  have cb9_14 : w11.cell? ⟨b9, 14, none⟩ = some (.string da.tag) := (HC.out.2.2.1).cellv 14 _ rfl
  have cb13_0 : w11.cell? ⟨b13, 0, none⟩ = some (.int .i64 db.kind) := (HC.out.2.2.2.1).cellv 0 _ rfl
  have cb17_0 : w11.cell? ⟨b17, 0, none⟩ = some (.int .i64 da.kind) := (HC.out.2.2.2.2.1).cellv 0 _ rfl
  have cb17_1 : w11.cell? ⟨b17, 1, none⟩ = some (.string da.nonce) := (HC.out.2.2.2.2.1).cellv 1 _ rfl
  have cb17_2 : w11.cell? ⟨b17, 2, none⟩ = some (.int .u64 da.epoch) := (HC.out.2.2.2.2.1).cellv 2 _ rfl
  have cb17_3 : w11.cell? ⟨b17, 3, none⟩ = some (.string da.cookie) := (HC.out.2.2.2.2.1).cellv 3 _ rfl
  have cb17_4 : w11.cell? ⟨b17, 4, none⟩ = some (.string da.name) := (HC.out.2.2.2.2.1).cellv 4 _ rfl
  have cb17_5 : w11.cell? ⟨b17, 5, none⟩ = some (.int .u64 da.session) := (HC.out.2.2.2.2.1).cellv 5 _ rfl
  have cb17_6 : w11.cell? ⟨b17, 6, none⟩ = some (.int .i64 da.player) := (HC.out.2.2.2.2.1).cellv 6 _ rfl
  have cb17_7 : w11.cell? ⟨b17, 7, none⟩ = some (.string da.salt) := (HC.out.2.2.2.2.1).cellv 7 _ rfl
  have cb17_8 : w11.cell? ⟨b17, 8, none⟩ = some (.int .u64 da.seq) := (HC.out.2.2.2.2.1).cellv 8 _ rfl
  have cb17_9 : w11.cell? ⟨b17, 9, none⟩ = some (.int .i64 da.thr) := (HC.out.2.2.2.2.1).cellv 9 _ rfl
  have cb17_10 : w11.cell? ⟨b17, 10, none⟩ = some (.int .i64 da.turn) := (HC.out.2.2.2.2.1).cellv 10 _ rfl
  have cb17_11 : w11.cell? ⟨b17, 11, none⟩ = some (.bool da.fire) := (HC.out.2.2.2.2.1).cellv 11 _ rfl
  have cb17_12 : w11.cell? ⟨b17, 12, none⟩ = some (.bool da.boost) := (HC.out.2.2.2.2.1).cellv 12 _ rfl
  have cb17_13 : w11.cell? ⟨b17, 13, none⟩ = some (.string da.data) := (HC.out.2.2.2.2.1).cellv 13 _ rfl
  have cb17_14 : w11.cell? ⟨b17, 14, none⟩ = some (.string da.tag) := (HC.out.2.2.2.2.1).cellv 14 _ rfl
  have cwheapsize1_0 : w11.cell? ⟨(w.heap.size + 1), 0, none⟩ = some (.int .i64 b.kind) := (HC.out.2.1).cellv 0 _ rfl
  have hEq : ∀ W : World, (Op.equalIn 10000 26 (.agg #[.int .i64 da.kind, .string da.nonce, .int .u64 da.epoch, .string da.cookie, .string da.name, .int .u64 da.session, .int .i64 da.player, .string da.salt, .int .u64 da.seq, .int .i64 da.thr, .int .i64 da.turn, .bool da.fire, .bool da.boost, .string da.data, .string da.tag]) (.agg #[.int .i64 da.kind, .string da.nonce, .int .u64 da.epoch, .string da.cookie, .string da.name, .int .u64 da.session, .int .i64 da.player, .string da.salt, .int .u64 da.seq, .int .i64 da.thr, .int .i64 da.turn, .bool da.fire, .bool da.boost, .string da.data, .string da.tag])).run Tryz.prog W = .ok true W := fun W => eqI26 da W
  have HGF := Keep.mk (HC.out.2.2.2.2.2)
  clear HC
  by_cases h0 : eb = 0
  · obtain ⟨p1, p2⟩ := HP.out h0
    subst h0 p1
    rw [p2] at cb13_0
    clear p2
    go_wp2_with fail
    go_ret
    exact ⟨rfl, HGF.out⟩
  · go_wp2_with fail
    go_ret
    exact ⟨rfl, HGF.out⟩
end Go.Proofs.YtiphnlfbgbemfaaGreatDoor.Pk

/- the laws' only -/
namespace Go.Proofs.YtiphnlfbgbemfaaGreatDoor.Pk
open Go Go.RowKit
theorem mid_has (w : World) (a c : Obj) (l : List Value) (t : TypeId) : Has (((w.alloc a).alloc (.cells l.toArray t)).alloc c) (w.heap.size + 1) l t := by
  have h := (Has.new (w.alloc a) l t).alloc c
  rwa [World.size_alloc] at h
theorem gr_three (w : World) (a b c : Obj) : w.grownBy (((w.alloc a).alloc b).alloc c) none := ((World.grownBy_alloc _ _ _).trans (World.grownBy_alloc _ _ _)).trans (World.grownBy_alloc _ _ _)
set_option maxHeartbeats 16000000 in
set_option maxRecDepth 100000 in
theorem only_1 (d : Dg) (w : World) (hk : d.kind = 1) :
    Calls Tryz.prog 13 #[dv d] w fun e w' => e = .returned (dv (onlyD d)) ∧ w.grownBy w' none := by
  obtain ⟨du, hdu, hdr⟩ := under26
  have e : onlyD d = ⟨1, d.nonce, 0, nob, nob, 0, 0, nob, 0, 0, 0, false, false, nob, nob⟩ := by rw [onlyD, hk]; rfl
  rw [e]
  unfold dv
  dsimp only
  rw [hk]
  clear e
  generalize d.nonce = x1
  generalize d.epoch = x2
  generalize d.cookie = x3
  generalize d.name = x4
  generalize d.session = x5
  generalize d.player = x6
  generalize d.salt = x7
  generalize d.seq = x8
  generalize d.thr = x9
  generalize d.turn = x10
  generalize d.fire = x11
  generalize d.boost = x12
  generalize d.data = x13
  generalize d.tag = x14
  clear hk
  go_enter Tryz.func13, Tryz.ntmps13
  go_wp2_with fail
  exact ret_cell rfl rfl (mid_has w _ _ [.int .i64 1, .string x1, .int .u64 ((0 : Nat) : Int), .string nob, .string nob, .int .u64 ((0 : Nat) : Int), .int .i64 0, .string nob, .int .u64 ((0 : Nat) : Int), .int .i64 0, .int .i64 0, .bool false, .bool false, .string nob, .string nob] 26) hdu hdr info26 rfl ⟨rfl, gr_three w _ _ _⟩
set_option maxHeartbeats 16000000 in
set_option maxRecDepth 100000 in
theorem only_2 (d : Dg) (w : World) (hk : d.kind = 2) :
    Calls Tryz.prog 13 #[dv d] w fun e w' => e = .returned (dv (onlyD d)) ∧ w.grownBy w' none := by
  obtain ⟨du, hdu, hdr⟩ := under26
  have e : onlyD d = ⟨2, d.nonce, d.epoch, d.cookie, nob, 0, 0, nob, 0, 0, 0, false, false, nob, nob⟩ := by rw [onlyD, hk]; rfl
  rw [e]
  unfold dv
  dsimp only
  rw [hk]
  clear e
  generalize d.nonce = x1
  generalize d.epoch = x2
  generalize d.cookie = x3
  generalize d.name = x4
  generalize d.session = x5
  generalize d.player = x6
  generalize d.salt = x7
  generalize d.seq = x8
  generalize d.thr = x9
  generalize d.turn = x10
  generalize d.fire = x11
  generalize d.boost = x12
  generalize d.data = x13
  generalize d.tag = x14
  clear hk
  go_enter Tryz.func13, Tryz.ntmps13
  go_wp2_with fail
  exact ret_cell rfl rfl (mid_has w _ _ [.int .i64 2, .string x1, .int .u64 (x2 : Nat), .string x3, .string nob, .int .u64 ((0 : Nat) : Int), .int .i64 0, .string nob, .int .u64 ((0 : Nat) : Int), .int .i64 0, .int .i64 0, .bool false, .bool false, .string nob, .string nob] 26) hdu hdr info26 rfl ⟨rfl, gr_three w _ _ _⟩
set_option maxHeartbeats 16000000 in
set_option maxRecDepth 100000 in
theorem only_3 (d : Dg) (w : World) (hk : d.kind = 3) :
    Calls Tryz.prog 13 #[dv d] w fun e w' => e = .returned (dv (onlyD d)) ∧ w.grownBy w' none := by
  obtain ⟨du, hdu, hdr⟩ := under26
  have e : onlyD d = ⟨3, d.nonce, d.epoch, d.cookie, d.name, 0, 0, nob, 0, 0, 0, false, false, nob, d.tag⟩ := by rw [onlyD, hk]; rfl
  rw [e]
  unfold dv
  dsimp only
  rw [hk]
  clear e
  generalize d.nonce = x1
  generalize d.epoch = x2
  generalize d.cookie = x3
  generalize d.name = x4
  generalize d.session = x5
  generalize d.player = x6
  generalize d.salt = x7
  generalize d.seq = x8
  generalize d.thr = x9
  generalize d.turn = x10
  generalize d.fire = x11
  generalize d.boost = x12
  generalize d.data = x13
  generalize d.tag = x14
  clear hk
  go_enter Tryz.func13, Tryz.ntmps13
  go_wp2_with fail
  exact ret_cell rfl rfl (mid_has w _ _ [.int .i64 3, .string x1, .int .u64 (x2 : Nat), .string x3, .string x4, .int .u64 ((0 : Nat) : Int), .int .i64 0, .string nob, .int .u64 ((0 : Nat) : Int), .int .i64 0, .int .i64 0, .bool false, .bool false, .string nob, .string x14] 26) hdu hdr info26 rfl ⟨rfl, gr_three w _ _ _⟩
set_option maxHeartbeats 16000000 in
set_option maxRecDepth 100000 in
theorem only_4 (d : Dg) (w : World) (hk : d.kind = 4) :
    Calls Tryz.prog 13 #[dv d] w fun e w' => e = .returned (dv (onlyD d)) ∧ w.grownBy w' none := by
  obtain ⟨du, hdu, hdr⟩ := under26
  have e : onlyD d = ⟨4, d.nonce, 0, nob, nob, d.session, d.player, d.salt, 0, 0, 0, false, false, nob, d.tag⟩ := by rw [onlyD, hk]; rfl
  rw [e]
  unfold dv
  dsimp only
  rw [hk]
  clear e
  generalize d.nonce = x1
  generalize d.epoch = x2
  generalize d.cookie = x3
  generalize d.name = x4
  generalize d.session = x5
  generalize d.player = x6
  generalize d.salt = x7
  generalize d.seq = x8
  generalize d.thr = x9
  generalize d.turn = x10
  generalize d.fire = x11
  generalize d.boost = x12
  generalize d.data = x13
  generalize d.tag = x14
  clear hk
  go_enter Tryz.func13, Tryz.ntmps13
  go_wp2_with fail
  exact ret_cell rfl rfl (mid_has w _ _ [.int .i64 4, .string x1, .int .u64 ((0 : Nat) : Int), .string nob, .string nob, .int .u64 (x5 : Nat), .int .i64 x6, .string x7, .int .u64 ((0 : Nat) : Int), .int .i64 0, .int .i64 0, .bool false, .bool false, .string nob, .string x14] 26) hdu hdr info26 rfl ⟨rfl, gr_three w _ _ _⟩
set_option maxHeartbeats 16000000 in
set_option maxRecDepth 100000 in
theorem only_5 (d : Dg) (w : World) (hk : d.kind = 5) :
    Calls Tryz.prog 13 #[dv d] w fun e w' => e = .returned (dv (onlyD d)) ∧ w.grownBy w' none := by
  obtain ⟨du, hdu, hdr⟩ := under26
  have e : onlyD d = ⟨5, nob, 0, nob, nob, d.session, 0, nob, d.seq, d.thr, d.turn, d.fire, d.boost, nob, d.tag⟩ := by rw [onlyD, hk]; rfl
  rw [e]
  unfold dv
  dsimp only
  rw [hk]
  clear e
  generalize d.nonce = x1
  generalize d.epoch = x2
  generalize d.cookie = x3
  generalize d.name = x4
  generalize d.session = x5
  generalize d.player = x6
  generalize d.salt = x7
  generalize d.seq = x8
  generalize d.thr = x9
  generalize d.turn = x10
  generalize d.fire = x11
  generalize d.boost = x12
  generalize d.data = x13
  generalize d.tag = x14
  clear hk
  go_enter Tryz.func13, Tryz.ntmps13
  go_wp2_with fail
  exact ret_cell rfl rfl (mid_has w _ _ [.int .i64 5, .string nob, .int .u64 ((0 : Nat) : Int), .string nob, .string nob, .int .u64 (x5 : Nat), .int .i64 0, .string nob, .int .u64 (x8 : Nat), .int .i64 x9, .int .i64 x10, .bool x11, .bool x12, .string nob, .string x14] 26) hdu hdr info26 rfl ⟨rfl, gr_three w _ _ _⟩
set_option maxHeartbeats 16000000 in
set_option maxRecDepth 100000 in
theorem only_6 (d : Dg) (w : World) (hk : d.kind = 6) :
    Calls Tryz.prog 13 #[dv d] w fun e w' => e = .returned (dv (onlyD d)) ∧ w.grownBy w' none := by
  obtain ⟨du, hdu, hdr⟩ := under26
  have e : onlyD d = ⟨6, nob, 0, nob, nob, d.session, 0, nob, d.seq, 0, 0, false, false, d.data, d.tag⟩ := by rw [onlyD, hk]; rfl
  rw [e]
  unfold dv
  dsimp only
  rw [hk]
  clear e
  generalize d.nonce = x1
  generalize d.epoch = x2
  generalize d.cookie = x3
  generalize d.name = x4
  generalize d.session = x5
  generalize d.player = x6
  generalize d.salt = x7
  generalize d.seq = x8
  generalize d.thr = x9
  generalize d.turn = x10
  generalize d.fire = x11
  generalize d.boost = x12
  generalize d.data = x13
  generalize d.tag = x14
  clear hk
  go_enter Tryz.func13, Tryz.ntmps13
  go_wp2_with fail
  exact ret_cell rfl rfl (mid_has w _ _ [.int .i64 6, .string nob, .int .u64 ((0 : Nat) : Int), .string nob, .string nob, .int .u64 (x5 : Nat), .int .i64 0, .string nob, .int .u64 (x8 : Nat), .int .i64 0, .int .i64 0, .bool false, .bool false, .string x13, .string x14] 26) hdu hdr info26 rfl ⟨rfl, gr_three w _ _ _⟩
set_option maxHeartbeats 16000000 in
set_option maxRecDepth 100000 in
theorem only_7 (d : Dg) (w : World) (hk : d.kind = 7) :
    Calls Tryz.prog 13 #[dv d] w fun e w' => e = .returned (dv (onlyD d)) ∧ w.grownBy w' none := by
  obtain ⟨du, hdu, hdr⟩ := under26
  have e : onlyD d = ⟨7, nob, 0, nob, nob, d.session, 0, nob, d.seq, 0, 0, false, false, nob, d.tag⟩ := by rw [onlyD, hk]; rfl
  rw [e]
  unfold dv
  dsimp only
  rw [hk]
  clear e
  generalize d.nonce = x1
  generalize d.epoch = x2
  generalize d.cookie = x3
  generalize d.name = x4
  generalize d.session = x5
  generalize d.player = x6
  generalize d.salt = x7
  generalize d.seq = x8
  generalize d.thr = x9
  generalize d.turn = x10
  generalize d.fire = x11
  generalize d.boost = x12
  generalize d.data = x13
  generalize d.tag = x14
  clear hk
  go_enter Tryz.func13, Tryz.ntmps13
  go_wp2_with fail
  exact ret_cell rfl rfl (mid_has w _ _ [.int .i64 7, .string nob, .int .u64 ((0 : Nat) : Int), .string nob, .string nob, .int .u64 (x5 : Nat), .int .i64 0, .string nob, .int .u64 (x8 : Nat), .int .i64 0, .int .i64 0, .bool false, .bool false, .string nob, .string x14] 26) hdu hdr info26 rfl ⟨rfl, gr_three w _ _ _⟩
theorem only_c (d : Dg) (w : World) (hk : 1 ≤ d.kind ∧ d.kind ≤ 7) :
    Calls Tryz.prog 13 #[dv d] w fun e w' => e = .returned (dv (onlyD d)) ∧ w.grownBy w' none := by
  have h : d.kind = 1 ∨ d.kind = 2 ∨ d.kind = 3 ∨ d.kind = 4 ∨ d.kind = 5 ∨ d.kind = 6 ∨ d.kind = 7 := by omega
  rcases h with h | h | h | h | h | h | h
  · exact only_1 d w h
  · exact only_2 d w h
  · exact only_3 d w h
  · exact only_4 d w h
  · exact only_5 d w h
  · exact only_6 d w h
  · exact only_7 d w h
end Go.Proofs.YtiphnlfbgbemfaaGreatDoor.Pk

/- the reference's fits -/
namespace Go.Proofs.YtiphnlfbgbemfaaGreatDoor.Pk
open Go Go.RowKit
theorem gr_two (w : World) (a b : Obj) : w.grownBy ((w.alloc a).alloc b) none := (World.grownBy_alloc _ _ _).trans (World.grownBy_alloc _ _ _)
set_option maxHeartbeats 16000000 in
set_option maxRecDepth 100000 in
theorem rfits_1 (d : Dg) (w : World) (hk : d.kind = 1) :
    Calls Tryz.prog 40 #[dv d] w fun e w' => e = .returned (.bool (decide (d.nonce.size = 16))) ∧ w.grownBy w' none := by
  unfold dv
  rw [hk]
  generalize d.nonce = nonce
  generalize d.epoch = epoch
  generalize d.cookie = cookie
  generalize d.name = name
  generalize d.session = session
  generalize d.player = player
  generalize d.salt = salt
  generalize d.seq = seq
  generalize d.thr = thr
  generalize d.turn = turn
  generalize d.fire = fire
  generalize d.boost = boost
  generalize d.data = data
  generalize d.tag = tag
  clear hk
  by_cases c0 : nonce.size = 16
  case neg =>
    rw [decide_eq_false (show ¬ (nonce.size = 16) from fun q => c0 (by omega))]
    have s_nonce : ((nonce.size : Int) != 16) = true := by simp; omega
    have s2_nonce : decide ((nonce.size : Int) = 16) = false := decide_eq_false (by omega)
    have s3_nonce : ((nonce.size : Int) == 16) = false := by simp; omega
    go_enter Tryz.func40, Tryz.ntmps40
    go_wp2_with fail
    go_ret
    exact ⟨rfl, gr_two w _ _⟩
  rw [decide_eq_true (show nonce.size = 16 from by omega)]
  have s_nonce : (nonce.size : Int) = 16 := by omega
  go_enter Tryz.func40, Tryz.ntmps40
  go_wp2_with fail
  go_ret
  exact ⟨rfl, gr_two w _ _⟩
set_option maxHeartbeats 16000000 in
set_option maxRecDepth 100000 in
theorem rfits_2 (d : Dg) (w : World) (hk : d.kind = 2) :
    Calls Tryz.prog 40 #[dv d] w fun e w' => e = .returned (.bool (decide (d.nonce.size = 16 ∧ d.cookie.size = 32))) ∧ w.grownBy w' none := by
  unfold dv
  rw [hk]
  generalize d.nonce = nonce
  generalize d.epoch = epoch
  generalize d.cookie = cookie
  generalize d.name = name
  generalize d.session = session
  generalize d.player = player
  generalize d.salt = salt
  generalize d.seq = seq
  generalize d.thr = thr
  generalize d.turn = turn
  generalize d.fire = fire
  generalize d.boost = boost
  generalize d.data = data
  generalize d.tag = tag
  clear hk
  by_cases c0 : nonce.size = 16
  case neg =>
    rw [decide_eq_false (show ¬ (nonce.size = 16 ∧ cookie.size = 32) from fun q => c0 (by omega))]
    have s_nonce : ((nonce.size : Int) != 16) = true := by simp; omega
    have s2_nonce : decide ((nonce.size : Int) = 16) = false := decide_eq_false (by omega)
    have s3_nonce : ((nonce.size : Int) == 16) = false := by simp; omega
    go_enter Tryz.func40, Tryz.ntmps40
    go_wp2_with fail
    go_ret
    exact ⟨rfl, gr_two w _ _⟩
  by_cases c1 : cookie.size = 32
  case neg =>
    rw [decide_eq_false (show ¬ (nonce.size = 16 ∧ cookie.size = 32) from fun q => c1 (by omega))]
    have s_nonce : (nonce.size : Int) = 16 := by omega
    have s_cookie : ((cookie.size : Int) != 32) = true := by simp; omega
    have s2_cookie : decide ((cookie.size : Int) = 32) = false := decide_eq_false (by omega)
    have s3_cookie : ((cookie.size : Int) == 32) = false := by simp; omega
    go_enter Tryz.func40, Tryz.ntmps40
    go_wp2_with fail
    go_ret
    exact ⟨rfl, gr_two w _ _⟩
  rw [decide_eq_true (show nonce.size = 16 ∧ cookie.size = 32 from by omega)]
  have s_nonce : (nonce.size : Int) = 16 := by omega
  have s_cookie : (cookie.size : Int) = 32 := by omega
  go_enter Tryz.func40, Tryz.ntmps40
  go_wp2_with fail
  go_ret
  exact ⟨rfl, gr_two w _ _⟩
set_option maxHeartbeats 16000000 in
set_option maxRecDepth 100000 in
theorem rfits_3 (d : Dg) (w : World) (hk : d.kind = 3) :
    Calls Tryz.prog 40 #[dv d] w fun e w' => e = .returned (.bool (decide (d.nonce.size = 16 ∧ d.cookie.size = 32 ∧ d.name.size ≤ 255 ∧ d.tag.size = 32))) ∧ w.grownBy w' none := by
  unfold dv
  rw [hk]
  generalize d.nonce = nonce
  generalize d.epoch = epoch
  generalize d.cookie = cookie
  generalize d.name = name
  generalize d.session = session
  generalize d.player = player
  generalize d.salt = salt
  generalize d.seq = seq
  generalize d.thr = thr
  generalize d.turn = turn
  generalize d.fire = fire
  generalize d.boost = boost
  generalize d.data = data
  generalize d.tag = tag
  clear hk
  by_cases c0 : nonce.size = 16
  case neg =>
    rw [decide_eq_false (show ¬ (nonce.size = 16 ∧ cookie.size = 32 ∧ name.size ≤ 255 ∧ tag.size = 32) from fun q => c0 (by omega))]
    have s_nonce : ((nonce.size : Int) != 16) = true := by simp; omega
    have s2_nonce : decide ((nonce.size : Int) = 16) = false := decide_eq_false (by omega)
    have s3_nonce : ((nonce.size : Int) == 16) = false := by simp; omega
    go_enter Tryz.func40, Tryz.ntmps40
    go_wp2_with fail
    go_ret
    exact ⟨rfl, gr_two w _ _⟩
  by_cases c1 : cookie.size = 32
  case neg =>
    rw [decide_eq_false (show ¬ (nonce.size = 16 ∧ cookie.size = 32 ∧ name.size ≤ 255 ∧ tag.size = 32) from fun q => c1 (by omega))]
    have s_nonce : (nonce.size : Int) = 16 := by omega
    have s_cookie : ((cookie.size : Int) != 32) = true := by simp; omega
    have s2_cookie : decide ((cookie.size : Int) = 32) = false := decide_eq_false (by omega)
    have s3_cookie : ((cookie.size : Int) == 32) = false := by simp; omega
    go_enter Tryz.func40, Tryz.ntmps40
    go_wp2_with fail
    go_ret
    exact ⟨rfl, gr_two w _ _⟩
  by_cases c2 : name.size ≤ 255
  case neg =>
    rw [decide_eq_false (show ¬ (nonce.size = 16 ∧ cookie.size = 32 ∧ name.size ≤ 255 ∧ tag.size = 32) from fun q => c2 (by omega))]
    have s_nonce : (nonce.size : Int) = 16 := by omega
    have s_cookie : (cookie.size : Int) = 32 := by omega
    have s_name : 255 < (name.size : Int) := by omega
    have s2_name : decide (255 < (name.size : Int)) = true := decide_eq_true (by omega)
    go_enter Tryz.func40, Tryz.ntmps40
    go_wp2_with fail
    go_ret
    exact ⟨rfl, gr_two w _ _⟩
  by_cases c3 : tag.size = 32
  case neg =>
    rw [decide_eq_false (show ¬ (nonce.size = 16 ∧ cookie.size = 32 ∧ name.size ≤ 255 ∧ tag.size = 32) from fun q => c3 (by omega))]
    have s_nonce : (nonce.size : Int) = 16 := by omega
    have s_cookie : (cookie.size : Int) = 32 := by omega
    have s_name : ¬ 255 < (name.size : Int) := by omega
    have s2_name : decide (255 < (name.size : Int)) = false := decide_eq_false (by omega)
    have s_tag : ((tag.size : Int) != 32) = true := by simp; omega
    have s2_tag : decide ((tag.size : Int) = 32) = false := decide_eq_false (by omega)
    have s3_tag : ((tag.size : Int) == 32) = false := by simp; omega
    go_enter Tryz.func40, Tryz.ntmps40
    go_wp2_with fail
    go_ret
    exact ⟨rfl, gr_two w _ _⟩
  rw [decide_eq_true (show nonce.size = 16 ∧ cookie.size = 32 ∧ name.size ≤ 255 ∧ tag.size = 32 from by omega)]
  have s_nonce : (nonce.size : Int) = 16 := by omega
  have s_cookie : (cookie.size : Int) = 32 := by omega
  have s_name : ¬ 255 < (name.size : Int) := by omega
  have s2_name : decide (255 < (name.size : Int)) = false := decide_eq_false (by omega)
  have s_tag : (tag.size : Int) = 32 := by omega
  go_enter Tryz.func40, Tryz.ntmps40
  go_wp2_with fail
  go_ret
  exact ⟨rfl, gr_two w _ _⟩
set_option maxHeartbeats 16000000 in
set_option maxRecDepth 100000 in
theorem rfits_4 (d : Dg) (w : World) (hk : d.kind = 4) :
    Calls Tryz.prog 40 #[dv d] w fun e w' => e = .returned (.bool (decide (d.nonce.size = 16 ∧ d.salt.size = 16 ∧ 0 ≤ d.player ∧ d.player ≤ 255 ∧ d.tag.size = 32))) ∧ w.grownBy w' none := by
  unfold dv
  rw [hk]
  generalize d.nonce = nonce
  generalize d.epoch = epoch
  generalize d.cookie = cookie
  generalize d.name = name
  generalize d.session = session
  generalize d.player = player
  generalize d.salt = salt
  generalize d.seq = seq
  generalize d.thr = thr
  generalize d.turn = turn
  generalize d.fire = fire
  generalize d.boost = boost
  generalize d.data = data
  generalize d.tag = tag
  clear hk
  by_cases c0 : nonce.size = 16
  case neg =>
    rw [decide_eq_false (show ¬ (nonce.size = 16 ∧ salt.size = 16 ∧ 0 ≤ player ∧ player ≤ 255 ∧ tag.size = 32) from fun q => c0 (by omega))]
    have s_nonce : ((nonce.size : Int) != 16) = true := by simp; omega
    have s2_nonce : decide ((nonce.size : Int) = 16) = false := decide_eq_false (by omega)
    have s3_nonce : ((nonce.size : Int) == 16) = false := by simp; omega
    go_enter Tryz.func40, Tryz.ntmps40
    go_wp2_with fail
    go_ret
    exact ⟨rfl, gr_two w _ _⟩
  by_cases c1 : salt.size = 16
  case neg =>
    rw [decide_eq_false (show ¬ (nonce.size = 16 ∧ salt.size = 16 ∧ 0 ≤ player ∧ player ≤ 255 ∧ tag.size = 32) from fun q => c1 (by omega))]
    have s_nonce : (nonce.size : Int) = 16 := by omega
    have s_salt : ((salt.size : Int) != 16) = true := by simp; omega
    have s2_salt : decide ((salt.size : Int) = 16) = false := decide_eq_false (by omega)
    have s3_salt : ((salt.size : Int) == 16) = false := by simp; omega
    go_enter Tryz.func40, Tryz.ntmps40
    go_wp2_with fail
    go_ret
    exact ⟨rfl, gr_two w _ _⟩
  by_cases c2 : 0 ≤ player
  case neg =>
    rw [decide_eq_false (show ¬ (nonce.size = 16 ∧ salt.size = 16 ∧ 0 ≤ player ∧ player ≤ 255 ∧ tag.size = 32) from fun q => c2 (by omega))]
    have s_nonce : (nonce.size : Int) = 16 := by omega
    have s_salt : (salt.size : Int) = 16 := by omega
    have l_player : player < 0 := by omega
    go_enter Tryz.func40, Tryz.ntmps40
    go_wp2_with fail
    go_ret
    exact ⟨rfl, gr_two w _ _⟩
  by_cases c3 : player ≤ 255
  case neg =>
    rw [decide_eq_false (show ¬ (nonce.size = 16 ∧ salt.size = 16 ∧ 0 ≤ player ∧ player ≤ 255 ∧ tag.size = 32) from fun q => c3 (by omega))]
    have s_nonce : (nonce.size : Int) = 16 := by omega
    have s_salt : (salt.size : Int) = 16 := by omega
    have l_player : ¬ player < 0 := by omega
    have h_player : 255 < player := by omega
    go_enter Tryz.func40, Tryz.ntmps40
    go_wp2_with fail
    go_ret
    exact ⟨rfl, gr_two w _ _⟩
  by_cases c4 : tag.size = 32
  case neg =>
    rw [decide_eq_false (show ¬ (nonce.size = 16 ∧ salt.size = 16 ∧ 0 ≤ player ∧ player ≤ 255 ∧ tag.size = 32) from fun q => c4 (by omega))]
    have s_nonce : (nonce.size : Int) = 16 := by omega
    have s_salt : (salt.size : Int) = 16 := by omega
    have l_player : ¬ player < 0 := by omega
    have h_player : ¬ 255 < player := by omega
    have s_tag : ((tag.size : Int) != 32) = true := by simp; omega
    have s2_tag : decide ((tag.size : Int) = 32) = false := decide_eq_false (by omega)
    have s3_tag : ((tag.size : Int) == 32) = false := by simp; omega
    go_enter Tryz.func40, Tryz.ntmps40
    go_wp2_with fail
    go_ret
    exact ⟨rfl, gr_two w _ _⟩
  rw [decide_eq_true (show nonce.size = 16 ∧ salt.size = 16 ∧ 0 ≤ player ∧ player ≤ 255 ∧ tag.size = 32 from by omega)]
  have s_nonce : (nonce.size : Int) = 16 := by omega
  have s_salt : (salt.size : Int) = 16 := by omega
  have l_player : ¬ player < 0 := by omega
  have h_player : ¬ 255 < player := by omega
  have s_tag : (tag.size : Int) = 32 := by omega
  go_enter Tryz.func40, Tryz.ntmps40
  go_wp2_with fail
  go_ret
  exact ⟨rfl, gr_two w _ _⟩
set_option maxHeartbeats 16000000 in
set_option maxRecDepth 100000 in
theorem rfits_5 (d : Dg) (w : World) (hk : d.kind = 5) :
    Calls Tryz.prog 40 #[dv d] w fun e w' => e = .returned (.bool (decide (-128 ≤ d.thr ∧ d.thr ≤ 127 ∧ -128 ≤ d.turn ∧ d.turn ≤ 127 ∧ d.tag.size = 32))) ∧ w.grownBy w' none := by
  unfold dv
  rw [hk]
  generalize d.nonce = nonce
  generalize d.epoch = epoch
  generalize d.cookie = cookie
  generalize d.name = name
  generalize d.session = session
  generalize d.player = player
  generalize d.salt = salt
  generalize d.seq = seq
  generalize d.thr = thr
  generalize d.turn = turn
  generalize d.fire = fire
  generalize d.boost = boost
  generalize d.data = data
  generalize d.tag = tag
  clear hk
  by_cases c0 : -128 ≤ thr
  case neg =>
    rw [decide_eq_false (show ¬ (-128 ≤ thr ∧ thr ≤ 127 ∧ -128 ≤ turn ∧ turn ≤ 127 ∧ tag.size = 32) from fun q => c0 (by omega))]
    have l_thr : thr < -128 := by omega
    go_enter Tryz.func40, Tryz.ntmps40
    go_wp2_with fail
    go_ret
    exact ⟨rfl, gr_two w _ _⟩
  by_cases c1 : thr ≤ 127
  case neg =>
    rw [decide_eq_false (show ¬ (-128 ≤ thr ∧ thr ≤ 127 ∧ -128 ≤ turn ∧ turn ≤ 127 ∧ tag.size = 32) from fun q => c1 (by omega))]
    have l_thr : ¬ thr < -128 := by omega
    have h_thr : 127 < thr := by omega
    go_enter Tryz.func40, Tryz.ntmps40
    go_wp2_with fail
    go_ret
    exact ⟨rfl, gr_two w _ _⟩
  by_cases c2 : -128 ≤ turn
  case neg =>
    rw [decide_eq_false (show ¬ (-128 ≤ thr ∧ thr ≤ 127 ∧ -128 ≤ turn ∧ turn ≤ 127 ∧ tag.size = 32) from fun q => c2 (by omega))]
    have l_thr : ¬ thr < -128 := by omega
    have h_thr : ¬ 127 < thr := by omega
    have l_turn : turn < -128 := by omega
    go_enter Tryz.func40, Tryz.ntmps40
    go_wp2_with fail
    go_ret
    exact ⟨rfl, gr_two w _ _⟩
  by_cases c3 : turn ≤ 127
  case neg =>
    rw [decide_eq_false (show ¬ (-128 ≤ thr ∧ thr ≤ 127 ∧ -128 ≤ turn ∧ turn ≤ 127 ∧ tag.size = 32) from fun q => c3 (by omega))]
    have l_thr : ¬ thr < -128 := by omega
    have h_thr : ¬ 127 < thr := by omega
    have l_turn : ¬ turn < -128 := by omega
    have h_turn : 127 < turn := by omega
    go_enter Tryz.func40, Tryz.ntmps40
    go_wp2_with fail
    go_ret
    exact ⟨rfl, gr_two w _ _⟩
  by_cases c4 : tag.size = 32
  case neg =>
    rw [decide_eq_false (show ¬ (-128 ≤ thr ∧ thr ≤ 127 ∧ -128 ≤ turn ∧ turn ≤ 127 ∧ tag.size = 32) from fun q => c4 (by omega))]
    have l_thr : ¬ thr < -128 := by omega
    have h_thr : ¬ 127 < thr := by omega
    have l_turn : ¬ turn < -128 := by omega
    have h_turn : ¬ 127 < turn := by omega
    have s_tag : ((tag.size : Int) != 32) = true := by simp; omega
    have s2_tag : decide ((tag.size : Int) = 32) = false := decide_eq_false (by omega)
    have s3_tag : ((tag.size : Int) == 32) = false := by simp; omega
    go_enter Tryz.func40, Tryz.ntmps40
    go_wp2_with fail
    go_ret
    exact ⟨rfl, gr_two w _ _⟩
  rw [decide_eq_true (show -128 ≤ thr ∧ thr ≤ 127 ∧ -128 ≤ turn ∧ turn ≤ 127 ∧ tag.size = 32 from by omega)]
  have l_thr : ¬ thr < -128 := by omega
  have h_thr : ¬ 127 < thr := by omega
  have l_turn : ¬ turn < -128 := by omega
  have h_turn : ¬ 127 < turn := by omega
  have s_tag : (tag.size : Int) = 32 := by omega
  go_enter Tryz.func40, Tryz.ntmps40
  go_wp2_with fail
  go_ret
  exact ⟨rfl, gr_two w _ _⟩
set_option maxHeartbeats 16000000 in
set_option maxRecDepth 100000 in
theorem rfits_6 (d : Dg) (w : World) (hk : d.kind = 6) :
    Calls Tryz.prog 40 #[dv d] w fun e w' => e = .returned (.bool (decide (d.tag.size = 32))) ∧ w.grownBy w' none := by
  unfold dv
  rw [hk]
  generalize d.nonce = nonce
  generalize d.epoch = epoch
  generalize d.cookie = cookie
  generalize d.name = name
  generalize d.session = session
  generalize d.player = player
  generalize d.salt = salt
  generalize d.seq = seq
  generalize d.thr = thr
  generalize d.turn = turn
  generalize d.fire = fire
  generalize d.boost = boost
  generalize d.data = data
  generalize d.tag = tag
  clear hk
  by_cases c0 : tag.size = 32
  case neg =>
    rw [decide_eq_false (show ¬ (tag.size = 32) from fun q => c0 (by omega))]
    have s_tag : ((tag.size : Int) != 32) = true := by simp; omega
    have s2_tag : decide ((tag.size : Int) = 32) = false := decide_eq_false (by omega)
    have s3_tag : ((tag.size : Int) == 32) = false := by simp; omega
    go_enter Tryz.func40, Tryz.ntmps40
    go_wp2_with fail
    go_ret
    exact ⟨rfl, gr_two w _ _⟩
  rw [decide_eq_true (show tag.size = 32 from by omega)]
  have s_tag : (tag.size : Int) = 32 := by omega
  go_enter Tryz.func40, Tryz.ntmps40
  go_wp2_with fail
  go_ret
  exact ⟨rfl, gr_two w _ _⟩
set_option maxHeartbeats 16000000 in
set_option maxRecDepth 100000 in
theorem rfits_7 (d : Dg) (w : World) (hk : d.kind = 7) :
    Calls Tryz.prog 40 #[dv d] w fun e w' => e = .returned (.bool (decide (d.tag.size = 32))) ∧ w.grownBy w' none := by
  unfold dv
  rw [hk]
  generalize d.nonce = nonce
  generalize d.epoch = epoch
  generalize d.cookie = cookie
  generalize d.name = name
  generalize d.session = session
  generalize d.player = player
  generalize d.salt = salt
  generalize d.seq = seq
  generalize d.thr = thr
  generalize d.turn = turn
  generalize d.fire = fire
  generalize d.boost = boost
  generalize d.data = data
  generalize d.tag = tag
  clear hk
  by_cases c0 : tag.size = 32
  case neg =>
    rw [decide_eq_false (show ¬ (tag.size = 32) from fun q => c0 (by omega))]
    have s_tag : ((tag.size : Int) != 32) = true := by simp; omega
    have s2_tag : decide ((tag.size : Int) = 32) = false := decide_eq_false (by omega)
    have s3_tag : ((tag.size : Int) == 32) = false := by simp; omega
    go_enter Tryz.func40, Tryz.ntmps40
    go_wp2_with fail
    go_ret
    exact ⟨rfl, gr_two w _ _⟩
  rw [decide_eq_true (show tag.size = 32 from by omega)]
  have s_tag : (tag.size : Int) = 32 := by omega
  go_enter Tryz.func40, Tryz.ntmps40
  go_wp2_with fail
  go_ret
  exact ⟨rfl, gr_two w _ _⟩
end Go.Proofs.YtiphnlfbgbemfaaGreatDoor.Pk

