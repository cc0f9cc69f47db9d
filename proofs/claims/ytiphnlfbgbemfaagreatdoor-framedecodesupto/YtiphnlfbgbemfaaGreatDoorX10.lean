import Derived.Test.YtiphnlfbgbemfaaGreatDoorX9
import Derived.Test.YtiphnlfbgbemfaaGreatDoorX8
/- the laws' alive -/
namespace Go.Proofs.YtiphnlfbgbemfaaGreatDoor.Pk
open Go Go.RowKit

def S0 : ByteArray := ba S0L
def T0 : ByteArray := ba (h0L ++ mK)
def H0 : ByteArray := ba h0L
def Z7 : ByteArray := ba (List.replicate 7 0)
def T32 : ByteArray := ba (List.replicate 32 116)
theorem hmacB_mk (k t : ByteArray) : hmacB k t = ba (Mac.hmac (sl k) (sl t)) := rfl
set_option maxRecDepth 100000 in
theorem dec0 : (dec (h0L ++ mK)).2 = 0 := by kernel_rfl
set_option maxRecDepth 100000 in
theorem seq0 : (dec (h0L ++ mK)).1.seq = 2 := by kernel_rfl
set_option maxRecDepth 100000 in
theorem bodyT0 : bodyL (h0L ++ mK) = h0L := by kernel_rfl
theorem bodyBb : bodyB (ba (h0L ++ List.replicate 32 0)) = H0 := by
  rw [bodyB, show sl (ba (h0L ++ List.replicate 32 0)) = h0L ++ List.replicate 32 0 from sl_mk _, bodyb0]; rfl
theorem bodyBT : bodyB T0 = H0 := by rw [bodyB, T0, show sl (ba (h0L ++ mK)) = h0L ++ mK from sl_mk _, bodyT0]; rfl
theorem bodyBS : bodyB S0 = H0 := by rw [bodyB, S0, show sl (ba S0L) = S0L from sl_mk _, body0]; rfl
theorem slx (s : ByteArray) (m : Nat) : sl (s.extract m s.size) = (sl s).drop m := sl_extract s m
theorem mK_eq : H0 ++ hmacB kB H0 = T0 := by
  apply sl_inj
  have e : sl (hmacB kB H0) = mK := hmacB_sl kB H0
  rw [sl_app, e, show sl H0 = h0L from sl_mk _, show sl T0 = h0L ++ mK from sl_mk _]
theorem seal0 : sealD d0 kB = (T0, 0) := by
  have e : enc d0.bare = (h0L ++ List.replicate 32 0, 0) := encb0
  rw [sealD, if_pos (by decide), e, if_pos rfl]
  dsimp only
  rw [bodyBb, mK_eq]
theorem ext0 : T0.extract H0.size T0.size = ba mK := by
  apply sl_inj
  rw [slx, show sl T0 = h0L ++ mK from sl_mk _, show H0.size = h0L.length from ba_size _, List.drop_left]
  exact (sl_mk _).symm
theorem extS : S0.extract H0.size S0.size = ba (List.replicate 32 116) := by
  apply sl_inj
  rw [slx, show sl S0 = h0L ++ List.replicate 32 116 from sl_mk _, show H0.size = h0L.length from ba_size _, List.drop_left]
  exact (sl_mk _).symm
theorem ba_inj {a b : List UInt8} (h : ba a = ba b) : a = b := by
  have := congrArg sl h
  rw [show sl (ba a) = a from sl_mk _, show sl (ba b) = b from sl_mk _] at this
  exact this
theorem h0_ne : H0 ≠ nob := fun e => by
  have := ba_inj (b := []) e
  cases this
theorem sk0 : sealed T0 kB = true := by
  unfold sealed
  rw [bodyBT, ext0]
  exact decide_eq_true ⟨h0_ne, rfl⟩
theorem sl0 : sealed T0 lB = false := by
  unfold sealed
  rw [bodyBT, ext0]
  refine decide_eq_false (fun h => ?_)
  have e : mK = mL := ba_inj h.2
  have := mKL
  rw [e] at this
  simp at this
theorem ss0 : sealed S0 kB = false := by
  unfold sealed
  rw [bodyBS, extS]
  refine decide_eq_false (fun h => ?_)
  have e : List.replicate 32 116 = mK := ba_inj h.2
  have := mKT
  rw [← e] at this
  simp at this
theorem d0_fine : d0.fine := ⟨by decide, by decide, by decide, by decide, by decide, by decide, by decide⟩
theorem d0_small : d0.small := ⟨by decide, by decide, by decide, by decide, by decide, by decide⟩
set_option maxHeartbeats 16000000 in
set_option maxRecDepth 100000 in
theorem alive_c (w : World) (hk : Kc w) :
    Calls Tryz.prog 9 #[] w fun e w' => e = .returned (.bool true) ∧ w.grownBy w' none := by
  obtain ⟨du, hdu, hdr⟩ := under26
  have HK := Keep.mk hk
  have HD : Keep (d0.fine ∧ d0.small) := ⟨d0_fine, d0_small⟩
  obtain ⟨S, hS⟩ : ∃ S, S0 = S := ⟨_, rfl⟩
  obtain ⟨T, hT⟩ : ∃ T, T32 = T := ⟨_, rfl⟩
  obtain ⟨U, hU⟩ : ∃ U, T0 = U := ⟨_, rfl⟩
  obtain ⟨H, hH⟩ : ∃ H, H0 = H := ⟨_, rfl⟩
  obtain ⟨Z, hZ⟩ : ∃ Z, Z7 = Z := ⟨_, rfl⟩
  obtain ⟨dT, hdT⟩ : ∃ x, (dec (h0L ++ mK)).1 = x := ⟨_, rfl⟩
  obtain ⟨D0, hD0⟩ : ∃ x, d0.cells = x := ⟨_, rfl⟩
  have HT : Keep (∀ W, Calls Tryz.prog 15 #[.int .u8 116, .int .i64 32] W fun e w' => e = .returned (.string T) ∧ W.grownBy w' none) := ⟨fun W => by rw [← hT]; exact times_c 116 116 rfl 32 (by decide) W⟩
  have HZ : Keep (∀ W, Calls Tryz.prog 15 #[.int .u8 0, .int .i64 7] W fun e w' => e = .returned (.string Z) ∧ W.grownBy w' none) := ⟨fun W => by rw [← hZ]; exact times_c 0 0 rfl 7 (by decide) W⟩
  have HE : Keep (∀ W, Calls Tryz.prog 12 #[.agg D0.toArray] W fun e w' => e = .returned (.tuple #[.string S, .int .i64 0]) ∧ W.grownBy w' none) := ⟨fun W => by rw [← hS, ← hD0]; have := encode_c d0 HD.out.1 HD.out.2 W; rw [enc0] at this; exact this⟩
  have HSE : Keep (∀ W, Kc W → Calls Tryz.prog 10 #[.agg D0.toArray, .string { data := #[107] }] W fun e w' => e = .returned (.tuple #[.string U, .int .i64 0]) ∧ W.grownBy w' none) := ⟨fun W hk => by rw [← hU, ← hD0]; have := seal_c d0 kB HD.out.1 HD.out.2 W hk (by decide); rw [seal0] at this; exact this⟩
  have hTs : sl T0 = h0L ++ mK := sl_mk _
  have hsz : T0.size = 55 := by rw [← sl_len, hTs, List.length_append, mKl]; rfl
  have HDE : Keep (∀ W, Calls Tryz.prog 11 #[.string U] W fun e w' => e = .returned (.tuple #[.agg dT.cells.toArray, .int .i64 0]) ∧ W.grownBy w' none) := ⟨fun W => by rw [← hU, ← hdT]; have := decode_c T0 W (by rw [hsz]; decide); rw [hTs, dec0] at this; exact this⟩
  have HBO : Keep (∀ W, Calls Tryz.prog 14 #[.string S] W fun e w' => e = .returned (.string H) ∧ W.grownBy w' none) := ⟨fun W => by rw [← hS, ← hH]; have := body_c S0 W (by decide); rw [bodyBS] at this; exact this⟩
  have HSK : Keep (∀ W, Kc W → Calls Tryz.prog 18 #[.string U, .string { data := #[107] }] W fun e w' => e = .returned (.bool true) ∧ W.grownBy w' none) := ⟨fun W hk => by rw [← hU]; have := sealed_c T0 kB W hk (by rw [hsz]; decide) (by decide); rw [sk0] at this; exact this⟩
  have HSL : Keep (∀ W, Kc W → Calls Tryz.prog 18 #[.string U, .string { data := #[108] }] W fun e w' => e = .returned (.bool false) ∧ W.grownBy w' none) := ⟨fun W hk => by rw [← hU]; have := sealed_c T0 lB W hk (by rw [hsz]; decide) (by decide); rw [sl0] at this; exact this⟩
  have HSS : Keep (∀ W, Kc W → Calls Tryz.prog 18 #[.string S, .string { data := #[107] }] W fun e w' => e = .returned (.bool false) ∧ W.grownBy w' none) := ⟨fun W hk => by rw [← hS]; have := sealed_c S0 kB W hk (by decide) (by decide); rw [ss0] at this; exact this⟩
  obtain ⟨A1, hA1⟩ : ∃ x, ({ data := #[74, 48, 49, 5] } : ByteArray) ++ Z = x := ⟨_, rfl⟩
  obtain ⟨A2, hA2⟩ : ∃ x, A1 ++ ({ data := #[1] } : ByteArray) = x := ⟨_, rfl⟩
  obtain ⟨A3, hA3⟩ : ∃ x, A2 ++ Z = x := ⟨_, rfl⟩
  obtain ⟨A4, hA4⟩ : ∃ x, A3 ++ ({ data := #[2, 255, 5, 1] } : ByteArray) = x := ⟨_, rfl⟩
  obtain ⟨A5, hA5⟩ : ∃ x, A4 ++ T = x := ⟨_, rfl⟩
  have zZ : Z.size = 7 := by rw [← hZ]; exact ba_size _
  have zT : T.size = 32 := by rw [← hT]; exact ba_size _
  have s1 : A1.size = 11 := by rw [← hA1, ByteArray.size_append, zZ]; rfl
  have s2 : A2.size = 12 := by rw [← hA2, ByteArray.size_append, s1]; rfl
  have s3 : A3.size = 19 := by rw [← hA3, ByteArray.size_append, s2, zZ]
  have s4 : A4.size = 23 := by rw [← hA4, ByteArray.size_append, s3]; rfl
  have b1 : ∀ W, (Op.stringOp .add { data := #[74, 48, 49, 5] } Z).run Tryz.prog W = .ok (.string A1) W := fun W => by rw [← hA1]; exact addS _ _ (by rw [zZ]; decide) W
  have b2 : ∀ W, (Op.stringOp .add A1 { data := #[1] }).run Tryz.prog W = .ok (.string A2) W := fun W => by rw [← hA2]; exact addS _ _ (by rw [s1]; decide) W
  have b3 : ∀ W, (Op.stringOp .add A2 Z).run Tryz.prog W = .ok (.string A3) W := fun W => by rw [← hA3]; exact addS _ _ (by rw [s2, zZ]; decide) W
  have b4 : ∀ W, (Op.stringOp .add A3 { data := #[2, 255, 5, 1] }).run Tryz.prog W = .ok (.string A4) W := fun W => by rw [← hA4]; exact addS _ _ (by rw [s3]; decide) W
  have b5 : ∀ W, (Op.stringOp .add A4 T).run Tryz.prog W = .ok (.string A5) W := fun W => by rw [← hA5]; exact addS _ _ (by rw [s4, zT]; decide) W
  have hEq : (S.toList == A5.toList) = true := by
    rw [eqS]
    refine decide_eq_true ?_
    apply sl_inj
    rw [← hA5, ← hA4, ← hA3, ← hA2, ← hA1, ← hS, ← hZ, ← hT]
    simp only [sl_app]
    rfl
  have hlen : S.size = 55 := by rw [← hS]; exact ba_size _
  have hext : S.extract 0 23 = H := by
    rw [ext_to, ← hS, ← hH, show sl S0 = S0L from sl_mk _]; rfl
  have hHH : (H.toList == H.toList) = true := by simp
  have HTL : Keep ((Tryz.prog.info? 26).map (·.size) = some dT.cells.toArray.size ∧ dT.cells.toArray.all (·.oneCell') = true ∧ dT.cells[8]? = some (.int .u64 2) ∧ dT.cells.length = 15) := ⟨info26, by simp [Dg.cells, Value.oneCell'], by rw [← hdT]; show some (Value.int .u64 ((dec (h0L ++ mK)).1.seq : Nat)) = _; rw [seq0]; rfl, rfl⟩
  have HD0 : Keep (D0.length = 15) := ⟨by rw [← hD0]; rfl⟩
  have hcells : ∀ W : World, W.alloc (.cells #[.int .i64 5, .string { data := #[] }, .int .u64 0, .string { data := #[] }, .string { data := #[] }, .int .u64 1, .int .i64 0, .string { data := #[] }, .int .u64 2, .int .i64 (-1), .int .i64 5, .bool true, .bool false, .string { data := #[] }, .string T] 26) = W.alloc (.cells D0.toArray 26) := fun W => by rw [← hD0, ← hT]; rfl
  have HC := Keep.mk hcells
  clear hk hS hU hH hZ hTs hsz hA1 hA2 hA3 hA4 hA5 zZ zT s1 s2 s3 s4 hcells hT hD0
  generalize dT.cells = D at HDE HTL
  clear hdT dT
  go_enter Tryz.func9, Tryz.ntmps9
  go_wp2_with fail
  refine (HT.out w).mono ?_
  rintro e w1 ⟨rfl, g1⟩
  obtain ⟨w2, hw2⟩ : ∃ q, w1.alloc (.cells #[.int .i64 5, .string { data := #[] }, .int .u64 0, .string { data := #[] }, .string { data := #[] }, .int .u64 1, .int .i64 0, .string { data := #[] }, .int .u64 2, .int .i64 (-1), .int .i64 5, .bool true, .bool false, .string { data := #[] }, .string T] 26) = q := ⟨_, rfl⟩
  obtain ⟨b0, hb0⟩ : ∃ q, w1.heap.size = q := ⟨_, rfl⟩
  have HW2 : Keep (Has w2 b0 D0 26 ∧ w.grownBy w2 none) := by
    rw [HC.out] at hw2
    exact ⟨by rw [← hw2, ← hb0]; exact Has.new w1 _ 26, by rw [← hw2]; exact g1.trans (World.grownBy_alloc _ _ _)⟩
  clear g1
  go_wp2_with (refine wpList_load_mid rfl 26 _ rfl _ _ rfl D0 _ HW2.out.1.range hdu hdr (by rw [HD0.out]; exact info26) ?_)
  refine (HE.out w2).mono ?_
  rintro e w3 ⟨rfl, g3⟩
  have HW3 : Keep (Has w3 b0 D0 26 ∧ w.grownBy w3 none) := ⟨HW2.out.1.kept g3 (by simp), HW2.out.2.trans g3⟩
  clear g3
  go_wp2_with (refine wpList_load_mid rfl 26 _ rfl _ _ rfl D0 _ HW3.out.1.range hdu hdr (by rw [HD0.out]; exact info26) ?_)
  refine (HSE.out w3 (HK.out.kept HW3.out.2 (by simp))).mono ?_
  rintro e w4 ⟨rfl, g4⟩
  have HW4 : Keep (w.grownBy w4 none) := ⟨HW3.out.2.trans g4⟩
  clear g4
  go_wp2_with fail
  refine (HDE.out w4).mono ?_
  rintro e w5 ⟨rfl, g5⟩
  have HW5 : Keep (w.grownBy w5 none) := ⟨HW4.out.trans g5⟩
  clear g5
  go_wp2_with (
    (refine wpList_store_mid rfl 26 _ _ rfl _ _ _ rfl rfl ((Has.newA w5 _ 26).there 0 _ (by rw [List.size_toArray, HTL.out.2.2.2]; exact Nat.le_refl 15)) HTL.out.1 HTL.out.2.1 ?_
     generalize hw6 : World.setCells _ _ _ _ = w6
     have HW6 : Keep (Has w6 w5.heap.size D 26 ∧ w.grownBy w6 none) := by
       rw [← hw6]
       exact ⟨(Has.newA w5 _ 26).setAll D (by rw [HTL.out.2.2.2]; rfl), gr_new (HW5.out.trans (World.grownBy_alloc _ _ _)) (gr_sets _ _ _ _) HW5.out.size⟩
     clear hw6))
  obtain ⟨tb, htb⟩ : ∃ q, w5.heap.size = q := ⟨_, rfl⟩
  rw [htb] at HW6 ⊢
  have HW7 : Keep (Has w6.drew tb D 26 ∧ w.grownBy w6.drew none) := ⟨HW6.out.1.kept (gr_drew _ none) (by simp), HW6.out.2.trans (gr_drew _ _)⟩
  refine wp_region_held_drew (S := fun w' => Has w' tb D 26 ∧ w.grownBy w' none) (by kernel_rfl) HW7.out (fun hHeld => ?_)
  refine wpAnyH_take (i := 0) (oi := _) (v := ?_) rfl (by kernel_rfl) (by kernel_rfl) (by kernel_rfl) (fun _ _ _ h => h) (Or.inl ⟨by rfl, ?_⟩) (by assumption) ?_
  rotate_left
  · (intro w hSw; go_simp; first | done | (with_reducible rfl))
  simp only [Act.put, List.getElem_toArray, List.getElem_cons_zero, List.setIfInBounds_toArray, List.set_cons_zero, List.set_cons_succ]
  refine wpAnyH_take (i := 1) (oi := _) (v := ?_) rfl (by kernel_rfl) (by kernel_rfl) (by kernel_rfl) (fun _ _ _ h => h) (Or.inl ⟨by rfl, ?_⟩) (by assumption) ?_
  rotate_left
  · (intro w hSw; go_simp; first | done | (with_reducible rfl))
  simp only [Act.put, List.getElem_toArray, List.getElem_cons_succ, List.getElem_cons_zero, List.setIfInBounds_toArray, List.set_cons_zero, List.set_cons_succ]
  refine wpAnyH_take (i := 2) (oi := _) (v := ?_) rfl (by kernel_rfl) (by kernel_rfl) (by kernel_rfl) (fun _ _ _ h => h) (Or.inl ⟨by rfl, ?_⟩) (by assumption) ?_
  rotate_left
  · (intro w hSw; go_simp; first | done | (with_reducible rfl))
  simp only [Act.put, List.getElem_toArray, List.getElem_cons_succ, List.getElem_cons_zero, List.setIfInBounds_toArray, List.set_cons_zero, List.set_cons_succ]
  refine wpAnyH_take (i := 3) (oi := _) (v := ?_) rfl (by kernel_rfl) (by kernel_rfl) (by kernel_rfl) (fun _ _ _ h => h) (Or.inl ⟨by rfl, ?_⟩) (by assumption) ?_
  rotate_left
  · (intro w hSw; go_simp; first | done | (with_reducible rfl))
  simp only [Act.put, List.getElem_toArray, List.getElem_cons_succ, List.getElem_cons_zero, List.setIfInBounds_toArray, List.set_cons_zero, List.set_cons_succ]
  refine wpAnyH_take (i := 4) (oi := _) (v := ?_) rfl (by kernel_rfl) (by kernel_rfl) (by kernel_rfl) (fun _ _ _ h => h) (Or.inl ⟨by rfl, ?_⟩) (by assumption) ?_
  rotate_left
  · (intro w hSw; go_simp; first | done | (with_reducible rfl))
  simp only [Act.put, List.getElem_toArray, List.getElem_cons_succ, List.getElem_cons_zero, List.setIfInBounds_toArray, List.set_cons_zero, List.set_cons_succ]
  refine wpAnyH_take (i := 5) (oi := _) (v := ?_) rfl (by kernel_rfl) (by kernel_rfl) (by kernel_rfl) (fun _ _ _ h => h) (Or.inl ⟨by rfl, ?_⟩) (by assumption) ?_
  rotate_left
  · (intro w hSw; go_simp; first | done | (with_reducible rfl))
  simp only [Act.put, List.getElem_toArray, List.getElem_cons_succ, List.getElem_cons_zero, List.setIfInBounds_toArray, List.set_cons_zero, List.set_cons_succ]
  refine wpAnyH_take (i := 6) (oi := _) (v := ?_) rfl (by kernel_rfl) (by kernel_rfl) (by kernel_rfl) (fun _ _ _ h => h) (Or.inl ⟨by rfl, ?_⟩) (by assumption) ?_
  rotate_left
  · (intro w hSw; go_simp; first | done | (with_reducible rfl))
  simp only [Act.put, List.getElem_toArray, List.getElem_cons_succ, List.getElem_cons_zero, List.setIfInBounds_toArray, List.set_cons_zero, List.set_cons_succ]
  refine wpAnyH_take (i := 7) (oi := _) (v := ?_) rfl (by kernel_rfl) (by kernel_rfl) (by kernel_rfl) (fun _ _ _ h => h) (Or.inl ⟨by rfl, ?_⟩) (by assumption) ?_
  rotate_left
  · (intro w hSw; go_simp; first | done | (with_reducible rfl))
  simp only [Act.put, List.getElem_toArray, List.getElem_cons_succ, List.getElem_cons_zero, List.setIfInBounds_toArray, List.set_cons_zero, List.set_cons_succ]
  refine wpAnyH_take (i := 8) (oi := _) (v := ?_) rfl (by kernel_rfl) (by kernel_rfl) (by kernel_rfl) (fun _ _ _ h => h) (Or.inl ⟨by rfl, ?_⟩) (by assumption) ?_
  rotate_left
  · (intro w hSw; go_simp; first | done | (with_reducible rfl))
  simp only [Act.put, List.getElem_toArray, List.getElem_cons_succ, List.getElem_cons_zero, List.setIfInBounds_toArray, List.set_cons_zero, List.set_cons_succ]
  refine wpAnyH_take (i := 9) (oi := _) (v := ?_) rfl (by kernel_rfl) (by kernel_rfl) (by kernel_rfl) (fun _ _ _ h => h) (Or.inl ⟨by rfl, ?_⟩) (by assumption) ?_
  rotate_left
  · (intro w hSw; go_simp; first | done | (with_reducible rfl))
  simp only [Act.put, List.getElem_toArray, List.getElem_cons_succ, List.getElem_cons_zero, List.setIfInBounds_toArray, List.set_cons_zero, List.set_cons_succ]
  refine wpAnyH_take (i := 10) (oi := _) (v := ?_) rfl (by kernel_rfl) (by kernel_rfl) (by kernel_rfl) (fun _ _ _ h => h) (Or.inl ⟨by rfl, ?_⟩) (by assumption) ?_
  rotate_left
  · (intro w hSw; go_simp; first | done | (with_reducible rfl))
  simp only [Act.put, List.getElem_toArray, List.getElem_cons_succ, List.getElem_cons_zero, List.setIfInBounds_toArray, List.set_cons_zero, List.set_cons_succ]
  refine wpAnyH_take (i := 11) (oi := _) (v := ?_) rfl (by kernel_rfl) (by kernel_rfl) (by kernel_rfl) (fun _ _ _ h => h) (Or.inl ⟨by rfl, ?_⟩) (by assumption) ?_
  rotate_left
  · (intro w hSw; go_simp; first | done | (with_reducible rfl))
  simp only [Act.put, List.getElem_toArray, List.getElem_cons_succ, List.getElem_cons_zero, List.setIfInBounds_toArray, List.set_cons_zero, List.set_cons_succ]
  refine wpAnyH_take (i := 12) (oi := _) (v := ?_) rfl (by kernel_rfl) (by kernel_rfl) (by kernel_rfl) (fun _ _ _ h => h) (Or.inl ⟨by rfl, ?_⟩) (by assumption) ?_
  rotate_left
  · (intro w hSw; go_simp; first | done | (with_reducible rfl))
  simp only [Act.put, List.getElem_toArray, List.getElem_cons_succ, List.getElem_cons_zero, List.setIfInBounds_toArray, List.set_cons_zero, List.set_cons_succ]
  refine wpAnyH_take (i := 13) (oi := _) (v := ?_) rfl (by kernel_rfl) (by kernel_rfl) (by kernel_rfl) (fun _ _ _ h => h) (Or.inl ⟨by rfl, ?_⟩) (by assumption) ?_
  rotate_left
  · (intro w hSw; go_simp; first | done | (with_reducible rfl))
  simp only [Act.put, List.getElem_toArray, List.getElem_cons_succ, List.getElem_cons_zero, List.setIfInBounds_toArray, List.set_cons_zero, List.set_cons_succ]
  refine wpAnyH_take (i := 14) (oi := _) (v := ?_) rfl (by kernel_rfl) (by kernel_rfl) (by kernel_rfl) (fun _ _ _ h => h) (Or.inl ⟨by rfl, ?_⟩) (by assumption) ?_
  rotate_left
  · (intro w hSw; go_simp; first | done | (with_reducible rfl))
  simp only [Act.put, List.getElem_toArray, List.getElem_cons_succ, List.getElem_cons_zero, List.setIfInBounds_toArray, List.set_cons_zero, List.set_cons_succ]
  refine wpAnyH_take (i := 15) (oi := _) (v := ?_) rfl (by kernel_rfl) (by kernel_rfl) (by kernel_rfl) (fun _ _ _ h => h) (Or.inl ⟨by rfl, ?_⟩) (by assumption) ?_
  rotate_left
  · (intro w hSw; go_simp; first | done | (with_reducible rfl))
  simp only [Act.put, List.getElem_toArray, List.getElem_cons_succ, List.getElem_cons_zero, List.setIfInBounds_toArray, List.set_cons_zero, List.set_cons_succ]
  refine wpAnyH_take (i := 16) (oi := _) (v := ?_) rfl (by kernel_rfl) (by kernel_rfl) (by kernel_rfl) (fun _ _ _ h => h) (Or.inl ⟨by rfl, ?_⟩) (by assumption) ?_
  rotate_left
  · (intro w hSw; go_simp; first | done | (with_reducible rfl))
  simp only [Act.put, List.getElem_toArray, List.getElem_cons_succ, List.getElem_cons_zero, List.setIfInBounds_toArray, List.set_cons_zero, List.set_cons_succ]
  refine wpAnyH_ready (rs := [17]) (by kernel_rfl) (by simp) ?_
  refine AllReadyH.cons rfl (fun K hK => ?_) AllReadyH.nil
  go_simp
  refine (HZ.out _).mono ?_
  rintro e wn ⟨rfl, gn⟩
  refine hK.out _ _ ⟨hHeld.1.kept gn (by simp), hHeld.2.trans gn⟩ (fun hHeld => ?_)
  clear hK K gn
  refine wpAnyH_take (i := 18) (oi := _) (v := ?_) rfl (by kernel_rfl) (by kernel_rfl) (by kernel_rfl) (fun _ _ _ h => h) (Or.inl ⟨by rfl, ?_⟩) (by assumption) ?_
  rotate_left
  · (intro w hSw; go_simp; first | done | (with_reducible rfl))
  simp only [Act.put, List.getElem_toArray, List.getElem_cons_succ, List.getElem_cons_zero, List.setIfInBounds_toArray, List.set_cons_zero, List.set_cons_succ]
  refine wpAnyH_take (i := 19) (oi := _) (v := ?_) rfl (by kernel_rfl) (by kernel_rfl) (by kernel_rfl) (fun _ _ _ h => h) (Or.inl ⟨by rfl, ?_⟩) (by assumption) ?_
  rotate_left
  · (intro w hSw; go_simp; first | done | (with_reducible rfl))
  simp only [Act.put, List.getElem_toArray, List.getElem_cons_succ, List.getElem_cons_zero, List.setIfInBounds_toArray, List.set_cons_zero, List.set_cons_succ]
  refine wpAnyH_ready (rs := [20]) (by kernel_rfl) (by simp) ?_
  refine AllReadyH.cons rfl (fun K hK => ?_) AllReadyH.nil
  go_simp
  refine (HZ.out _).mono ?_
  rintro e wn ⟨rfl, gn⟩
  refine hK.out _ _ ⟨hHeld.1.kept gn (by simp), hHeld.2.trans gn⟩ (fun hHeld => ?_)
  clear hK K gn
  refine wpAnyH_take (i := 21) (oi := _) (v := ?_) rfl (by kernel_rfl) (by kernel_rfl) (by kernel_rfl) (fun _ _ _ h => h) (Or.inl ⟨by rfl, ?_⟩) (by assumption) ?_
  rotate_left
  · (intro w hSw; go_simp; first | done | (with_reducible rfl))
  simp only [Act.put, List.getElem_toArray, List.getElem_cons_succ, List.getElem_cons_zero, List.setIfInBounds_toArray, List.set_cons_zero, List.set_cons_succ]
  refine wpAnyH_take (i := 22) (oi := _) (v := ?_) rfl (by kernel_rfl) (by kernel_rfl) (by kernel_rfl) (fun _ _ _ h => h) (Or.inl ⟨by rfl, ?_⟩) (by assumption) ?_
  rotate_left
  · (intro w hSw; go_simp; first | done | (with_reducible rfl))
  simp only [Act.put, List.getElem_toArray, List.getElem_cons_succ, List.getElem_cons_zero, List.setIfInBounds_toArray, List.set_cons_zero, List.set_cons_succ]
  refine wpAnyH_ready (rs := [23]) (by kernel_rfl) (by simp) ?_
  refine AllReadyH.cons rfl (fun K hK => ?_) AllReadyH.nil
  go_simp
  refine (HT.out _).mono ?_
  rintro e wn ⟨rfl, gn⟩
  refine hK.out _ _ ⟨hHeld.1.kept gn (by simp), hHeld.2.trans gn⟩ (fun hHeld => ?_)
  clear hK K gn
  refine wpAnyH_take (i := 24) (oi := _) (v := ?_) rfl (by kernel_rfl) (by kernel_rfl) (by kernel_rfl) (fun _ _ _ h => h) (Or.inl ⟨by rfl, ?_⟩) (by assumption) ?_
  rotate_left
  · (intro w hSw; go_simp; first | done | (with_reducible rfl))
  simp only [Act.put, List.getElem_toArray, List.getElem_cons_succ, List.getElem_cons_zero, List.setIfInBounds_toArray, List.set_cons_zero, List.set_cons_succ]
  refine wpAnyH_take (i := 25) (oi := _) (v := ?_) rfl (by kernel_rfl) (by kernel_rfl) (by kernel_rfl) (fun _ _ _ h => h) (Or.inl ⟨by rfl, ?_⟩) (by assumption) ?_
  rotate_left
  · (intro w hSw; go_simp; first | done | (with_reducible rfl))
  simp only [Act.put, List.getElem_toArray, List.getElem_cons_succ, List.getElem_cons_zero, List.setIfInBounds_toArray, List.set_cons_zero, List.set_cons_succ]
  refine wpAnyH_take (i := 26) (oi := _) (v := ?_) rfl (by kernel_rfl) (by kernel_rfl) (by kernel_rfl) (fun _ _ _ h => h) (Or.inl ⟨by rfl, ?_⟩) (by assumption) ?_
  rotate_left
  · (intro w hSw; go_simp; first | done | (with_reducible rfl))
  simp only [Act.put, List.getElem_toArray, List.getElem_cons_succ, List.getElem_cons_zero, List.setIfInBounds_toArray, List.set_cons_zero, List.set_cons_succ]
  refine wpAnyH_take (i := 27) (oi := _) (v := ?_) rfl (by kernel_rfl) (by kernel_rfl) (by kernel_rfl) (fun _ _ _ h => h) (Or.inl ⟨by rfl, ?_⟩) (by assumption) ?_
  rotate_left
  · (intro w hSw; go_simp; first | done | (with_reducible rfl))
  simp only [Act.put, List.getElem_toArray, List.getElem_cons_succ, List.getElem_cons_zero, List.setIfInBounds_toArray, List.set_cons_zero, List.set_cons_succ]
  refine wpAnyH_take (i := 28) (oi := _) (v := ?_) rfl (by kernel_rfl) (by kernel_rfl) (by kernel_rfl) (fun _ _ _ h => h) (Or.inl ⟨by rfl, ?_⟩) (by assumption) ?_
  rotate_left
  · (intro w hSw; go_simp; first | done | (with_reducible rfl))
  simp only [Act.put, List.getElem_toArray, List.getElem_cons_succ, List.getElem_cons_zero, List.setIfInBounds_toArray, List.set_cons_zero, List.set_cons_succ]
  refine wpAnyH_take (i := 29) (oi := _) (v := ?_) rfl (by kernel_rfl) (by kernel_rfl) (by kernel_rfl) (fun _ _ _ h => h) (Or.inl ⟨by rfl, ?_⟩) (by assumption) ?_
  rotate_left
  · (intro w hSw; have x1 := hSw.1.cellv 8 _ HTL.out.2.2.1; clear hSw; go_simp; first | done | (with_reducible rfl))
  simp only [Act.put, List.getElem_toArray, List.getElem_cons_succ, List.getElem_cons_zero, List.setIfInBounds_toArray, List.set_cons_zero, List.set_cons_succ]
  refine wpAnyH_take (i := 30) (oi := _) (v := ?_) rfl (by kernel_rfl) (by kernel_rfl) (by kernel_rfl) (fun _ _ _ h => h) (Or.inl ⟨by rfl, ?_⟩) (by assumption) ?_
  rotate_left
  · (intro w hSw; go_simp; first | done | (with_reducible rfl))
  simp only [Act.put, List.getElem_toArray, List.getElem_cons_succ, List.getElem_cons_zero, List.setIfInBounds_toArray, List.set_cons_zero, List.set_cons_succ]
  refine wpAnyH_take (i := 31) (oi := _) (v := ?_) rfl (by kernel_rfl) (by kernel_rfl) (by kernel_rfl) (fun _ _ _ h => h) (Or.inl ⟨by rfl, ?_⟩) (by assumption) ?_
  rotate_left
  · (intro w hSw; go_simp; first | done | (with_reducible rfl))
  simp only [Act.put, List.getElem_toArray, List.getElem_cons_succ, List.getElem_cons_zero, List.setIfInBounds_toArray, List.set_cons_zero, List.set_cons_succ]
  refine wpAnyH_take (i := 32) (oi := _) (v := ?_) rfl (by kernel_rfl) (by kernel_rfl) (by kernel_rfl) (fun _ _ _ h => h) (Or.inl ⟨by rfl, ?_⟩) (by assumption) ?_
  rotate_left
  · (intro w hSw; go_simp; first | done | (with_reducible rfl))
  simp only [Act.put, List.getElem_toArray, List.getElem_cons_succ, List.getElem_cons_zero, List.setIfInBounds_toArray, List.set_cons_zero, List.set_cons_succ]
  refine wpAnyH_take (i := 33) (oi := _) (v := ?_) rfl (by kernel_rfl) (by kernel_rfl) (by kernel_rfl) (fun _ _ _ h => h) (Or.inl ⟨by rfl, ?_⟩) (by assumption) ?_
  rotate_left
  · (intro w hSw; go_simp; first | done | (with_reducible rfl))
  simp only [Act.put, List.getElem_toArray, List.getElem_cons_succ, List.getElem_cons_zero, List.setIfInBounds_toArray, List.set_cons_zero, List.set_cons_succ]
  refine wpAnyH_take (i := 35) (oi := _) (v := ?_) rfl (by kernel_rfl) (by kernel_rfl) (by kernel_rfl) (fun _ _ _ h => h) (Or.inl ⟨by rfl, ?_⟩) (by assumption) ?_
  rotate_left
  · (intro w hSw; go_simp; first | done | (with_reducible rfl))
  simp only [Act.put, List.getElem_toArray, List.getElem_cons_succ, List.getElem_cons_zero, List.setIfInBounds_toArray, List.set_cons_zero, List.set_cons_succ]
  refine wpAnyH_take (i := 36) (oi := _) (v := ?_) rfl (by kernel_rfl) (by kernel_rfl) (by kernel_rfl) (fun _ _ _ h => h) (Or.inl ⟨by rfl, ?_⟩) (by assumption) ?_
  rotate_left
  · (intro w hSw; go_simp; first | done | (with_reducible rfl))
  simp only [Act.put, List.getElem_toArray, List.getElem_cons_succ, List.getElem_cons_zero, List.setIfInBounds_toArray, List.set_cons_zero, List.set_cons_succ]
  refine wpAnyH_ready (rs := [34]) (by kernel_rfl) (by simp) ?_
  refine AllReadyH.cons rfl (fun K hK => ?_) AllReadyH.nil
  go_simp
  refine (HBO.out _).mono ?_
  rintro e wn ⟨rfl, gn⟩
  refine hK.out _ _ ⟨hHeld.1.kept gn (by simp), hHeld.2.trans gn⟩ (fun hHeld => ?_)
  clear hK K gn
  refine wpAnyH_take (i := 37) (oi := _) (v := ?_) rfl (by kernel_rfl) (by kernel_rfl) (by kernel_rfl) (fun _ _ _ h => h) (Or.inl ⟨by rfl, ?_⟩) (by assumption) ?_
  rotate_left
  · (intro w hSw; go_simp; first | done | (with_reducible rfl))
  simp only [Act.put, List.getElem_toArray, List.getElem_cons_succ, List.getElem_cons_zero, List.setIfInBounds_toArray, List.set_cons_zero, List.set_cons_succ]
  refine wpAnyH_take (i := 38) (oi := _) (v := ?_) rfl (by kernel_rfl) (by kernel_rfl) (by kernel_rfl) (fun _ _ _ h => h) (Or.inl ⟨by rfl, ?_⟩) (by assumption) ?_
  rotate_left
  · (intro w hSw; go_simp; first | done | (with_reducible rfl))
  simp only [Act.put, List.getElem_toArray, List.getElem_cons_succ, List.getElem_cons_zero, List.setIfInBounds_toArray, List.set_cons_zero, List.set_cons_succ]
  refine wpAnyH_take (i := 39) (oi := _) (v := ?_) rfl (by kernel_rfl) (by kernel_rfl) (by kernel_rfl) (fun _ _ _ h => h) (Or.inl ⟨by rfl, ?_⟩) (by assumption) ?_
  rotate_left
  · (intro w hSw; go_simp; first | done | (with_reducible rfl))
  simp only [Act.put, List.getElem_toArray, List.getElem_cons_succ, List.getElem_cons_zero, List.setIfInBounds_toArray, List.set_cons_zero, List.set_cons_succ]
  refine wpAnyH_take (i := 40) (oi := _) (v := ?_) rfl (by kernel_rfl) (by kernel_rfl) (by kernel_rfl) (fun _ _ _ h => h) (Or.inl ⟨by rfl, ?_⟩) (by assumption) ?_
  rotate_left
  · (intro w hSw; go_simp; first | done | (with_reducible rfl))
  simp only [Act.put, List.getElem_toArray, List.getElem_cons_succ, List.getElem_cons_zero, List.setIfInBounds_toArray, List.set_cons_zero, List.set_cons_succ]
  refine wpAnyH_ready (rs := [41]) (by kernel_rfl) (by simp) ?_
  refine AllReadyH.cons rfl (fun K hK => ?_) AllReadyH.nil
  go_simp
  refine (HSK.out _ (HK.out.kept hHeld.2 (by simp))).mono ?_
  rintro e wn ⟨rfl, gn⟩
  refine hK.out _ _ ⟨hHeld.1.kept gn (by simp), hHeld.2.trans gn⟩ (fun hHeld => ?_)
  clear hK K gn
  refine wpAnyH_take (i := 42) (oi := _) (v := ?_) rfl (by kernel_rfl) (by kernel_rfl) (by kernel_rfl) (fun _ _ _ h => h) (Or.inl ⟨by rfl, ?_⟩) (by assumption) ?_
  rotate_left
  · (intro w hSw; go_simp; first | done | (with_reducible rfl))
  simp only [Act.put, List.getElem_toArray, List.getElem_cons_succ, List.getElem_cons_zero, List.setIfInBounds_toArray, List.set_cons_zero, List.set_cons_succ]
  refine wpAnyH_take (i := 43) (oi := _) (v := ?_) rfl (by kernel_rfl) (by kernel_rfl) (by kernel_rfl) (fun _ _ _ h => h) (Or.inl ⟨by rfl, ?_⟩) (by assumption) ?_
  rotate_left
  · (intro w hSw; go_simp; first | done | (with_reducible rfl))
  simp only [Act.put, List.getElem_toArray, List.getElem_cons_succ, List.getElem_cons_zero, List.setIfInBounds_toArray, List.set_cons_zero, List.set_cons_succ]
  refine wpAnyH_take (i := 44) (oi := _) (v := ?_) rfl (by kernel_rfl) (by kernel_rfl) (by kernel_rfl) (fun _ _ _ h => h) (Or.inl ⟨by rfl, ?_⟩) (by assumption) ?_
  rotate_left
  · (intro w hSw; go_simp; first | done | (with_reducible rfl))
  simp only [Act.put, List.getElem_toArray, List.getElem_cons_succ, List.getElem_cons_zero, List.setIfInBounds_toArray, List.set_cons_zero, List.set_cons_succ]
  refine wpAnyH_ready (rs := [45]) (by kernel_rfl) (by simp) ?_
  refine AllReadyH.cons rfl (fun K hK => ?_) AllReadyH.nil
  go_simp
  refine (HSL.out _ (HK.out.kept hHeld.2 (by simp))).mono ?_
  rintro e wn ⟨rfl, gn⟩
  refine hK.out _ _ ⟨hHeld.1.kept gn (by simp), hHeld.2.trans gn⟩ (fun hHeld => ?_)
  clear hK K gn
  refine wpAnyH_take (i := 46) (oi := _) (v := ?_) rfl (by kernel_rfl) (by kernel_rfl) (by kernel_rfl) (fun _ _ _ h => h) (Or.inl ⟨by rfl, ?_⟩) (by assumption) ?_
  rotate_left
  · (intro w hSw; go_simp; first | done | (with_reducible rfl))
  simp only [Act.put, List.getElem_toArray, List.getElem_cons_succ, List.getElem_cons_zero, List.setIfInBounds_toArray, List.set_cons_zero, List.set_cons_succ]
  refine wpAnyH_take (i := 47) (oi := _) (v := ?_) rfl (by kernel_rfl) (by kernel_rfl) (by kernel_rfl) (fun _ _ _ h => h) (Or.inl ⟨by rfl, ?_⟩) (by assumption) ?_
  rotate_left
  · (intro w hSw; go_simp; first | done | (with_reducible rfl))
  simp only [Act.put, List.getElem_toArray, List.getElem_cons_succ, List.getElem_cons_zero, List.setIfInBounds_toArray, List.set_cons_zero, List.set_cons_succ]
  refine wpAnyH_take (i := 48) (oi := _) (v := ?_) rfl (by kernel_rfl) (by kernel_rfl) (by kernel_rfl) (fun _ _ _ h => h) (Or.inl ⟨by rfl, ?_⟩) (by assumption) ?_
  rotate_left
  · (intro w hSw; go_simp; first | done | (with_reducible rfl))
  simp only [Act.put, List.getElem_toArray, List.getElem_cons_succ, List.getElem_cons_zero, List.setIfInBounds_toArray, List.set_cons_zero, List.set_cons_succ]
  refine wpAnyH_take (i := 49) (oi := _) (v := ?_) rfl (by kernel_rfl) (by kernel_rfl) (by kernel_rfl) (fun _ _ _ h => h) (Or.inl ⟨by rfl, ?_⟩) (by assumption) ?_
  rotate_left
  · (intro w hSw; go_simp; first | done | (with_reducible rfl))
  simp only [Act.put, List.getElem_toArray, List.getElem_cons_succ, List.getElem_cons_zero, List.setIfInBounds_toArray, List.set_cons_zero, List.set_cons_succ]
  refine wpAnyH_ready (rs := [50]) (by kernel_rfl) (by simp) ?_
  refine AllReadyH.cons rfl (fun K hK => ?_) AllReadyH.nil
  go_simp
  refine (HSS.out _ (HK.out.kept hHeld.2 (by simp))).mono ?_
  rintro e wn ⟨rfl, gn⟩
  refine hK.out _ _ ⟨hHeld.1.kept gn (by simp), hHeld.2.trans gn⟩ (fun hHeld => ?_)
  clear hK K gn
  refine wpAnyH_take (i := 51) (oi := _) (v := ?_) rfl (by kernel_rfl) (by kernel_rfl) (by kernel_rfl) (fun _ _ _ h => h) (Or.inl ⟨by rfl, ?_⟩) (by assumption) ?_
  rotate_left
  · (intro w hSw; go_simp; first | done | (with_reducible rfl))
  simp only [Act.put, List.getElem_toArray, List.getElem_cons_succ, List.getElem_cons_zero, List.setIfInBounds_toArray, List.set_cons_zero, List.set_cons_succ]
  refine wpAnyH_take (i := 52) (oi := _) (v := ?_) rfl (by kernel_rfl) (by kernel_rfl) (by kernel_rfl) (fun _ _ _ h => h) (Or.inl ⟨by rfl, ?_⟩) (by assumption) ?_
  rotate_left
  · (intro w hSw; go_simp; first | done | (with_reducible rfl))
  simp only [Act.put, List.getElem_toArray, List.getElem_cons_succ, List.getElem_cons_zero, List.setIfInBounds_toArray, List.set_cons_zero, List.set_cons_succ]
  refine wpAnyH_take (i := 53) (oi := _) (v := ?_) rfl (by kernel_rfl) (by kernel_rfl) (by kernel_rfl) (fun _ _ _ h => h) (Or.inl ⟨by rfl, ?_⟩) (by assumption) ?_
  rotate_left
  · (intro w hSw; go_simp; first | done | (with_reducible rfl))
  simp only [Act.put, List.getElem_toArray, List.getElem_cons_succ, List.getElem_cons_zero, List.setIfInBounds_toArray, List.set_cons_zero]
  refine wpAnyH_done (by kernel_rfl) ?_ _
  have HF := Keep.mk hHeld.2
  clear hHeld
  go_wp2_with fail
  go_ret
  exact ⟨rfl, HF.out⟩
end Go.Proofs.YtiphnlfbgbemfaaGreatDoor.Pk

/- FrameApart -/
namespace Go.Proofs.YtiphnlfbgbemfaaGreatDoor.Pk
open Go Go.RowKit

theorem alloc_has {w w0 : World} {D : List Value} (h : w.alloc (.cells D.toArray 26) = w0) : Has w0 w.heap.size D 26 ∧ w.grownBy w0 none := by
  rw [← h]; exact ⟨Has.new w _ 26, World.grownBy_alloc _ _ _⟩
theorem dg_one (d : Dg) : d.cells.toArray.all (·.oneCell') = true := by simp [Dg.cells, Value.oneCell']
theorem dg_info (d : Dg) : (Tryz.prog.info? 26).map (·.size) = some d.cells.toArray.size := info26
/-- a datagram is laid into a new block -/
theorem store_dg {ops : Array Oper} {rest : List Oper} {op : Oper} {a : Act} {Q : Exit → Act → World → Prop} (w3 : World) (d : Dg) {A : Array Value} (hgd : op.guard = none) {x y : Operand} (ho : op.op = .store 26 x y)
    (hx : a.eval x = .pointer (some ⟨w3.heap.size, 0, none⟩)) (hy : a.eval y = .agg d.cells.toArray) (hA : A.size = 15)
    (h : ∀ w6, Has w6 w3.heap.size d.cells 26 → w3.grownBy w6 none → wpList Tryz.prog ops Q rest (a.put op.dst undef) w6) : wpList Tryz.prog ops Q (op :: rest) a (w3.alloc (.cells A 26)) := by
  have e : A.toList.length = 15 := by rw [Array.length_toList]; exact hA
  have hn := Has.newA w3 A 26
  refine wpList_store_mid hgd 26 x y ho w3.heap.size 0 d.cells.toArray hx hy (hn.there 0 15 (by rw [e]; exact Nat.le_refl _)) (dg_info d) (dg_one d) ?_
  exact h _ (hn.setAll d.cells (by rw [e]; rfl)) (gr_new (World.grownBy_alloc _ _ _) (gr_sets _ _ _ _) (Nat.le_refl _))
set_option maxHeartbeats 16000000 in
set_option maxRecDepth 100000 in
theorem apart_c (a b : Dg) (key : ByteArray) (w : World) (hk : Kc w) (ha : a.fine ∧ a.small) (hb : b.fine ∧ b.small) (hkey : key.size ≤ 1048576) :
    Calls Tryz.prog 3 #[dv a, dv b, .string key] w fun e w' => e = .returned (.bool true) ∧ w.grownBy w' none := by
  obtain ⟨du, hdu, hdr⟩ := under26
  have HK := Keep.mk hk
  obtain ⟨sa, hsa⟩ : ∃ x, (sealD a key).1 = x := ⟨_, rfl⟩
  obtain ⟨ea, hea⟩ : ∃ x, (sealD a key).2 = x := ⟨_, rfl⟩
  obtain ⟨sb, hsb⟩ : ∃ x, (sealD b key).1 = x := ⟨_, rfl⟩
  obtain ⟨eb, heb⟩ : ∃ x, (sealD b key).2 = x := ⟨_, rfl⟩
  obtain ⟨da, hda⟩ : ∃ x, (dec (sl sa)).1 = x := ⟨_, rfl⟩
  obtain ⟨fa, hfa⟩ : ∃ x, (dec (sl sa)).2 = x := ⟨_, rfl⟩
  obtain ⟨db, hdb⟩ : ∃ x, (dec (sl sb)).1 = x := ⟨_, rfl⟩
  obtain ⟨fb, hfb⟩ : ∃ x, (dec (sl sb)).2 = x := ⟨_, rfl⟩
  have HP : Keep (eb = 0 → fb = 0 ∧ db.kind = b.kind) := ⟨fun h => by
    obtain ⟨body, _, _, h3⟩ := seal_dec b key hb.1 (by rw [heb]; exact h)
    rw [hsb] at h3
    rw [← hfb, ← hdb, h3]
    exact ⟨rfl, by rw [onlyD, cps_kind]; rfl⟩⟩
  have hsz : ∀ (d : Dg), (sealD d key).1.size ≤ 4611686018427387904 := fun d => by
    unfold sealD
    split
    · split
      · have h1 := bodyB_size (ba (enc d.bare).1)
        have h2 := enc_le d.bare
        rw [ba_size (enc d.bare).1] at h1
        rw [ByteArray.size_append, hmacB_size]
        omega
      · show nob.size ≤ _; decide
    · show nob.size ≤ _; decide
  have HSa : Keep (∀ W, Kc W → Calls Tryz.prog 10 #[.agg a.cells.toArray, .string key] W fun e w' => e = .returned (.tuple #[.string sa, .int .i64 ea]) ∧ W.grownBy w' none) := ⟨fun W hk => by have := seal_c a key ha.1 ha.2 W hk (by omega); rw [hsa, hea] at this; exact this⟩
  have HSb : Keep (∀ W, Kc W → Calls Tryz.prog 10 #[.agg b.cells.toArray, .string key] W fun e w' => e = .returned (.tuple #[.string sb, .int .i64 eb]) ∧ W.grownBy w' none) := ⟨fun W hk => by have := seal_c b key hb.1 hb.2 W hk (by omega); rw [hsb, heb] at this; exact this⟩
  have HDa : Keep (∀ W, Calls Tryz.prog 11 #[.string sa] W fun e w' => e = .returned (.tuple #[.agg da.cells.toArray, .int .i64 fa]) ∧ W.grownBy w' none) := ⟨fun W => by have := decode_c sa W (by rw [← hsa]; exact hsz a); rw [hda, hfa] at this; exact this⟩
  have HDb : Keep (∀ W, Calls Tryz.prog 11 #[.string sb] W fun e w' => e = .returned (.tuple #[.agg db.cells.toArray, .int .i64 fb]) ∧ W.grownBy w' none) := ⟨fun W => by have := decode_c sb W (by rw [← hsb]; exact hsz b); rw [hdb, hfb] at this; exact this⟩
  obtain ⟨w00, hw00⟩ : ∃ q, w.alloc (.cells a.cells.toArray 26) = q := ⟨_, rfl⟩
  obtain ⟨w0, hw0⟩ : ∃ q, w00.alloc (.cells b.cells.toArray 26) = q := ⟨_, rfl⟩
  obtain ⟨h1, g1⟩ := alloc_has hw00
  obtain ⟨h2, g2⟩ := alloc_has hw0
  have hsz1 : w00.heap.size = w.heap.size + 1 := by rw [← hw00]; exact hs1 _ _
  rw [hsz1] at h2
  have HC : Keep (Has w0 w.heap.size a.cells 26 ∧ Has w0 (w.heap.size + 1) b.cells 26 ∧ w.grownBy w0 none) := ⟨h1.kept g2 (by simp), h2, g1.trans g2⟩
  have q1 : w.alloc (.cells #[.int .i64 a.kind, .string a.nonce, .int .u64 a.epoch, .string a.cookie, .string a.name, .int .u64 a.session, .int .i64 a.player, .string a.salt, .int .u64 a.seq, .int .i64 a.thr, .int .i64 a.turn, .bool a.fire, .bool a.boost, .string a.data, .string a.tag] 26) = w00 := hw00
  have q2 : w00.alloc (.cells #[.int .i64 b.kind, .string b.nonce, .int .u64 b.epoch, .string b.cookie, .string b.name, .int .u64 b.session, .int .i64 b.player, .string b.salt, .int .u64 b.seq, .int .i64 b.thr, .int .i64 b.turn, .bool b.fire, .bool b.boost, .string b.data, .string b.tag] 26) = w0 := hw0
  clear hw00 hw0 h1 g1 h2 g2 hsa hea hsb heb hda hfa hdb hfb hsz ha hb hkey hk
  unfold dv
  go_enter Tryz.func3, Tryz.ntmps3
  go_wp2_with fail
  refine (alive_c w0 (HK.out.kept HC.out.2.2 (by simp))).mono ?_
  rintro e w1 ⟨rfl, gn⟩
  replace HC : Keep (Has w1 w.heap.size a.cells 26 ∧ Has w1 (w.heap.size + 1) b.cells 26 ∧ w.grownBy w1 none) := ⟨(HC.out.1).kept gn (by simp), (HC.out.2.1).kept gn (by simp), (HC.out.2.2).trans gn⟩
  clear gn
  go_wp2_with (refine wpList_load_mid rfl 26 _ rfl _ _ rfl a.cells _ (HC.out.1).range hdu hdr info26 ?_)
  refine (HSa.out w1 (HK.out.kept (HC.out.2.2) (by simp))).mono ?_
  rintro e w2 ⟨rfl, gn⟩
  replace HC : Keep (Has w2 w.heap.size a.cells 26 ∧ Has w2 (w.heap.size + 1) b.cells 26 ∧ w.grownBy w2 none) := ⟨(HC.out.1).kept gn (by simp), (HC.out.2.1).kept gn (by simp), (HC.out.2.2).trans gn⟩
  clear gn
  go_wp2_with fail
  refine (HDa.out w2).mono ?_
  rintro e w3 ⟨rfl, gn⟩
  replace HC : Keep (Has w3 w.heap.size a.cells 26 ∧ Has w3 (w.heap.size + 1) b.cells 26 ∧ w.grownBy w3 none) := ⟨(HC.out.1).kept gn (by simp), (HC.out.2.1).kept gn (by simp), (HC.out.2.2).trans gn⟩
  clear gn
  go_wp2_with (first
    | (refine store_dg w3 da rfl rfl rfl rfl rfl ?_
       intro w4 hs gs
       obtain ⟨b9, hblk⟩ : ∃ q, w3.heap.size = q := ⟨_, rfl⟩
       rw [hblk] at hs
       have HC2 : Keep (Has w4 w.heap.size a.cells 26 ∧ Has w4 (w.heap.size + 1) b.cells 26 ∧ Has w4 b9 da.cells 26 ∧ w.grownBy w4 none) := ⟨(HC.out.1).kept gs (by simp), (HC.out.2.1).kept gs (by simp), hs, (HC.out.2.2).trans gs⟩
       clear hs gs)
    | (refine wpList_load_mid rfl 26 _ rfl _ _ rfl b.cells _ (HC2.out.2.1).range hdu hdr info26 ?_))
  replace HC := HC2
  clear HC2
  refine (HSb.out w4 (HK.out.kept (HC.out.2.2.2) (by simp))).mono ?_
  rintro e w5 ⟨rfl, gn⟩
  replace HC : Keep (Has w5 w.heap.size a.cells 26 ∧ Has w5 (w.heap.size + 1) b.cells 26 ∧ Has w5 b9 da.cells 26 ∧ w.grownBy w5 none) := ⟨(HC.out.1).kept gn (by simp), (HC.out.2.1).kept gn (by simp), (HC.out.2.2.1).kept gn (by simp), (HC.out.2.2.2).trans gn⟩
  clear gn
  go_wp2_with fail
  refine (HDb.out w5).mono ?_
  rintro e w6 ⟨rfl, gn⟩
  replace HC : Keep (Has w6 w.heap.size a.cells 26 ∧ Has w6 (w.heap.size + 1) b.cells 26 ∧ Has w6 b9 da.cells 26 ∧ w.grownBy w6 none) := ⟨(HC.out.1).kept gn (by simp), (HC.out.2.1).kept gn (by simp), (HC.out.2.2.1).kept gn (by simp), (HC.out.2.2.2).trans gn⟩
  clear gn
  go_wp2_with (first
    | (refine store_dg w6 db rfl rfl rfl rfl rfl ?_
       intro w7 hs gs
       obtain ⟨b13, hblk⟩ : ∃ q, w6.heap.size = q := ⟨_, rfl⟩
       rw [hblk] at hs
       have HC2 : Keep (Has w7 w.heap.size a.cells 26 ∧ Has w7 (w.heap.size + 1) b.cells 26 ∧ Has w7 b9 da.cells 26 ∧ Has w7 b13 db.cells 26 ∧ w.grownBy w7 none) := ⟨(HC.out.1).kept gs (by simp), (HC.out.2.1).kept gs (by simp), (HC.out.2.2.1).kept gs (by simp), hs, (HC.out.2.2.2).trans gs⟩
       clear hs gs)
    | (refine wpList_load_mid rfl 26 _ rfl _ _ rfl a.cells _ (HC2.out.1).range hdu hdr info26 ?_))
  replace HC := HC2
  clear HC2
  refine (HSa.out w7 (HK.out.kept (HC.out.2.2.2.2) (by simp))).mono ?_
  rintro e w8 ⟨rfl, gn⟩
  replace HC : Keep (Has w8 w.heap.size a.cells 26 ∧ Has w8 (w.heap.size + 1) b.cells 26 ∧ Has w8 b9 da.cells 26 ∧ Has w8 b13 db.cells 26 ∧ w.grownBy w8 none) := ⟨(HC.out.1).kept gn (by simp), (HC.out.2.1).kept gn (by simp), (HC.out.2.2.1).kept gn (by simp), (HC.out.2.2.2.1).kept gn (by simp), (HC.out.2.2.2.2).trans gn⟩
  clear gn
  go_wp2_with fail
  refine (HDa.out w8).mono ?_
  rintro e w9 ⟨rfl, gn⟩
  replace HC : Keep (Has w9 w.heap.size a.cells 26 ∧ Has w9 (w.heap.size + 1) b.cells 26 ∧ Has w9 b9 da.cells 26 ∧ Has w9 b13 db.cells 26 ∧ w.grownBy w9 none) := ⟨(HC.out.1).kept gn (by simp), (HC.out.2.1).kept gn (by simp), (HC.out.2.2.1).kept gn (by simp), (HC.out.2.2.2.1).kept gn (by simp), (HC.out.2.2.2.2).trans gn⟩
  clear gn
  go_wp2_with (first
    | (refine store_dg w9 da rfl rfl rfl rfl rfl ?_
       intro w10 hs gs
       obtain ⟨b17, hblk⟩ : ∃ q, w9.heap.size = q := ⟨_, rfl⟩
       rw [hblk] at hs
       have HC2 : Keep (Has w10 w.heap.size a.cells 26 ∧ Has w10 (w.heap.size + 1) b.cells 26 ∧ Has w10 b9 da.cells 26 ∧ Has w10 b13 db.cells 26 ∧ Has w10 b17 da.cells 26 ∧ w.grownBy w10 none) := ⟨(HC.out.1).kept gs (by simp), (HC.out.2.1).kept gs (by simp), (HC.out.2.2.1).kept gs (by simp), (HC.out.2.2.2.1).kept gs (by simp), hs, (HC.out.2.2.2.2).trans gs⟩
       clear hs gs)
    | (refine wpList_load_mid rfl 26 _ rfl _ _ rfl b.cells _ (HC2.out.2.1).range hdu hdr info26 ?_))
  replace HC := HC2
  clear HC2
  refine (HSb.out w10 (HK.out.kept (HC.out.2.2.2.2.2) (by simp))).mono ?_
  rintro e w11 ⟨rfl, gn⟩
  replace HC : Keep (Has w11 w.heap.size a.cells 26 ∧ Has w11 (w.heap.size + 1) b.cells 26 ∧ Has w11 b9 da.cells 26 ∧ Has w11 b13 db.cells 26 ∧ Has w11 b17 da.cells 26 ∧ w.grownBy w11 none) := ⟨(HC.out.1).kept gn (by simp), (HC.out.2.1).kept gn (by simp), (HC.out.2.2.1).kept gn (by simp), (HC.out.2.2.2.1).kept gn (by simp), (HC.out.2.2.2.2.1).kept gn (by simp), (HC.out.2.2.2.2.2).trans gn⟩
  clear gn
  have cb9_0 : w11.cell? ⟨b9, 0, none⟩ = some (.int .i64 da.kind) := (HC.out.2.2.1).cellv 0 _ rfl
  have cb9_1 : w11.cell? ⟨b9, 1, none⟩ = some (.string da.nonce) := (HC.out.2.2.1).cellv 1 _ rfl
  have cb9_2 : w11.cell? ⟨b9, 2, none⟩ = some (.int .u64 da.epoch) := (HC.out.2.2.1).cellv 2 _ rfl
  have cb9_3 : w11.cell? ⟨b9, 3, none⟩ = some (.string da.cookie) := (HC.out.2.2.1).cellv 3 _ rfl
  have cb9_4 : w11.cell? ⟨b9, 4, none⟩ = some (.string da.name) := (HC.out.2.2.1).cellv 4 _ rfl
  have cb9_5 : w11.cell? ⟨b9, 5, none⟩ = some (.int .u64 da.session) := (HC.out.2.2.1).cellv 5 _ rfl
  have cb9_6 : w11.cell? ⟨b9, 6, none⟩ = some (.int .i64 da.player) := (HC.out.2.2.1).cellv 6 _ rfl
  have cb9_7 : w11.cell? ⟨b9, 7, none⟩ = some (.string da.salt) := (HC.out.2.2.1).cellv 7 _ rfl
  have cb9_8 : w11.cell? ⟨b9, 8, none⟩ = some (.int .u64 da.seq) := (HC.out.2.2.1).cellv 8 _ rfl
  have cb9_9 : w11.cell? ⟨b9, 9, none⟩ = some (.int .i64 da.thr) := (HC.out.2.2.1).cellv 9 _ rfl
  have cb9_10 : w11.cell? ⟨b9, 10, none⟩ = some (.int .i64 da.turn) := (HC.out.2.2.1).cellv 10 _ rfl
  have cb9_11 : w11.cell? ⟨b9, 11, none⟩ = some (.bool da.fire) := (HC.out.2.2.1).cellv 11 _ rfl
  have cb9_12 : w11.cell? ⟨b9, 12, none⟩ = some (.bool da.boost) := (HC.out.2.2.1).cellv 12 _ rfl
  have cb9_13 : w11.cell? ⟨b9, 13, none⟩ = some (.string da.data) := (HC.out.2.2.1).cellv 13 _ rfl
  have cb9_14 : w11.cell? ⟨b9, 14, none⟩ = some (.string da.tag) := (HC.out.2.2.1).cellv 14 _ rfl
  have cb13_0 : w11.cell? ⟨b13, 0, none⟩ = some (.int .i64 db.kind) := (HC.out.2.2.2.1).cellv 0 _ rfl
  have cb17_0 : w11.cell? ⟨b17, 0, none⟩ = some (.int .i64 da.kind) := (HC.out.2.2.2.2.1).cellv 0 _ rfl
  have cb17_1 : w11.cell? ⟨b17, 1, none⟩ = some (.string da.nonce) := (HC.out.2.2.2.2.1).cellv 1 _ rfl
  have cb17_2 : w11.cell? ⟨b17, 2, none⟩ = some (.int .u64 da.epoch) := (HC.out.2.2.2.2.1).cellv 2 _ rfl
  have cb17_3 : w11.cell? ⟨b17, 3, none⟩ = some (.string da.cookie) := (HC.out.2.2.2.2.1).cellv 3 _ rfl
  have cb17_4 : w11.cell? ⟨b17, 4, none⟩ = some (.string da.name) := (HC.out.2.2.2.2.1).cellv 4 _ rfl
  have cb17_5 : w11.cell? ⟨b17, 5, none⟩ = some (.int .u64 da.session) := (HC.out.2.2.2.2.1).cellv 5 _ rfl
  have cb17_6 : w11.cell? ⟨b17, 6, none⟩ = some (.int .i64 da.player) := (HC.out.2.2.2.2.1).cellv 6 _ rfl
  have cb17_7 : w11.cell? ⟨b17, 7, none⟩ = some (.string da.salt) := (HC.out.2.2.2.2.1).cellv 7 _ rfl
  have cb17_8 : w11.cell? ⟨b17, 8, none⟩ = some (.int .u64 da.seq) := (HC.out.2.2.2.2.1).cellv 8 _ rfl
  have cb17_9 : w11.cell? ⟨b17, 9, none⟩ = some (.int .i64 da.thr) := (HC.out.2.2.2.2.1).cellv 9 _ rfl
  have cb17_10 : w11.cell? ⟨b17, 10, none⟩ = some (.int .i64 da.turn) := (HC.out.2.2.2.2.1).cellv 10 _ rfl
  have cb17_11 : w11.cell? ⟨b17, 11, none⟩ = some (.bool da.fire) := (HC.out.2.2.2.2.1).cellv 11 _ rfl
  have cb17_12 : w11.cell? ⟨b17, 12, none⟩ = some (.bool da.boost) := (HC.out.2.2.2.2.1).cellv 12 _ rfl
  have cb17_13 : w11.cell? ⟨b17, 13, none⟩ = some (.string da.data) := (HC.out.2.2.2.2.1).cellv 13 _ rfl
  have cb17_14 : w11.cell? ⟨b17, 14, none⟩ = some (.string da.tag) := (HC.out.2.2.2.2.1).cellv 14 _ rfl
  have cwheapsize1_0 : w11.cell? ⟨(w.heap.size + 1), 0, none⟩ = some (.int .i64 b.kind) := (HC.out.2.1).cellv 0 _ rfl
  have hEq : ∀ W : World, (Op.equalIn 10000 26 (.agg #[.int .i64 da.kind, .string da.nonce, .int .u64 da.epoch, .string da.cookie, .string da.name, .int .u64 da.session, .int .i64 da.player, .string da.salt, .int .u64 da.seq, .int .i64 da.thr, .int .i64 da.turn, .bool da.fire, .bool da.boost, .string da.data, .string da.tag]) (.agg #[.int .i64 da.kind, .string da.nonce, .int .u64 da.epoch, .string da.cookie, .string da.name, .int .u64 da.session, .int .i64 da.player, .string da.salt, .int .u64 da.seq, .int .i64 da.thr, .int .i64 da.turn, .bool da.fire, .bool da.boost, .string da.data, .string da.tag])).run Tryz.prog W = .ok true W := fun W => eqI26 da W
  have HGF := Keep.mk (HC.out.2.2.2.2.2)
  clear HC
  by_cases h0 : eb = 0
  · obtain ⟨p1, p2⟩ := HP.out h0
    subst h0 p1
    rw [p2] at cb13_0
    clear p2
    go_wp2_with fail
    go_ret
    exact ⟨rfl, HGF.out⟩
  · go_wp2_with fail
    go_ret
    exact ⟨rfl, HGF.out⟩
end Go.Proofs.YtiphnlfbgbemfaaGreatDoor.Pk

/- the reference's Decode, kind by kind -/
namespace Go.Proofs.YtiphnlfbgbemfaaGreatDoor.Pk
open Go Go.RowKit
theorem ext_is (s : ByteArray) (a b : Nat) : s.extract a b = ba (((sl s).drop a).take (b - a)) := by
  apply ByteArray.ext
  apply Array.toList_inj.1
  simp only [sl, ByteArray.data_extract, Array.toList_extract, List.extract]
theorem ext_end (s : ByteArray) (a : Nat) : s.extract a s.size = ba ((sl s).drop a) := by
  rw [ext_is]
  congr 2
  exact List.take_of_length_le (by rw [List.length_drop, sl_len]; omega)
/-- two datagrams of the call's own: the one that is filled, the one that is told -/
structure DQ (w0 w : World) (rb db : Nat) (cs : List Value) : Prop where
  a : Has w db cs 26
  b : Has w rb (Dg.zero 0).cells 26
  g : w0.grownBy w none
  lo : w0.heap.size ≤ db
  lr : w0.heap.size ≤ rb
  ne : rb ≠ db
theorem DQ.set {w0 w : World} {rb db : Nat} {cs : List Value} (q : DQ w0 w rb db cs) (j : Nat) (v : Value) : DQ w0 (w.setCell ⟨db, j, none⟩ v) rb db (cs.set j v) :=
  ⟨q.a.setCell j v, q.b.other _ _ (Ne.symm q.ne), gr_new q.g (gr_set _ _ _ _) q.lo, q.lo, q.lr, q.ne⟩
theorem DQ.told {w0 w : World} {rb db : Nat} {cs : List Value} (q : DQ w0 w rb db cs) (h : cs.length = 15) : Has (w.setCells rb 0 cs) rb cs 26 ∧ w0.grownBy (w.setCells rb 0 cs) none :=
  ⟨q.b.setAll cs (by rw [h]; rfl), gr_new q.g (gr_sets _ _ _ _) q.lr⟩
theorem val_at {L : List UInt8} {j : Nat} {y : UInt8} (h : j < L.length) (hy : L[j]? = some y) : val ((L.drop j).take 1) = y.toNat := by
  have e : L.drop j = y :: L.drop (j + 1) := by
    rw [List.drop_eq_getElem_cons h]
    congr 1
    rw [List.getElem?_eq_getElem h] at hy
    exact Option.some.inj hy
  rw [e]
  simp [val]
end Go.Proofs.YtiphnlfbgbemfaaGreatDoor.Pk

/- the reference's Decode, kind by kind -/
namespace Go.Proofs.YtiphnlfbgbemfaaGreatDoor.Pk
open Go Go.RowKit
set_option maxHeartbeats 8000000 in
set_option maxRecDepth 100000 in
theorem rd_1 (s : ByteArray) (w : World) (h : ¬ 1200 < s.size) (hm : (sl s).take 3 = magic) (hy : (sl s)[3]? = some 1) (h4 : 3 < s.size) (hc : s.size = 96) (h0 : (dec (sl s)).2 = 0) :
    Calls Tryz.prog 22 #[.string s] w fun e w' => e = .returned (.tuple #[dv (dec (sl s)).1, .int .i64 (dec (sl s)).2]) ∧ w.grownBy w' none := by
  obtain ⟨du, hdu, hdr⟩ := under26
  have hle : s.size ≤ 1200 := Nat.le_of_not_lt h
  have HD := dec_1 (sl s) (by rw [sl_len]; exact hle) hm (kind_is s hm h4 hy)
  rw [sl_len, if_pos hc] at HD
  have hz : ((sl s).drop 20).take 76 = zero76 := Classical.byContradiction fun q => by
    rw [HD, if_neg q] at h0
    cases h0
  rw [if_pos hz] at HD
  clear hz
  have HJ : Keep (∀ W, Calls Tryz.prog 43 #[.string s] W fun e w' => e = .returned (.int .i64 0) ∧ w' = W) := ⟨fun W => by have := rjudged_c s W; rw [h0] at this; exact this⟩
  clear h0
  rw [(show ba (((sl s).drop 4).take 16) = s.extract 4 20 from (ext_is s 4 20).symm)] at HD
  rw [HD]
  clear HD
  have ix : ∀ W, (Instr.index 9 (.string s) (.int .i64 3)).run Tryz.prog W = .ok (.int .u8 1) W := fun W => idx9 s 3 1 h4 hy W
  have hszi : (s.size : Int) = 96 := by omega
  have HA := Keep.mk (alloc_has (w := w) (D := (Dg.zero 0).cells) rfl)
  go_enter Tryz.func22, Tryz.ntmps22
  go_wp2_with fail
  refine (HJ.out _).mono ?_
  rintro e w1 ⟨rfl, hw1⟩
  have HA1 : Keep (Has w1 w.heap.size (Dg.zero 0).cells 26 ∧ w.grownBy w1 none ∧ ∃ r, r = w.heap.size) := ⟨by rw [hw1]; exact ⟨HA.out.1, HA.out.2, _, rfl⟩⟩
  clear hw1 HA HJ hm hy h4 h
  obtain ⟨rb, hrb⟩ := HA1.out.2.2
  rw [← hrb] at HA1 ⊢
  have HA2 : Keep (Has w1 rb (Dg.zero 0).cells 26 ∧ w.grownBy w1 none ∧ w.heap.size ≤ rb) := ⟨HA1.out.1, HA1.out.2.1, by omega⟩
  clear HA1 hrb
  go_wp2_with (first | (show wpList _ _ _ ({ dst := _, op := Op.load 26 _, type := _, pos := _, after := _, guard := _ } :: _) _ _; refine wpList_load_mid rfl 26 _ rfl _ _ rfl D.cells _ HF.out.a.range hdu hdr info26 ?_) | (show wpList _ _ _ ({ dst := _, op := Op.store 26 _ _, type := _, pos := _, after := _, guard := _ } :: _) _ _; refine wpList_store_mid rfl 26 _ _ rfl rb 0 D.cells.toArray rfl rfl (HF.out.b.there 0 15 (by decide)) (dg_info D) (dg_one D) ?_) | (show wpList _ _ _ ({ dst := _, op := Op.store 26 _ _, type := _, pos := _, after := _, guard := _ } :: _) _ _; refine store_dg w1 (Dg.zero 1) rfl rfl rfl rfl rfl ?_; intro w2 h2 g2; have HQ : Keep (DQ w w2 rb w1.heap.size (Dg.zero 1).cells) := ⟨h2, HA2.out.1.kept g2 (by simp), HA2.out.2.1.trans g2, HA2.out.2.1.size, HA2.out.2.2, by have := HA2.out.1.lt; omega⟩; clear h2 g2; generalize w1.heap.size = db at HQ ⊢; have c0 : w2.cell? ⟨db, 0, none⟩ = some (.int .i64 1) := HQ.out.a.cellv 0 _ rfl; have c1 := HQ.out.a.cellv 1 _ rfl; have z1 := HQ.out.a.frozen 1; have HF : Keep (DQ w (w2.setCell ⟨db, 1, none⟩ (.string (s.extract 4 20))) rb db (Dg.cells { Dg.zero 1 with nonce := s.extract 4 20 })) := ⟨(HQ.out.set 1 (.string (s.extract 4 20)))⟩; have HT := Keep.mk (HF.out.told rfl); obtain ⟨D, hDe⟩ : ∃ D : Dg, ({ Dg.zero 1 with nonce := s.extract 4 20 } : Dg) = D := ⟨_, rfl⟩; rw [hDe] at HF HT; have HDe := Keep.mk hDe; clear hDe HQ HA2))
  refine ret_ct rfl rfl (cs := D.cells) (t := 26) HT.out.1 hdu hdr info26 rfl ⟨?_, HT.out.2⟩
  rw [← HDe.out]
  rfl
set_option maxHeartbeats 8000000 in
set_option maxRecDepth 100000 in
theorem rd_2 (s : ByteArray) (w : World) (h : ¬ 1200 < s.size) (hm : (sl s).take 3 = magic) (hy : (sl s)[3]? = some 2) (h4 : 3 < s.size) (hc : s.size = 60) (h0 : (dec (sl s)).2 = 0) :
    Calls Tryz.prog 22 #[.string s] w fun e w' => e = .returned (.tuple #[dv (dec (sl s)).1, .int .i64 (dec (sl s)).2]) ∧ w.grownBy w' none := by
  obtain ⟨du, hdu, hdr⟩ := under26
  have hle : s.size ≤ 1200 := Nat.le_of_not_lt h
  have HD := dec_2 (sl s) (by rw [sl_len]; exact hle) hm (kind_is s hm h4 hy)
  rw [sl_len, if_pos hc] at HD
  have HJ : Keep (∀ W, Calls Tryz.prog 43 #[.string s] W fun e w' => e = .returned (.int .i64 0) ∧ w' = W) := ⟨fun W => by have := rjudged_c s W; rw [h0] at this; exact this⟩
  clear h0
  rw [(show ba (((sl s).drop 4).take 16) = s.extract 4 20 from (ext_is s 4 20).symm), (show ba (((sl s).drop 28).take 32) = s.extract 28 60 from (ext_is s 28 60).symm)] at HD
  rw [HD]
  clear HD
  have HN20 := Keep.mk (fun W => rnum_c s 20 W (by omega) (by omega))
  generalize val (((sl s).drop 20).take 8) = n20 at *
  have ix : ∀ W, (Instr.index 9 (.string s) (.int .i64 3)).run Tryz.prog W = .ok (.int .u8 2) W := fun W => idx9 s 3 2 h4 hy W
  have hszi : (s.size : Int) = 60 := by omega
  have HA := Keep.mk (alloc_has (w := w) (D := (Dg.zero 0).cells) rfl)
  go_enter Tryz.func22, Tryz.ntmps22
  go_wp2_with fail
  refine (HJ.out _).mono ?_
  rintro e w1 ⟨rfl, hw1⟩
  have HA1 : Keep (Has w1 w.heap.size (Dg.zero 0).cells 26 ∧ w.grownBy w1 none ∧ ∃ r, r = w.heap.size) := ⟨by rw [hw1]; exact ⟨HA.out.1, HA.out.2, _, rfl⟩⟩
  clear hw1 HA HJ hm hy h4 h
  obtain ⟨rb, hrb⟩ := HA1.out.2.2
  rw [← hrb] at HA1 ⊢
  have HA2 : Keep (Has w1 rb (Dg.zero 0).cells 26 ∧ w.grownBy w1 none ∧ w.heap.size ≤ rb) := ⟨HA1.out.1, HA1.out.2.1, by omega⟩
  clear HA1 hrb
  go_wp2_with (show wpList _ _ _ ({ dst := _, op := Op.store 26 _ _, type := _, pos := _, after := _, guard := _ } :: _) _ _; refine store_dg w1 (Dg.zero 2) rfl rfl rfl rfl rfl ?_; intro w2 h2 g2; have HQ : Keep (DQ w w2 rb w1.heap.size (Dg.zero 2).cells) := ⟨h2, HA2.out.1.kept g2 (by simp), HA2.out.2.1.trans g2, HA2.out.2.1.size, HA2.out.2.2, by have := HA2.out.1.lt; omega⟩; clear h2 g2; generalize w1.heap.size = db at HQ ⊢; have c0 : w2.cell? ⟨db, 0, none⟩ = some (.int .i64 2) := HQ.out.a.cellv 0 _ rfl; have c1 := HQ.out.a.cellv 1 _ rfl; have z1 := HQ.out.a.frozen 1; have c2 := HQ.out.a.cellv 2 _ rfl; have z2 := HQ.out.a.frozen 2; have c3 := HQ.out.a.cellv 3 _ rfl; have z3 := HQ.out.a.frozen 3; have HF : Keep (DQ w (((w2.setCell ⟨db, 1, none⟩ (.string (s.extract 4 20))).setCell ⟨db, 2, none⟩ (.int .u64 ((n20 : Nat) : Int))).setCell ⟨db, 3, none⟩ (.string (s.extract 28 60))) rb db (Dg.cells { Dg.zero 2 with nonce := s.extract 4 20, epoch := n20, cookie := s.extract 28 60 })) := ⟨(((HQ.out.set 1 (.string (s.extract 4 20))).set 2 (.int .u64 ((n20 : Nat) : Int))).set 3 (.string (s.extract 28 60)))⟩; have HT := Keep.mk (HF.out.told rfl); obtain ⟨D, hDe⟩ : ∃ D : Dg, ({ Dg.zero 2 with nonce := s.extract 4 20, epoch := n20, cookie := s.extract 28 60 } : Dg) = D := ⟨_, rfl⟩; rw [hDe] at HF HT; have HDe := Keep.mk hDe; clear hDe HQ HA2)
  refine (HN20.out _).mono ?_
  rintro e w5 ⟨rfl, rfl⟩
  go_wp2_with (first | (show wpList _ _ _ ({ dst := _, op := Op.load 26 _, type := _, pos := _, after := _, guard := _ } :: _) _ _; refine wpList_load_mid rfl 26 _ rfl _ _ rfl D.cells _ HF.out.a.range hdu hdr info26 ?_) | (show wpList _ _ _ ({ dst := _, op := Op.store 26 _ _, type := _, pos := _, after := _, guard := _ } :: _) _ _; refine wpList_store_mid rfl 26 _ _ rfl rb 0 D.cells.toArray rfl rfl (HF.out.b.there 0 15 (by decide)) (dg_info D) (dg_one D) ?_))
  refine ret_ct rfl rfl (cs := D.cells) (t := 26) HT.out.1 hdu hdr info26 rfl ⟨?_, HT.out.2⟩
  rw [← HDe.out]
  rfl
set_option maxHeartbeats 8000000 in
set_option maxRecDepth 100000 in
theorem rd_3 (s : ByteArray) (w : World) (h : ¬ 1200 < s.size) (hm : (sl s).take 3 = magic) (hy : (sl s)[3]? = some 3) (h4 : 3 < s.size) (hc : 93 ≤ s.size ∧ s.size = 93 + ((sl s).getD 60 0).toNat) (h0 : (dec (sl s)).2 = 0) :
    Calls Tryz.prog 22 #[.string s] w fun e w' => e = .returned (.tuple #[dv (dec (sl s)).1, .int .i64 (dec (sl s)).2]) ∧ w.grownBy w' none := by
  obtain ⟨du, hdu, hdr⟩ := under26
  have hle : s.size ≤ 1200 := Nat.le_of_not_lt h
  have HD := dec_3 (sl s) (by rw [sl_len]; exact hle) hm (kind_is s hm h4 hy)
  rw [sl_len, if_pos hc] at HD
  have hge : 93 ≤ s.size := hc.1
  clear hc
  have HJ : Keep (∀ W, Calls Tryz.prog 43 #[.string s] W fun e w' => e = .returned (.int .i64 0) ∧ w' = W) := ⟨fun W => by have := rjudged_c s W; rw [h0] at this; exact this⟩
  clear h0
  rw [(show ba (((sl s).drop 4).take 16) = s.extract 4 20 from (ext_is s 4 20).symm), (show ba (((sl s).drop 28).take 32) = s.extract 28 60 from (ext_is s 28 60).symm), (show ba (((sl s).drop 61).take (s.size - 93)) = s.extract 61 (s.size - 32) by rw [ext_is, show s.size - 32 - 61 = s.size - 93 by omega]), (show ba ((sl s).drop (s.size - 32)) = s.extract (s.size - 32) s.size from (ext_end s _).symm)] at HD
  rw [HD]
  clear HD
  have HN20 := Keep.mk (fun W => rnum_c s 20 W (by omega) (by omega))
  generalize val (((sl s).drop 20).take 8) = n20 at *
  have ix : ∀ W, (Instr.index 9 (.string s) (.int .i64 3)).run Tryz.prog W = .ok (.int .u8 3) W := fun W => idx9 s 3 3 h4 hy W
  have hwn : IntKind.i64.wrap ((s.size : Int) - 32) = ((s.size - 32 : Nat) : Int) := by rw [IntKind.wrap_i64]; omega
  have hsz1 : s.size - 32 ≤ s.size := by omega
  have hsz2 : 61 ≤ s.size - 32 := by omega
  have HA := Keep.mk (alloc_has (w := w) (D := (Dg.zero 0).cells) rfl)
  go_enter Tryz.func22, Tryz.ntmps22
  go_wp2_with fail
  refine (HJ.out _).mono ?_
  rintro e w1 ⟨rfl, hw1⟩
  have HA1 : Keep (Has w1 w.heap.size (Dg.zero 0).cells 26 ∧ w.grownBy w1 none ∧ ∃ r, r = w.heap.size) := ⟨by rw [hw1]; exact ⟨HA.out.1, HA.out.2, _, rfl⟩⟩
  clear hw1 HA HJ hm hy h4 h
  obtain ⟨rb, hrb⟩ := HA1.out.2.2
  rw [← hrb] at HA1 ⊢
  have HA2 : Keep (Has w1 rb (Dg.zero 0).cells 26 ∧ w.grownBy w1 none ∧ w.heap.size ≤ rb) := ⟨HA1.out.1, HA1.out.2.1, by omega⟩
  clear HA1 hrb
  go_wp2_with (show wpList _ _ _ ({ dst := _, op := Op.store 26 _ _, type := _, pos := _, after := _, guard := _ } :: _) _ _; refine store_dg w1 (Dg.zero 3) rfl rfl rfl rfl rfl ?_; intro w2 h2 g2; have HQ : Keep (DQ w w2 rb w1.heap.size (Dg.zero 3).cells) := ⟨h2, HA2.out.1.kept g2 (by simp), HA2.out.2.1.trans g2, HA2.out.2.1.size, HA2.out.2.2, by have := HA2.out.1.lt; omega⟩; clear h2 g2; generalize w1.heap.size = db at HQ ⊢; have c0 : w2.cell? ⟨db, 0, none⟩ = some (.int .i64 3) := HQ.out.a.cellv 0 _ rfl; have c1 := HQ.out.a.cellv 1 _ rfl; have z1 := HQ.out.a.frozen 1; have c2 := HQ.out.a.cellv 2 _ rfl; have z2 := HQ.out.a.frozen 2; have c3 := HQ.out.a.cellv 3 _ rfl; have z3 := HQ.out.a.frozen 3; have c4 := HQ.out.a.cellv 4 _ rfl; have z4 := HQ.out.a.frozen 4; have c14 := HQ.out.a.cellv 14 _ rfl; have z14 := HQ.out.a.frozen 14; have HF : Keep (DQ w (((((w2.setCell ⟨db, 14, none⟩ (.string (s.extract (s.size - 32) s.size))).setCell ⟨db, 1, none⟩ (.string (s.extract 4 20))).setCell ⟨db, 2, none⟩ (.int .u64 ((n20 : Nat) : Int))).setCell ⟨db, 3, none⟩ (.string (s.extract 28 60))).setCell ⟨db, 4, none⟩ (.string (s.extract 61 (s.size - 32)))) rb db (Dg.cells { Dg.zero 3 with nonce := s.extract 4 20, epoch := n20, cookie := s.extract 28 60, name := s.extract 61 (s.size - 32), tag := s.extract (s.size - 32) s.size })) := ⟨(((((HQ.out.set 14 (.string (s.extract (s.size - 32) s.size))).set 1 (.string (s.extract 4 20))).set 2 (.int .u64 ((n20 : Nat) : Int))).set 3 (.string (s.extract 28 60))).set 4 (.string (s.extract 61 (s.size - 32))))⟩; have HT := Keep.mk (HF.out.told rfl); obtain ⟨D, hDe⟩ : ∃ D : Dg, ({ Dg.zero 3 with nonce := s.extract 4 20, epoch := n20, cookie := s.extract 28 60, name := s.extract 61 (s.size - 32), tag := s.extract (s.size - 32) s.size } : Dg) = D := ⟨_, rfl⟩; rw [hDe] at HF HT; have HDe := Keep.mk hDe; clear hDe HQ HA2)
  refine (HN20.out _).mono ?_
  rintro e w5 ⟨rfl, rfl⟩
  go_wp2_with (first | (show wpList _ _ _ ({ dst := _, op := Op.load 26 _, type := _, pos := _, after := _, guard := _ } :: _) _ _; refine wpList_load_mid rfl 26 _ rfl _ _ rfl D.cells _ HF.out.a.range hdu hdr info26 ?_) | (show wpList _ _ _ ({ dst := _, op := Op.store 26 _ _, type := _, pos := _, after := _, guard := _ } :: _) _ _; refine wpList_store_mid rfl 26 _ _ rfl rb 0 D.cells.toArray rfl rfl (HF.out.b.there 0 15 (by decide)) (dg_info D) (dg_one D) ?_))
  refine ret_ct rfl rfl (cs := D.cells) (t := 26) HT.out.1 hdu hdr info26 rfl ⟨?_, HT.out.2⟩
  rw [← HDe.out]
  rfl
set_option maxHeartbeats 8000000 in
set_option maxRecDepth 100000 in
theorem rd_4 (s : ByteArray) (w : World) (h : ¬ 1200 < s.size) (hm : (sl s).take 3 = magic) (hy : (sl s)[3]? = some 4) (h4 : 3 < s.size) (hc : s.size = 77) (h0 : (dec (sl s)).2 = 0) :
    Calls Tryz.prog 22 #[.string s] w fun e w' => e = .returned (.tuple #[dv (dec (sl s)).1, .int .i64 (dec (sl s)).2]) ∧ w.grownBy w' none := by
  obtain ⟨du, hdu, hdr⟩ := under26
  have hle : s.size ≤ 1200 := Nat.le_of_not_lt h
  have HD := dec_4 (sl s) (by rw [sl_len]; exact hle) hm (kind_is s hm h4 hy)
  rw [sl_len, if_pos hc] at HD
  have HJ : Keep (∀ W, Calls Tryz.prog 43 #[.string s] W fun e w' => e = .returned (.int .i64 0) ∧ w' = W) := ⟨fun W => by have := rjudged_c s W; rw [h0] at this; exact this⟩
  clear h0
  obtain ⟨y28, hy28⟩ : ∃ y, (sl s)[28]? = some y := ⟨_, List.getElem?_eq_getElem (by rw [sl_len, hc]; omega)⟩
  have ix28 : ∀ W, (Instr.index 9 (.string s) (.int .i64 28)).run Tryz.prog W = .ok (.int .u8 y28.toNat) W := fun W => idx9 s 28 y28 (by omega) hy28 W
  have hv28 : val (((sl s).drop 28).take 1) = y28.toNat := val_at (by rw [sl_len]; omega) hy28
  have hw28 : IntKind.i64.wrap (y28.toNat : Int) = (y28.toNat : Int) := by have := UInt8.toNat_lt y28; rw [IntKind.wrap_i64]; omega
  rw [(show ba (((sl s).drop 4).take 16) = s.extract 4 20 from (ext_is s 4 20).symm), (show ba (((sl s).drop 29).take 16) = s.extract 29 45 from (ext_is s 29 45).symm), (show ba (((sl s).drop 45).take 32) = s.extract 45 77 from (ext_is s 45 77).symm), hv28] at HD
  rw [HD]
  clear HD
  have HN20 := Keep.mk (fun W => rnum_c s 20 W (by omega) (by omega))
  generalize val (((sl s).drop 20).take 8) = n20 at *
  have ix : ∀ W, (Instr.index 9 (.string s) (.int .i64 3)).run Tryz.prog W = .ok (.int .u8 4) W := fun W => idx9 s 3 4 h4 hy W
  have hszi : (s.size : Int) = 77 := by omega
  have hwn : IntKind.i64.wrap 45 = 45 := by decide
  have HA := Keep.mk (alloc_has (w := w) (D := (Dg.zero 0).cells) rfl)
  go_enter Tryz.func22, Tryz.ntmps22
  go_wp2_with fail
  refine (HJ.out _).mono ?_
  rintro e w1 ⟨rfl, hw1⟩
  have HA1 : Keep (Has w1 w.heap.size (Dg.zero 0).cells 26 ∧ w.grownBy w1 none ∧ ∃ r, r = w.heap.size) := ⟨by rw [hw1]; exact ⟨HA.out.1, HA.out.2, _, rfl⟩⟩
  clear hw1 HA HJ hm hy h4 h
  obtain ⟨rb, hrb⟩ := HA1.out.2.2
  rw [← hrb] at HA1 ⊢
  have HA2 : Keep (Has w1 rb (Dg.zero 0).cells 26 ∧ w.grownBy w1 none ∧ w.heap.size ≤ rb) := ⟨HA1.out.1, HA1.out.2.1, by omega⟩
  clear HA1 hrb
  go_wp2_with (show wpList _ _ _ ({ dst := _, op := Op.store 26 _ _, type := _, pos := _, after := _, guard := _ } :: _) _ _; refine store_dg w1 (Dg.zero 4) rfl rfl rfl rfl rfl ?_; intro w2 h2 g2; have HQ : Keep (DQ w w2 rb w1.heap.size (Dg.zero 4).cells) := ⟨h2, HA2.out.1.kept g2 (by simp), HA2.out.2.1.trans g2, HA2.out.2.1.size, HA2.out.2.2, by have := HA2.out.1.lt; omega⟩; clear h2 g2; generalize w1.heap.size = db at HQ ⊢; have c0 : w2.cell? ⟨db, 0, none⟩ = some (.int .i64 4) := HQ.out.a.cellv 0 _ rfl; have c1 := HQ.out.a.cellv 1 _ rfl; have z1 := HQ.out.a.frozen 1; have c5 := HQ.out.a.cellv 5 _ rfl; have z5 := HQ.out.a.frozen 5; have c6 := HQ.out.a.cellv 6 _ rfl; have z6 := HQ.out.a.frozen 6; have c7 := HQ.out.a.cellv 7 _ rfl; have z7 := HQ.out.a.frozen 7; have c14 := HQ.out.a.cellv 14 _ rfl; have z14 := HQ.out.a.frozen 14; have HF : Keep (DQ w (((((w2.setCell ⟨db, 14, none⟩ (.string (s.extract 45 77))).setCell ⟨db, 1, none⟩ (.string (s.extract 4 20))).setCell ⟨db, 5, none⟩ (.int .u64 ((n20 : Nat) : Int))).setCell ⟨db, 6, none⟩ (.int .i64 (y28.toNat : Int))).setCell ⟨db, 7, none⟩ (.string (s.extract 29 45))) rb db (Dg.cells { Dg.zero 4 with nonce := s.extract 4 20, session := n20, player := (y28.toNat : Int), salt := s.extract 29 45, tag := s.extract 45 77 })) := ⟨(((((HQ.out.set 14 (.string (s.extract 45 77))).set 1 (.string (s.extract 4 20))).set 5 (.int .u64 ((n20 : Nat) : Int))).set 6 (.int .i64 (y28.toNat : Int))).set 7 (.string (s.extract 29 45)))⟩; have HT := Keep.mk (HF.out.told rfl); obtain ⟨D, hDe⟩ : ∃ D : Dg, ({ Dg.zero 4 with nonce := s.extract 4 20, session := n20, player := (y28.toNat : Int), salt := s.extract 29 45, tag := s.extract 45 77 } : Dg) = D := ⟨_, rfl⟩; rw [hDe] at HF HT; have HDe := Keep.mk hDe; clear hDe HQ HA2)
  refine (HN20.out _).mono ?_
  rintro e w5 ⟨rfl, rfl⟩
  go_wp2_with (first | (show wpList _ _ _ ({ dst := _, op := Op.load 26 _, type := _, pos := _, after := _, guard := _ } :: _) _ _; refine wpList_load_mid rfl 26 _ rfl _ _ rfl D.cells _ HF.out.a.range hdu hdr info26 ?_) | (show wpList _ _ _ ({ dst := _, op := Op.store 26 _ _, type := _, pos := _, after := _, guard := _ } :: _) _ _; refine wpList_store_mid rfl 26 _ _ rfl rb 0 D.cells.toArray rfl rfl (HF.out.b.there 0 15 (by decide)) (dg_info D) (dg_one D) ?_))
  refine ret_ct rfl rfl (cs := D.cells) (t := 26) HT.out.1 hdu hdr info26 rfl ⟨?_, HT.out.2⟩
  rw [← HDe.out]
  rfl
set_option maxHeartbeats 8000000 in
set_option maxRecDepth 100000 in
theorem rd_6 (s : ByteArray) (w : World) (h : ¬ 1200 < s.size) (hm : (sl s).take 3 = magic) (hy : (sl s)[3]? = some 6) (h4 : 3 < s.size) (hc : 52 ≤ s.size) (h0 : (dec (sl s)).2 = 0) :
    Calls Tryz.prog 22 #[.string s] w fun e w' => e = .returned (.tuple #[dv (dec (sl s)).1, .int .i64 (dec (sl s)).2]) ∧ w.grownBy w' none := by
  obtain ⟨du, hdu, hdr⟩ := under26
  have hle : s.size ≤ 1200 := Nat.le_of_not_lt h
  have HD := dec_6 (sl s) (by rw [sl_len]; exact hle) hm (kind_is s hm h4 hy)
  rw [sl_len, if_pos hc] at HD
  have HJ : Keep (∀ W, Calls Tryz.prog 43 #[.string s] W fun e w' => e = .returned (.int .i64 0) ∧ w' = W) := ⟨fun W => by have := rjudged_c s W; rw [h0] at this; exact this⟩
  clear h0
  rw [(show ba (((sl s).drop 20).take (s.size - 52)) = s.extract 20 (s.size - 32) by rw [ext_is, show s.size - 32 - 20 = s.size - 52 by omega]), (show ba ((sl s).drop (s.size - 32)) = s.extract (s.size - 32) s.size from (ext_end s _).symm)] at HD
  rw [HD]
  clear HD
  have HN4 := Keep.mk (fun W => rnum_c s 4 W (by omega) (by omega))
  have HN12 := Keep.mk (fun W => rnum_c s 12 W (by omega) (by omega))
  generalize val (((sl s).drop 4).take 8) = n4 at *
  generalize val (((sl s).drop 12).take 8) = n12 at *
  have ix : ∀ W, (Instr.index 9 (.string s) (.int .i64 3)).run Tryz.prog W = .ok (.int .u8 6) W := fun W => idx9 s 3 6 h4 hy W
  have hwn : IntKind.i64.wrap ((s.size : Int) - 32) = ((s.size - 32 : Nat) : Int) := by rw [IntKind.wrap_i64]; omega
  have hsz1 : s.size - 32 ≤ s.size := by omega
  have hsz2 : 20 ≤ s.size - 32 := by omega
  have HA := Keep.mk (alloc_has (w := w) (D := (Dg.zero 0).cells) rfl)
  go_enter Tryz.func22, Tryz.ntmps22
  go_wp2_with fail
  refine (HJ.out _).mono ?_
  rintro e w1 ⟨rfl, hw1⟩
  have HA1 : Keep (Has w1 w.heap.size (Dg.zero 0).cells 26 ∧ w.grownBy w1 none ∧ ∃ r, r = w.heap.size) := ⟨by rw [hw1]; exact ⟨HA.out.1, HA.out.2, _, rfl⟩⟩
  clear hw1 HA HJ hm hy h4 h
  obtain ⟨rb, hrb⟩ := HA1.out.2.2
  rw [← hrb] at HA1 ⊢
  have HA2 : Keep (Has w1 rb (Dg.zero 0).cells 26 ∧ w.grownBy w1 none ∧ w.heap.size ≤ rb) := ⟨HA1.out.1, HA1.out.2.1, by omega⟩
  clear HA1 hrb
  go_wp2_with (show wpList _ _ _ ({ dst := _, op := Op.store 26 _ _, type := _, pos := _, after := _, guard := _ } :: _) _ _; refine store_dg w1 (Dg.zero 6) rfl rfl rfl rfl rfl ?_; intro w2 h2 g2; have HQ : Keep (DQ w w2 rb w1.heap.size (Dg.zero 6).cells) := ⟨h2, HA2.out.1.kept g2 (by simp), HA2.out.2.1.trans g2, HA2.out.2.1.size, HA2.out.2.2, by have := HA2.out.1.lt; omega⟩; clear h2 g2; generalize w1.heap.size = db at HQ ⊢; have c0 : w2.cell? ⟨db, 0, none⟩ = some (.int .i64 6) := HQ.out.a.cellv 0 _ rfl; have c5 := HQ.out.a.cellv 5 _ rfl; have z5 := HQ.out.a.frozen 5; have c8 := HQ.out.a.cellv 8 _ rfl; have z8 := HQ.out.a.frozen 8; have c13 := HQ.out.a.cellv 13 _ rfl; have z13 := HQ.out.a.frozen 13; have c14 := HQ.out.a.cellv 14 _ rfl; have z14 := HQ.out.a.frozen 14; have HF : Keep (DQ w ((((w2.setCell ⟨db, 14, none⟩ (.string (s.extract (s.size - 32) s.size))).setCell ⟨db, 5, none⟩ (.int .u64 ((n4 : Nat) : Int))).setCell ⟨db, 8, none⟩ (.int .u64 ((n12 : Nat) : Int))).setCell ⟨db, 13, none⟩ (.string (s.extract 20 (s.size - 32)))) rb db (Dg.cells { Dg.zero 6 with session := n4, seq := n12, data := s.extract 20 (s.size - 32), tag := s.extract (s.size - 32) s.size })) := ⟨((((HQ.out.set 14 (.string (s.extract (s.size - 32) s.size))).set 5 (.int .u64 ((n4 : Nat) : Int))).set 8 (.int .u64 ((n12 : Nat) : Int))).set 13 (.string (s.extract 20 (s.size - 32))))⟩; have HT := Keep.mk (HF.out.told rfl); obtain ⟨D, hDe⟩ : ∃ D : Dg, ({ Dg.zero 6 with session := n4, seq := n12, data := s.extract 20 (s.size - 32), tag := s.extract (s.size - 32) s.size } : Dg) = D := ⟨_, rfl⟩; rw [hDe] at HF HT; have HDe := Keep.mk hDe; clear hDe HQ HA2)
  refine (HN4.out _).mono ?_
  rintro e w5 ⟨rfl, rfl⟩
  go_wp2_with fail
  refine (HN12.out _).mono ?_
  rintro e w6 ⟨rfl, rfl⟩
  go_wp2_with (first | (show wpList _ _ _ ({ dst := _, op := Op.load 26 _, type := _, pos := _, after := _, guard := _ } :: _) _ _; refine wpList_load_mid rfl 26 _ rfl _ _ rfl D.cells _ HF.out.a.range hdu hdr info26 ?_) | (show wpList _ _ _ ({ dst := _, op := Op.store 26 _ _, type := _, pos := _, after := _, guard := _ } :: _) _ _; refine wpList_store_mid rfl 26 _ _ rfl rb 0 D.cells.toArray rfl rfl (HF.out.b.there 0 15 (by decide)) (dg_info D) (dg_one D) ?_))
  refine ret_ct rfl rfl (cs := D.cells) (t := 26) HT.out.1 hdu hdr info26 rfl ⟨?_, HT.out.2⟩
  rw [← HDe.out]
  rfl
set_option maxHeartbeats 8000000 in
set_option maxRecDepth 100000 in
theorem rd_7 (s : ByteArray) (w : World) (h : ¬ 1200 < s.size) (hm : (sl s).take 3 = magic) (hy : (sl s)[3]? = some 7) (h4 : 3 < s.size) (hc : s.size = 52) (h0 : (dec (sl s)).2 = 0) :
    Calls Tryz.prog 22 #[.string s] w fun e w' => e = .returned (.tuple #[dv (dec (sl s)).1, .int .i64 (dec (sl s)).2]) ∧ w.grownBy w' none := by
  obtain ⟨du, hdu, hdr⟩ := under26
  have hle : s.size ≤ 1200 := Nat.le_of_not_lt h
  have HD := dec_7 (sl s) (by rw [sl_len]; exact hle) hm (kind_is s hm h4 hy)
  rw [sl_len, if_pos hc] at HD
  have HJ : Keep (∀ W, Calls Tryz.prog 43 #[.string s] W fun e w' => e = .returned (.int .i64 0) ∧ w' = W) := ⟨fun W => by have := rjudged_c s W; rw [h0] at this; exact this⟩
  clear h0
  rw [(show ba (((sl s).drop 20).take 32) = s.extract 20 52 from (ext_is s 20 52).symm)] at HD
  rw [HD]
  clear HD
  have HN4 := Keep.mk (fun W => rnum_c s 4 W (by omega) (by omega))
  have HN12 := Keep.mk (fun W => rnum_c s 12 W (by omega) (by omega))
  generalize val (((sl s).drop 4).take 8) = n4 at *
  generalize val (((sl s).drop 12).take 8) = n12 at *
  have ix : ∀ W, (Instr.index 9 (.string s) (.int .i64 3)).run Tryz.prog W = .ok (.int .u8 7) W := fun W => idx9 s 3 7 h4 hy W
  have hszi : (s.size : Int) = 52 := by omega
  have hwn : IntKind.i64.wrap 20 = 20 := by decide
  have HA := Keep.mk (alloc_has (w := w) (D := (Dg.zero 0).cells) rfl)
  go_enter Tryz.func22, Tryz.ntmps22
  go_wp2_with fail
  refine (HJ.out _).mono ?_
  rintro e w1 ⟨rfl, hw1⟩
  have HA1 : Keep (Has w1 w.heap.size (Dg.zero 0).cells 26 ∧ w.grownBy w1 none ∧ ∃ r, r = w.heap.size) := ⟨by rw [hw1]; exact ⟨HA.out.1, HA.out.2, _, rfl⟩⟩
  clear hw1 HA HJ hm hy h4 h
  obtain ⟨rb, hrb⟩ := HA1.out.2.2
  rw [← hrb] at HA1 ⊢
  have HA2 : Keep (Has w1 rb (Dg.zero 0).cells 26 ∧ w.grownBy w1 none ∧ w.heap.size ≤ rb) := ⟨HA1.out.1, HA1.out.2.1, by omega⟩
  clear HA1 hrb
  go_wp2_with (show wpList _ _ _ ({ dst := _, op := Op.store 26 _ _, type := _, pos := _, after := _, guard := _ } :: _) _ _; refine store_dg w1 (Dg.zero 7) rfl rfl rfl rfl rfl ?_; intro w2 h2 g2; have HQ : Keep (DQ w w2 rb w1.heap.size (Dg.zero 7).cells) := ⟨h2, HA2.out.1.kept g2 (by simp), HA2.out.2.1.trans g2, HA2.out.2.1.size, HA2.out.2.2, by have := HA2.out.1.lt; omega⟩; clear h2 g2; generalize w1.heap.size = db at HQ ⊢; have c0 : w2.cell? ⟨db, 0, none⟩ = some (.int .i64 7) := HQ.out.a.cellv 0 _ rfl; have c5 := HQ.out.a.cellv 5 _ rfl; have z5 := HQ.out.a.frozen 5; have c8 := HQ.out.a.cellv 8 _ rfl; have z8 := HQ.out.a.frozen 8; have c14 := HQ.out.a.cellv 14 _ rfl; have z14 := HQ.out.a.frozen 14; have HF : Keep (DQ w (((w2.setCell ⟨db, 14, none⟩ (.string (s.extract 20 52))).setCell ⟨db, 5, none⟩ (.int .u64 ((n4 : Nat) : Int))).setCell ⟨db, 8, none⟩ (.int .u64 ((n12 : Nat) : Int))) rb db (Dg.cells { Dg.zero 7 with session := n4, seq := n12, tag := s.extract 20 52 })) := ⟨(((HQ.out.set 14 (.string (s.extract 20 52))).set 5 (.int .u64 ((n4 : Nat) : Int))).set 8 (.int .u64 ((n12 : Nat) : Int)))⟩; have HT := Keep.mk (HF.out.told rfl); obtain ⟨D, hDe⟩ : ∃ D : Dg, ({ Dg.zero 7 with session := n4, seq := n12, tag := s.extract 20 52 } : Dg) = D := ⟨_, rfl⟩; rw [hDe] at HF HT; have HDe := Keep.mk hDe; clear hDe HQ HA2)
  refine (HN4.out _).mono ?_
  rintro e w5 ⟨rfl, rfl⟩
  go_wp2_with fail
  refine (HN12.out _).mono ?_
  rintro e w6 ⟨rfl, rfl⟩
  go_wp2_with (first | (show wpList _ _ _ ({ dst := _, op := Op.load 26 _, type := _, pos := _, after := _, guard := _ } :: _) _ _; refine wpList_load_mid rfl 26 _ rfl _ _ rfl D.cells _ HF.out.a.range hdu hdr info26 ?_) | (show wpList _ _ _ ({ dst := _, op := Op.store 26 _ _, type := _, pos := _, after := _, guard := _ } :: _) _ _; refine wpList_store_mid rfl 26 _ _ rfl rb 0 D.cells.toArray rfl rfl (HF.out.b.there 0 15 (by decide)) (dg_info D) (dg_one D) ?_))
  refine ret_ct rfl rfl (cs := D.cells) (t := 26) HT.out.1 hdu hdr info26 rfl ⟨?_, HT.out.2⟩
  rw [← HDe.out]
  rfl
end Go.Proofs.YtiphnlfbgbemfaaGreatDoor.Pk

