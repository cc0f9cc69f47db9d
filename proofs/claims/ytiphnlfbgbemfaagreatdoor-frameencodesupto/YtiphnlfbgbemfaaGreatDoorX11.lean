import Derived.Test.YtiphnlfbgbemfaaGreatDoorX10
/- the reference's Encode -/
namespace Go.Proofs.YtiphnlfbgbemfaaGreatDoor.Pk
open Go Go.RowKit
set_option maxHeartbeats 16000000 in
set_option maxRecDepth 100000 in
theorem renc_3 (d : Dg) (hf : d.fine) (hs : d.small) (w : World) (hk : d.kind = 3) :
    Calls Tryz.prog 20 #[dv d] w fun e w' => e = .returned (.tuple #[.string (ba (enc d).1), .int .i64 (enc d).2]) ∧ w.grownBy w' none := by
  obtain ⟨du, hdu, hdr⟩ := under26
  have h0 : ¬ fieldsL d.kind = [] := fieldsL_some (by omega)
  have hFI := fun W => rfits_3 d W hk
  obtain ⟨w0, hw0⟩ : ∃ q, w.alloc (.cells d.cells.toArray 26) = q := ⟨_, rfl⟩
  obtain ⟨h1, g1⟩ := alloc_has hw0
  have HC : Keep (Has w0 w.heap.size d.cells 26 ∧ w.grownBy w0 none) := ⟨h1, g1⟩
  have q1 : w.alloc (.cells #[.int .i64 d.kind, .string d.nonce, .int .u64 d.epoch, .string d.cookie, .string d.name, .int .u64 d.session, .int .i64 d.player, .string d.salt, .int .u64 d.seq, .int .i64 d.thr, .int .i64 d.turn, .bool d.fire, .bool d.boost, .string d.data, .string d.tag] 26) = w0 := hw0
  have c0 : w0.cell? ⟨w.heap.size, 0, none⟩ = some (.int .i64 3) := by rw [← hk]; exact h1.cellv 0 _ rfl
  clear hw0 h1 g1
  by_cases hc : d.nonce.size = 16 ∧ d.cookie.size = 32 ∧ d.name.size ≤ 255 ∧ d.tag.size = 32
  · have hfit : ∀ f ∈ fieldsL d.kind, fitF d f := by
      rw [hk]
      intro f hm
      simp only [fieldsL, reduceIte, Int.reduceEq, List.mem_cons, List.not_mem_nil, or_false] at hm
      rcases hm with rfl | rfl | rfl | rfl | rfl
      · exact hc.1
      · exact hf.e
      · exact hc.2.1
      · exact hc.2.2.1
      · exact hc.2.2.2
    have he : enc d = if 1200 < (headL d ++ bytesF d (fieldsL d.kind)).length then ([], 72) else (headL d ++ bytesF d (fieldsL d.kind), 0) := by rw [enc_is d hf, if_neg h0, if_pos hfit]
    have HFI : Keep (∀ W, Calls Tryz.prog 40 #[.agg d.cells.toArray] W fun e w' => e = .returned (.bool true) ∧ W.grownBy w' none) := ⟨fun W => by have := hFI W; rw [decide_eq_true hc] at this; exact this⟩
    clear hFI hfit h0
    obtain ⟨X1, hX1⟩ : ∃ x, ba [(3 : UInt8)] = x := ⟨_, rfl⟩
    have hcv : ∀ W : World, (convert 39 9 (.slice (some ⟨W.heap.size, 0, none⟩) 1 1)).run Tryz.prog (W.alloc (.cells #[.int .u8 3] 5)) = .ok (.string X1) (W.alloc (.cells #[.int .u8 3] 5)) := fun W => by rw [← hX1]; exact cvt_new 3 3 rfl W
    obtain ⟨L1, hL1⟩ : ∃ x, ba (be 8 d.epoch) = x := ⟨_, rfl⟩
    obtain ⟨Pb, hPb⟩ : ∃ x, ba [UInt8.ofNat d.name.size] = x := ⟨_, rfl⟩
    obtain ⟨A0, hA0⟩ : ∃ x, mgB ++ X1 = x := ⟨_, rfl⟩
    obtain ⟨A1, hA1⟩ : ∃ x, A0 ++ d.nonce = x := ⟨_, rfl⟩
    obtain ⟨A2, hA2⟩ : ∃ x, A1 ++ L1 = x := ⟨_, rfl⟩
    obtain ⟨A3, hA3⟩ : ∃ x, A2 ++ d.cookie = x := ⟨_, rfl⟩
    obtain ⟨A4, hA4⟩ : ∃ x, A3 ++ Pb = x := ⟨_, rfl⟩
    obtain ⟨A5, hA5⟩ : ∃ x, A4 ++ d.name = x := ⟨_, rfl⟩
    obtain ⟨A6, hA6⟩ : ∃ x, A5 ++ d.tag = x := ⟨_, rfl⟩
    have z0 : A0.size = 4 := by rw [← hA0, ByteArray.size_append, ← hX1]; rfl
    have zL1 : L1.size = 8 := by rw [← hL1, ba_size, be_len]
    have zPb : Pb.size = 1 := by rw [← hPb, ba_size]; rfl
    have z1 : A1.size = A0.size + d.nonce.size := by rw [← hA1, ByteArray.size_append]
    have z2 : A2.size = A1.size + L1.size := by rw [← hA2, ByteArray.size_append]
    have z3 : A3.size = A2.size + d.cookie.size := by rw [← hA3, ByteArray.size_append]
    have z4 : A4.size = A3.size + Pb.size := by rw [← hA4, ByteArray.size_append]
    have z5 : A5.size = A4.size + d.name.size := by rw [← hA5, ByteArray.size_append]
    have z6 : A6.size = A5.size + d.tag.size := by rw [← hA6, ByteArray.size_append]
    have y_nonce := hs.n
    have y_cookie := hs.c
    have y_name := hs.m
    have y_tag := hs.t
    have b0 : ∀ W, (Op.stringOp .add { data := #[74, 48, 49] } X1).run Tryz.prog W = .ok (.string A0) W := fun W => by rw [← hA0]; exact addS mgB X1 (by rw [← hX1]; decide) W
    have b1 : ∀ W, (Op.stringOp .add A0 d.nonce).run Tryz.prog W = .ok (.string A1) W := fun W => by rw [← hA1]; exact addS A0 d.nonce (by omega) W
    have b2 : ∀ W, (Op.stringOp .add A1 L1).run Tryz.prog W = .ok (.string A2) W := fun W => by rw [← hA2]; exact addS A1 L1 (by omega) W
    have b3 : ∀ W, (Op.stringOp .add A2 d.cookie).run Tryz.prog W = .ok (.string A3) W := fun W => by rw [← hA3]; exact addS A2 d.cookie (by omega) W
    have b4 : ∀ W, (Op.stringOp .add A3 Pb).run Tryz.prog W = .ok (.string A4) W := fun W => by rw [← hA4]; exact addS A3 Pb (by omega) W
    have b5 : ∀ W, (Op.stringOp .add A4 d.name).run Tryz.prog W = .ok (.string A5) W := fun W => by rw [← hA5]; exact addS A4 d.name (by omega) W
    have b6 : ∀ W, (Op.stringOp .add A5 d.tag).run Tryz.prog W = .ok (.string A6) W := fun W => by rw [← hA6]; exact addS A5 d.tag (by omega) W
    have hsl : headL d ++ bytesF d (fieldsL d.kind) = sl A6 := by
      rw [← hA6, ← hA5, ← hA4, ← hA3, ← hA2, ← hA1, ← hA0, ← hL1, ← hPb, ← hX1]
      rw [sl_app, sl_app, sl_app, sl_app, sl_app, sl_app, sl_app, hk]
      rw [show sl (ba [(3 : UInt8)]) = [3] from sl_mk _, show sl (ba (be 8 d.epoch)) = be 8 d.epoch from sl_mk _, show sl (ba [UInt8.ofNat d.name.size]) = [UInt8.ofNat d.name.size] from sl_mk _]
      simp only [fieldsL, bytesF, List.map_cons, List.map_nil, List.flatten_cons, List.flatten_nil, reduceIte, Int.reduceEq, lyB, List.append_assoc, List.append_nil, headL, hk]
      rfl
    rw [hsl, sl_len] at he
    have HE := Keep.mk he
    have HA : Keep (ba (sl A6) = A6) := ⟨sl_back A6⟩
    have HR1 : Keep (∀ W, Calls Tryz.prog 41 #[.int .u64 d.epoch] W fun e w' => e = .returned (.string L1) ∧ W.grownBy w' none) := ⟨fun W => by rw [← hL1]; exact rlen_c d.epoch W hf.e⟩
    have hzp : ((d.name.size : Nat) : Int) = ((UInt8.ofNat d.name.size).toNat : Int) := by have := hc.2.2.1; simp; omega
    have wzp : IntKind.u8.wrap (d.name.size : Int) = (d.name.size : Int) := by have := hc.2.2.1; simp [IntKind.wrap, show IntKind.u8.bits = 8 from rfl, show IntKind.u8.signed = false from rfl]; omega
    have HCB : Keep (∀ (W : World) (b : Nat), Has W b [.int .u8 (d.name.size : Int)] 5 → (convert 39 9 (.slice (some ⟨b, 0, none⟩) 1 1)).run Tryz.prog W = .ok (.string Pb) W) := ⟨fun W b h => by rw [← hPb]; exact cvt_has _ _ hzp b W h⟩
    clear hzp
    have HZ : Keep (A6.size ≤ 9223372036854775807) := ⟨by omega⟩
    clear he hsl hX1 hL1 hPb hA0 hA1 hA2 hA3 hA4 hA5 hA6 z0 z1 z2 z3 z4 z5 z6 zL1 zPb y_nonce y_cookie y_name y_tag hc hf hs
    have HKK := Keep.mk hk
    clear hk
    unfold dv
    rcases Nat.lt_or_ge 1200 A6.size with hl | hl
    case' inl => have hd1 : decide ((1200 : Int) < (A6.size : Int)) = true := decide_eq_true (by omega)
    case' inr => have hd1 : decide ((1200 : Int) < (A6.size : Int)) = false := decide_eq_false (by omega)
    case' inl => have hd2 : (1200 : Int) < (A6.size : Int) := by omega
    case' inr => have hd2 : ¬ (1200 : Int) < (A6.size : Int) := by omega
    case' inl => have hex : enc d = ([], 72) := by rw [HE.out, if_pos hl]
    case' inr => have hex : enc d = (sl A6, 0) := by rw [HE.out, if_neg (by omega)]
    all_goals
      have HEX := Keep.mk hex
      clear hex HE
      go_enter Tryz.func20, Tryz.ntmps20
      go_wp2_with (refine wpList_load_mid rfl 26 _ rfl _ _ rfl d.cells _ (HC.out.1).range hdu hdr info26 ?_)
      refine (HFI.out _).mono ?_
      rintro e' w1 ⟨rfl, gn⟩
      have HC1 : Keep (Has w1 w.heap.size d.cells 26 ∧ w.grownBy w1 none) := ⟨(HC.out.1).kept gn (by simp), (HC.out.2).trans gn⟩
      clear gn
      have k0 : w1.cell? ⟨w.heap.size, 0, none⟩ = some (.int .i64 3) := by rw [← HKK.out]; exact HC1.out.1.cellv 0 _ rfl
      obtain ⟨w2, hw2⟩ : ∃ q, w1.alloc (.cells #[.int .u8 3] 5) = q := ⟨_, rfl⟩
      have HC2 : Keep (Has w2 w.heap.size d.cells 26 ∧ w.grownBy w2 none) := ⟨by rw [← hw2]; exact HC1.out.1.alloc _, by rw [← hw2]; exact HC1.out.2.trans (World.grownBy_alloc _ _ _)⟩
      have hcv1 := hcv w1
      rw [hw2] at hcv1
      have n2 : w2.cell? ⟨w.heap.size, 1, none⟩ = some (.string d.nonce) := HC2.out.1.cellv 1 _ rfl
      have k2 : w2.cell? ⟨w.heap.size, 0, none⟩ = some (.int .i64 3) := by rw [← HKK.out]; exact HC2.out.1.cellv 0 _ rfl
      go_wp2_with fail
      clear hcv1 hw2 k0 c0 q1 HC1
      have HH : Keep (Has w2.drew w.heap.size d.cells 26 ∧ w.grownBy w2.drew none) := ⟨HC2.out.1.kept (gr_drew _ none) (by simp), HC2.out.2.trans (gr_drew _ _)⟩
      refine wp_region_held_drew (S := fun w' => Has w' w.heap.size d.cells 26 ∧ w.grownBy w' none) (by kernel_rfl) HH.out (fun hHeld => ?_)
      generalize w2.drew = wd at *
      refine wpAnyH_take (i := 0) (oi := _) (v := ?_) rfl (by kernel_rfl) (by kernel_rfl) (by kernel_rfl) (fun _ _ _ h => h) (Or.inl ⟨by rfl, ?_⟩) (by assumption) ?_
      rotate_left
      · (intro w hSw; go_simp; first | done | (with_reducible rfl))
      simp only [Act.put, List.getElem_toArray, List.getElem_cons_zero, List.setIfInBounds_toArray, List.set_cons_zero, List.set_cons_succ]
      refine wpAnyH_take (i := 1) (oi := _) (v := ?_) rfl (by kernel_rfl) (by kernel_rfl) (by kernel_rfl) (fun _ _ _ h => h) (Or.inl ⟨by rfl, ?_⟩) (by assumption) ?_
      rotate_left
      · (intro w hSw; go_simp; first | done | (with_reducible rfl))
      simp only [Act.put, List.getElem_toArray, List.getElem_cons_succ, List.getElem_cons_zero, List.setIfInBounds_toArray, List.set_cons_zero, List.set_cons_succ]
      refine wpAnyH_take (i := 2) (oi := _) (v := ?_) rfl (by kernel_rfl) (by kernel_rfl) (by kernel_rfl) (fun _ _ _ h => h) (Or.inl ⟨by rfl, ?_⟩) (by assumption) ?_
      rotate_left
      · (intro w hSw; have x1 := hSw.1.cellv 2 _ rfl; clear hSw; go_simp; first | done | (with_reducible rfl))
      simp only [Act.put, List.getElem_toArray, List.getElem_cons_succ, List.getElem_cons_zero, List.setIfInBounds_toArray, List.set_cons_zero, List.set_cons_succ]
      refine wpAnyH_take (i := 5) (oi := _) (v := ?_) rfl (by kernel_rfl) (by kernel_rfl) (by kernel_rfl) (fun _ _ _ h => h) (Or.inl ⟨by rfl, ?_⟩) (by assumption) ?_
      rotate_left
      · (intro w hSw; go_simp; first | done | (with_reducible rfl))
      simp only [Act.put, List.getElem_toArray, List.getElem_cons_succ, List.getElem_cons_zero, List.setIfInBounds_toArray, List.set_cons_zero, List.set_cons_succ]
      refine wpAnyH_take (i := 6) (oi := _) (v := ?_) rfl (by kernel_rfl) (by kernel_rfl) (by kernel_rfl) (fun _ _ _ h => h) (Or.inl ⟨by rfl, ?_⟩) (by assumption) ?_
      rotate_left
      · (intro w hSw; have x1 := hSw.1.cellv 3 _ rfl; clear hSw; go_simp; first | done | (with_reducible rfl))
      simp only [Act.put, List.getElem_toArray, List.getElem_cons_succ, List.getElem_cons_zero, List.setIfInBounds_toArray, List.set_cons_zero, List.set_cons_succ]
      refine wpAnyH_take (i := 8) (oi := _) (v := ?_) rfl (by kernel_rfl) (by kernel_rfl) (by kernel_rfl) (fun _ _ _ h => h) (Or.inl ⟨by rfl, ?_⟩) (by assumption) ?_
      rotate_left
      · (intro w hSw; go_simp; first | done | (with_reducible rfl))
      simp only [Act.put, List.getElem_toArray, List.getElem_cons_succ, List.getElem_cons_zero, List.setIfInBounds_toArray, List.set_cons_zero, List.set_cons_succ]
      refine wpAnyH_take (i := 9) (oi := _) (v := ?_) rfl (by kernel_rfl) (by kernel_rfl) (by kernel_rfl) (fun _ _ _ h => h) (Or.inl ⟨by rfl, ?_⟩) (by assumption) ?_
      rotate_left
      · (intro w hSw; have x1 := hSw.1.cellv 4 _ rfl; clear hSw; go_simp; first | done | (with_reducible rfl))
      simp only [Act.put, List.getElem_toArray, List.getElem_cons_succ, List.getElem_cons_zero, List.setIfInBounds_toArray, List.set_cons_zero, List.set_cons_succ]
      refine wpAnyH_take (i := 10) (oi := _) (v := ?_) rfl (by kernel_rfl) (by kernel_rfl) (by kernel_rfl) (fun _ _ _ h => h) (Or.inl ⟨by rfl, ?_⟩) (by assumption) ?_
      rotate_left
      · (intro w hSw; go_simp; first | done | (with_reducible rfl))
      simp only [Act.put, List.getElem_toArray, List.getElem_cons_succ, List.getElem_cons_zero, List.setIfInBounds_toArray, List.set_cons_zero, List.set_cons_succ]
      refine wpAnyH_take (i := 11) (oi := _) (v := ?_) rfl (by kernel_rfl) (by kernel_rfl) (by kernel_rfl) (fun _ _ _ h => h) (Or.inl ⟨by rfl, ?_⟩) (by assumption) ?_
      rotate_left
      · (intro w hSw; go_simp; first | done | (with_reducible rfl))
      simp only [Act.put, List.getElem_toArray, List.getElem_cons_succ, List.getElem_cons_zero, List.setIfInBounds_toArray, List.set_cons_zero, List.set_cons_succ]
      refine wpAnyH_take (i := 15) (oi := _) (v := ?_) rfl (by kernel_rfl) (by kernel_rfl) (by kernel_rfl) (fun _ _ _ h => h) (Or.inl ⟨by rfl, ?_⟩) (by assumption) ?_
      rotate_left
      · (intro w hSw; go_simp; first | done | (with_reducible rfl))
      simp only [Act.put, List.getElem_toArray, List.getElem_cons_succ, List.getElem_cons_zero, List.setIfInBounds_toArray, List.set_cons_zero, List.set_cons_succ]
      refine wpAnyH_take (i := 16) (oi := _) (v := ?_) rfl (by kernel_rfl) (by kernel_rfl) (by kernel_rfl) (fun _ _ _ h => h) (Or.inl ⟨by rfl, ?_⟩) (by assumption) ?_
      rotate_left
      · (intro w hSw; have x1 := hSw.1.cellv 4 _ rfl; clear hSw; go_simp; first | done | (with_reducible rfl))
      simp only [Act.put, List.getElem_toArray, List.getElem_cons_succ, List.getElem_cons_zero, List.setIfInBounds_toArray, List.set_cons_zero, List.set_cons_succ]
      refine wpAnyH_ready (rs := [3, 12]) (by kernel_rfl) (by simp) ?_
      refine AllReadyH.cons rfl (fun K hK => ?_) (AllReadyH.cons rfl (fun K hK => ?_) AllReadyH.nil)
      · go_simp
        refine (HR1.out _).mono ?_
        rintro e' w3 ⟨rfl, gn⟩
        have HS1 : Keep (Has w3 w.heap.size d.cells 26 ∧ w.grownBy w3 none) := ⟨HH.out.1.kept gn (by simp), HH.out.2.trans gn⟩
        refine hK.out _ _ HS1.out (fun hHeld => ?_)
        clear hK K
        clear gn
        refine wpAnyH_take (i := 4) (oi := _) (v := ?_) rfl (by kernel_rfl) (by kernel_rfl) (by kernel_rfl) (fun _ _ _ h => h) (Or.inl ⟨by rfl, ?_⟩) (by assumption) ?_
        rotate_left
        · (intro w hSw; go_simp; first | done | (with_reducible rfl))
        simp only [Act.put, List.getElem_toArray, List.getElem_cons_succ, List.getElem_cons_zero, List.setIfInBounds_toArray, List.set_cons_zero, List.set_cons_succ]
        refine wpAnyH_take (i := 7) (oi := _) (v := ?_) rfl (by kernel_rfl) (by kernel_rfl) (by kernel_rfl) (fun _ _ _ h => h) (Or.inl ⟨by rfl, ?_⟩) (by assumption) ?_
        rotate_left
        · (intro w hSw; go_simp; first | done | (with_reducible rfl))
        simp only [Act.put, List.getElem_toArray, List.getElem_cons_succ, List.getElem_cons_zero, List.setIfInBounds_toArray, List.set_cons_zero, List.set_cons_succ]
        refine wpAnyH_ready (rs := [12]) (by kernel_rfl) (by simp) ?_
        refine AllReadyH.cons rfl (fun K hK => ?_) AllReadyH.nil
        go_simp
        obtain ⟨w4, hw4⟩ : ∃ q, w3.alloc (.cells #[.int .u8 (d.name.size : Int)] 5) = q := ⟨_, rfl⟩
        have HS2 : Keep (Has w4 w.heap.size d.cells 26 ∧ w.grownBy w4 none) := ⟨by rw [← hw4]; exact HS1.out.1.alloc _, by rw [← hw4]; exact HS1.out.2.trans (World.grownBy_alloc _ _ _)⟩
        have hbl : Has w4 w3.heap.size [.int .u8 (d.name.size : Int)] 5 := by rw [← hw4]; exact Has.newA w3 _ 5
        obtain ⟨bb, hbb⟩ : ∃ q, w3.heap.size = q := ⟨_, rfl⟩
        rw [hbb] at hbl
        rw [hw4, hbb]
        refine hK.out _ _ HS2.out (fun hHeld => ?_)
        clear hK K
        have hcx := HCB.out w4 bb hbl
        refine wpAnyH_ready (rs := [13]) (by kernel_rfl) (by simp) ?_
        refine AllReadyH.cons rfl (fun K hK => ?_) AllReadyH.nil
        go_simp
        refine hK.out _ _ HS2.out (fun hHeld => ?_)
        clear hK K
        clear hcx hbl hw4 hbb
        refine wpAnyH_take (i := 14) (oi := _) (v := ?_) rfl (by kernel_rfl) (by kernel_rfl) (by kernel_rfl) (fun _ _ _ h => h) (Or.inl ⟨by rfl, ?_⟩) (by assumption) ?_
        rotate_left
        · (intro w hSw; go_simp; first | done | (with_reducible rfl))
        simp only [Act.put, List.getElem_toArray, List.getElem_cons_succ, List.getElem_cons_zero, List.setIfInBounds_toArray, List.set_cons_zero, List.set_cons_succ]
        refine wpAnyH_take (i := 17) (oi := _) (v := ?_) rfl (by kernel_rfl) (by kernel_rfl) (by kernel_rfl) (fun _ _ _ h => h) (Or.inl ⟨by rfl, ?_⟩) (by assumption) ?_
        rotate_left
        · (intro w hSw; go_simp; first | done | (with_reducible rfl))
        simp only [Act.put, List.getElem_toArray, List.getElem_cons_succ, List.getElem_cons_zero, List.setIfInBounds_toArray, List.set_cons_zero, List.set_cons_succ]
        refine wpAnyH_take (i := 18) (oi := _) (v := ?_) rfl (by kernel_rfl) (by kernel_rfl) (by kernel_rfl) (fun _ _ _ h => h) (Or.inl ⟨by rfl, ?_⟩) (by assumption) ?_
        rotate_left
        · (intro w hSw; go_simp; first | done | (with_reducible rfl))
        simp only [Act.put, List.getElem_toArray, List.getElem_cons_succ, List.getElem_cons_zero, List.setIfInBounds_toArray, List.set_cons_zero, List.set_cons_succ]
        refine wpAnyH_done (by kernel_rfl) ?_ _
        have k5 : w4.cell? ⟨w.heap.size, 0, none⟩ = some (.int .i64 3) := by rw [← HKK.out]; exact HS2.out.1.cellv 0 _ rfl
        have t5 : w4.cell? ⟨w.heap.size, 14, none⟩ = some (.string d.tag) := HS2.out.1.cellv 14 _ rfl
        have t6 : w4.cell? ⟨w.heap.size, 13, none⟩ = some (.string d.data) := HS2.out.1.cellv 13 _ rfl
        go_wp2_with fail
        go_ret2
        rw [HEX.out]
        first
          | exact ⟨rfl, HS2.out.2⟩
          | (rw [HA.out]; exact ⟨rfl, HS2.out.2⟩)
      · go_simp
        obtain ⟨w3, hw3⟩ : ∃ q, wd.alloc (.cells #[.int .u8 (d.name.size : Int)] 5) = q := ⟨_, rfl⟩
        have HS1 : Keep (Has w3 w.heap.size d.cells 26 ∧ w.grownBy w3 none) := ⟨by rw [← hw3]; exact HH.out.1.alloc _, by rw [← hw3]; exact HH.out.2.trans (World.grownBy_alloc _ _ _)⟩
        have hbl : Has w3 wd.heap.size [.int .u8 (d.name.size : Int)] 5 := by rw [← hw3]; exact Has.newA wd _ 5
        obtain ⟨bb, hbb⟩ : ∃ q, wd.heap.size = q := ⟨_, rfl⟩
        rw [hbb] at hbl
        rw [hw3, hbb]
        refine hK.out _ _ HS1.out (fun hHeld => ?_)
        clear hK K
        refine wpAnyH_ready (rs := [3, 13]) (by kernel_rfl) (by simp) ?_
        refine AllReadyH.cons rfl (fun K hK => ?_) (AllReadyH.cons rfl (fun K hK => ?_) AllReadyH.nil)
        · go_simp
          refine (HR1.out _).mono ?_
          rintro e' w4 ⟨rfl, gn⟩
          have HS2 : Keep (Has w4 w.heap.size d.cells 26 ∧ w.grownBy w4 none) := ⟨HS1.out.1.kept gn (by simp), HS1.out.2.trans gn⟩
          have hcx := HCB.out w4 bb (hbl.kept gn (by simp))
          refine hK.out _ _ HS2.out (fun hHeld => ?_)
          clear hK K
          clear gn
          refine wpAnyH_take (i := 4) (oi := _) (v := ?_) rfl (by kernel_rfl) (by kernel_rfl) (by kernel_rfl) (fun _ _ _ h => h) (Or.inl ⟨by rfl, ?_⟩) (by assumption) ?_
          rotate_left
          · (intro w hSw; go_simp; first | done | (with_reducible rfl))
          simp only [Act.put, List.getElem_toArray, List.getElem_cons_succ, List.getElem_cons_zero, List.setIfInBounds_toArray, List.set_cons_zero, List.set_cons_succ]
          refine wpAnyH_take (i := 7) (oi := _) (v := ?_) rfl (by kernel_rfl) (by kernel_rfl) (by kernel_rfl) (fun _ _ _ h => h) (Or.inl ⟨by rfl, ?_⟩) (by assumption) ?_
          rotate_left
          · (intro w hSw; go_simp; first | done | (with_reducible rfl))
          simp only [Act.put, List.getElem_toArray, List.getElem_cons_succ, List.getElem_cons_zero, List.setIfInBounds_toArray, List.set_cons_zero, List.set_cons_succ]
          refine wpAnyH_ready (rs := [13]) (by kernel_rfl) (by simp) ?_
          refine AllReadyH.cons rfl (fun K hK => ?_) AllReadyH.nil
          go_simp
          refine hK.out _ _ HS2.out (fun hHeld => ?_)
          clear hK K
          clear hcx hbl hw3 hbb
          refine wpAnyH_take (i := 14) (oi := _) (v := ?_) rfl (by kernel_rfl) (by kernel_rfl) (by kernel_rfl) (fun _ _ _ h => h) (Or.inl ⟨by rfl, ?_⟩) (by assumption) ?_
          rotate_left
          · (intro w hSw; go_simp; first | done | (with_reducible rfl))
          simp only [Act.put, List.getElem_toArray, List.getElem_cons_succ, List.getElem_cons_zero, List.setIfInBounds_toArray, List.set_cons_zero, List.set_cons_succ]
          refine wpAnyH_take (i := 17) (oi := _) (v := ?_) rfl (by kernel_rfl) (by kernel_rfl) (by kernel_rfl) (fun _ _ _ h => h) (Or.inl ⟨by rfl, ?_⟩) (by assumption) ?_
          rotate_left
          · (intro w hSw; go_simp; first | done | (with_reducible rfl))
          simp only [Act.put, List.getElem_toArray, List.getElem_cons_succ, List.getElem_cons_zero, List.setIfInBounds_toArray, List.set_cons_zero, List.set_cons_succ]
          refine wpAnyH_take (i := 18) (oi := _) (v := ?_) rfl (by kernel_rfl) (by kernel_rfl) (by kernel_rfl) (fun _ _ _ h => h) (Or.inl ⟨by rfl, ?_⟩) (by assumption) ?_
          rotate_left
          · (intro w hSw; go_simp; first | done | (with_reducible rfl))
          simp only [Act.put, List.getElem_toArray, List.getElem_cons_succ, List.getElem_cons_zero, List.setIfInBounds_toArray, List.set_cons_zero, List.set_cons_succ]
          refine wpAnyH_done (by kernel_rfl) ?_ _
          have k5 : w4.cell? ⟨w.heap.size, 0, none⟩ = some (.int .i64 3) := by rw [← HKK.out]; exact HS2.out.1.cellv 0 _ rfl
          have t5 : w4.cell? ⟨w.heap.size, 14, none⟩ = some (.string d.tag) := HS2.out.1.cellv 14 _ rfl
          have t6 : w4.cell? ⟨w.heap.size, 13, none⟩ = some (.string d.data) := HS2.out.1.cellv 13 _ rfl
          go_wp2_with fail
          go_ret2
          rw [HEX.out]
          first
            | exact ⟨rfl, HS2.out.2⟩
            | (rw [HA.out]; exact ⟨rfl, HS2.out.2⟩)
        · have hcx := HCB.out w3 bb hbl
          go_simp
          refine hK.out _ _ HS1.out (fun hHeld => ?_)
          clear hK K
          clear hcx
          refine wpAnyH_ready (rs := [3]) (by kernel_rfl) (by simp) ?_
          refine AllReadyH.cons rfl (fun K hK => ?_) AllReadyH.nil
          go_simp
          refine (HR1.out _).mono ?_
          rintro e' w4 ⟨rfl, gn⟩
          have HS2 : Keep (Has w4 w.heap.size d.cells 26 ∧ w.grownBy w4 none) := ⟨HS1.out.1.kept gn (by simp), HS1.out.2.trans gn⟩
          refine hK.out _ _ HS2.out (fun hHeld => ?_)
          clear hK K
          clear gn hbl hw3 hbb
          refine wpAnyH_take (i := 4) (oi := _) (v := ?_) rfl (by kernel_rfl) (by kernel_rfl) (by kernel_rfl) (fun _ _ _ h => h) (Or.inl ⟨by rfl, ?_⟩) (by assumption) ?_
          rotate_left
          · (intro w hSw; go_simp; first | done | (with_reducible rfl))
          simp only [Act.put, List.getElem_toArray, List.getElem_cons_succ, List.getElem_cons_zero, List.setIfInBounds_toArray, List.set_cons_zero, List.set_cons_succ]
          refine wpAnyH_take (i := 7) (oi := _) (v := ?_) rfl (by kernel_rfl) (by kernel_rfl) (by kernel_rfl) (fun _ _ _ h => h) (Or.inl ⟨by rfl, ?_⟩) (by assumption) ?_
          rotate_left
          · (intro w hSw; go_simp; first | done | (with_reducible rfl))
          simp only [Act.put, List.getElem_toArray, List.getElem_cons_succ, List.getElem_cons_zero, List.setIfInBounds_toArray, List.set_cons_zero, List.set_cons_succ]
          refine wpAnyH_take (i := 14) (oi := _) (v := ?_) rfl (by kernel_rfl) (by kernel_rfl) (by kernel_rfl) (fun _ _ _ h => h) (Or.inl ⟨by rfl, ?_⟩) (by assumption) ?_
          rotate_left
          · (intro w hSw; go_simp; first | done | (with_reducible rfl))
          simp only [Act.put, List.getElem_toArray, List.getElem_cons_succ, List.getElem_cons_zero, List.setIfInBounds_toArray, List.set_cons_zero, List.set_cons_succ]
          refine wpAnyH_take (i := 17) (oi := _) (v := ?_) rfl (by kernel_rfl) (by kernel_rfl) (by kernel_rfl) (fun _ _ _ h => h) (Or.inl ⟨by rfl, ?_⟩) (by assumption) ?_
          rotate_left
          · (intro w hSw; go_simp; first | done | (with_reducible rfl))
          simp only [Act.put, List.getElem_toArray, List.getElem_cons_succ, List.getElem_cons_zero, List.setIfInBounds_toArray, List.set_cons_zero, List.set_cons_succ]
          refine wpAnyH_take (i := 18) (oi := _) (v := ?_) rfl (by kernel_rfl) (by kernel_rfl) (by kernel_rfl) (fun _ _ _ h => h) (Or.inl ⟨by rfl, ?_⟩) (by assumption) ?_
          rotate_left
          · (intro w hSw; go_simp; first | done | (with_reducible rfl))
          simp only [Act.put, List.getElem_toArray, List.getElem_cons_succ, List.getElem_cons_zero, List.setIfInBounds_toArray, List.set_cons_zero, List.set_cons_succ]
          refine wpAnyH_done (by kernel_rfl) ?_ _
          have k5 : w4.cell? ⟨w.heap.size, 0, none⟩ = some (.int .i64 3) := by rw [← HKK.out]; exact HS2.out.1.cellv 0 _ rfl
          have t5 : w4.cell? ⟨w.heap.size, 14, none⟩ = some (.string d.tag) := HS2.out.1.cellv 14 _ rfl
          have t6 : w4.cell? ⟨w.heap.size, 13, none⟩ = some (.string d.data) := HS2.out.1.cellv 13 _ rfl
          go_wp2_with fail
          go_ret2
          rw [HEX.out]
          first
            | exact ⟨rfl, HS2.out.2⟩
            | (rw [HA.out]; exact ⟨rfl, HS2.out.2⟩)
  · have he : enc d = ([], 73) := by
      rw [enc_is d hf, if_neg h0, if_neg (fun q => hc (by rw [hk] at q; exact ⟨q .nonce (by simp [fieldsL]), q .cookie (by simp [fieldsL]), q .name (by simp [fieldsL]), q .tag (by simp [fieldsL])⟩))]
    have HFI : Keep (∀ W, Calls Tryz.prog 40 #[.agg d.cells.toArray] W fun e w' => e = .returned (.bool false) ∧ W.grownBy w' none) := ⟨fun W => by have := hFI W; rw [decide_eq_false hc] at this; exact this⟩
    rw [he]
    have HKK := Keep.mk hk
    clear hFI he h0 hc hk hf hs
    unfold dv
    go_enter Tryz.func20, Tryz.ntmps20
    go_wp2_with (refine wpList_load_mid rfl 26 _ rfl _ _ rfl d.cells _ (HC.out.1).range hdu hdr info26 ?_)
    refine (HFI.out _).mono ?_
    rintro e' w1 ⟨rfl, gn⟩
    have HG : Keep (w.grownBy w1 none) := ⟨HC.out.2.trans gn⟩
    clear gn
    go_wp2_with fail
    go_ret2
    exact ⟨rfl, HG.out⟩
end Go.Proofs.YtiphnlfbgbemfaaGreatDoor.Pk

/- the reference's Encode -/
namespace Go.Proofs.YtiphnlfbgbemfaaGreatDoor.Pk
open Go Go.RowKit
set_option maxHeartbeats 16000000 in
set_option maxRecDepth 100000 in
theorem renc_1 (d : Dg) (hf : d.fine) (hs : d.small) (w : World) (hk : d.kind = 1) :
    Calls Tryz.prog 20 #[dv d] w fun e w' => e = .returned (.tuple #[.string (ba (enc d).1), .int .i64 (enc d).2]) ∧ w.grownBy w' none := by
  obtain ⟨du, hdu, hdr⟩ := under26
  have h0 : ¬ fieldsL d.kind = [] := fieldsL_some (by omega)
  have hFI := fun W => rfits_1 d W hk
  obtain ⟨w0, hw0⟩ : ∃ q, w.alloc (.cells d.cells.toArray 26) = q := ⟨_, rfl⟩
  obtain ⟨h1, g1⟩ := alloc_has hw0
  have HC : Keep (Has w0 w.heap.size d.cells 26 ∧ w.grownBy w0 none) := ⟨h1, g1⟩
  have q1 : w.alloc (.cells #[.int .i64 d.kind, .string d.nonce, .int .u64 d.epoch, .string d.cookie, .string d.name, .int .u64 d.session, .int .i64 d.player, .string d.salt, .int .u64 d.seq, .int .i64 d.thr, .int .i64 d.turn, .bool d.fire, .bool d.boost, .string d.data, .string d.tag] 26) = w0 := hw0
  have c0 : w0.cell? ⟨w.heap.size, 0, none⟩ = some (.int .i64 1) := by rw [← hk]; exact h1.cellv 0 _ rfl
  clear hw0 h1 g1
  by_cases hc : d.nonce.size = 16
  · have hfit : ∀ f ∈ fieldsL d.kind, fitF d f := by
      rw [hk]
      intro f hm
      simp only [fieldsL, reduceIte, Int.reduceEq, List.mem_cons, List.not_mem_nil, or_false] at hm
      rcases hm with rfl | rfl
      · exact hc
      · exact trivial
    have he : enc d = if 1200 < (headL d ++ bytesF d (fieldsL d.kind)).length then ([], 72) else (headL d ++ bytesF d (fieldsL d.kind), 0) := by rw [enc_is d hf, if_neg h0, if_pos hfit]
    have HFI : Keep (∀ W, Calls Tryz.prog 40 #[.agg d.cells.toArray] W fun e w' => e = .returned (.bool true) ∧ W.grownBy w' none) := ⟨fun W => by have := hFI W; rw [decide_eq_true hc] at this; exact this⟩
    clear hFI hfit h0
    obtain ⟨X1, hX1⟩ : ∃ x, ba [(1 : UInt8)] = x := ⟨_, rfl⟩
    have hcv : ∀ W : World, (convert 39 9 (.slice (some ⟨W.heap.size, 0, none⟩) 1 1)).run Tryz.prog (W.alloc (.cells #[.int .u8 1] 5)) = .ok (.string X1) (W.alloc (.cells #[.int .u8 1] 5)) := fun W => by rw [← hX1]; exact cvt_new 1 1 rfl W
    obtain ⟨Pb, hPb⟩ : ∃ x, ba zero76 = x := ⟨_, rfl⟩
    obtain ⟨A0, hA0⟩ : ∃ x, mgB ++ X1 = x := ⟨_, rfl⟩
    obtain ⟨A1, hA1⟩ : ∃ x, A0 ++ d.nonce = x := ⟨_, rfl⟩
    obtain ⟨A2, hA2⟩ : ∃ x, A1 ++ Pb = x := ⟨_, rfl⟩
    have z0 : A0.size = 4 := by rw [← hA0, ByteArray.size_append, ← hX1]; rfl
    have zPb : Pb.size = 76 := by rw [← hPb, ba_size]; rfl
    have z1 : A1.size = A0.size + d.nonce.size := by rw [← hA1, ByteArray.size_append]
    have z2 : A2.size = A1.size + Pb.size := by rw [← hA2, ByteArray.size_append]
    have y_nonce := hs.n
    have b0 : ∀ W, (Op.stringOp .add { data := #[74, 48, 49] } X1).run Tryz.prog W = .ok (.string A0) W := fun W => by rw [← hA0]; exact addS mgB X1 (by rw [← hX1]; decide) W
    have b1 : ∀ W, (Op.stringOp .add A0 d.nonce).run Tryz.prog W = .ok (.string A1) W := fun W => by rw [← hA1]; exact addS A0 d.nonce (by omega) W
    have b2 : ∀ W, (Op.stringOp .add A1 Pb).run Tryz.prog W = .ok (.string A2) W := fun W => by rw [← hA2]; exact addS A1 Pb (by omega) W
    have hsl : headL d ++ bytesF d (fieldsL d.kind) = sl A2 := by
      rw [← hA2, ← hA1, ← hA0, ← hPb, ← hX1]
      rw [sl_app, sl_app, sl_app, hk]
      rw [show sl (ba [(1 : UInt8)]) = [1] from sl_mk _, show sl (ba zero76) = zero76 from sl_mk _]
      simp only [fieldsL, bytesF, List.map_cons, List.map_nil, List.flatten_cons, List.flatten_nil, reduceIte, Int.reduceEq, lyB, List.append_assoc, List.append_nil, headL, hk]
      rfl
    rw [hsl, sl_len] at he
    have HE := Keep.mk he
    have HA : Keep (ba (sl A2) = A2) := ⟨sl_back A2⟩
    have hmk : ∀ W : World, (Instr.makeSlice 39 (.int .i64 76) (.int .i64 76)).run Tryz.prog W = .ok (.slice (some ⟨W.heap.size, 0, none⟩) 76 76) (W.alloc (.cells (zero76.map bv).toArray 5)) := fun W => make28 76 (by decide) W
    have hcz : ∀ W : World, (convert 39 9 (.slice (some ⟨W.heap.size, 0, none⟩) 76 76)).run Tryz.prog (W.alloc (.cells (zero76.map bv).toArray 5)) = .ok (.string Pb) (W.alloc (.cells (zero76.map bv).toArray 5)) := fun W => by
      rw [← hPb]
      have h := Has.new W (zero76.map bv) 5
      exact cvt_cells _ (some ⟨W.heap.size, 0, none⟩) 76 zero76 (fun e => by cases e) (fun ad e j x hx => by
        obtain rfl := Option.some.inj e
        rw [Addr.add_mid, Nat.zero_add]
        exact h.cellv j _ (by rw [List.getElem?_map, hx]; rfl))
    generalize (zero76.map bv).toArray = ZZ at hmk hcz
    have HZ : Keep (A2.size ≤ 9223372036854775807) := ⟨by omega⟩
    clear he hsl hX1 hPb hA0 hA1 hA2 z0 z1 z2 zPb y_nonce hc hf hs
    have HKK := Keep.mk hk
    clear hk
    unfold dv
    rcases Nat.lt_or_ge 1200 A2.size with hl | hl
    case' inl => have hd1 : decide ((1200 : Int) < (A2.size : Int)) = true := decide_eq_true (by omega)
    case' inr => have hd1 : decide ((1200 : Int) < (A2.size : Int)) = false := decide_eq_false (by omega)
    case' inl => have hd2 : (1200 : Int) < (A2.size : Int) := by omega
    case' inr => have hd2 : ¬ (1200 : Int) < (A2.size : Int) := by omega
    case' inl => have hex : enc d = ([], 72) := by rw [HE.out, if_pos hl]
    case' inr => have hex : enc d = (sl A2, 0) := by rw [HE.out, if_neg (by omega)]
    all_goals
      have HEX := Keep.mk hex
      clear hex HE
      go_enter Tryz.func20, Tryz.ntmps20
      go_wp2_with (refine wpList_load_mid rfl 26 _ rfl _ _ rfl d.cells _ (HC.out.1).range hdu hdr info26 ?_)
      refine (HFI.out _).mono ?_
      rintro e' w1 ⟨rfl, gn⟩
      have HC1 : Keep (Has w1 w.heap.size d.cells 26 ∧ w.grownBy w1 none) := ⟨(HC.out.1).kept gn (by simp), (HC.out.2).trans gn⟩
      clear gn
      have k0 : w1.cell? ⟨w.heap.size, 0, none⟩ = some (.int .i64 1) := by rw [← HKK.out]; exact HC1.out.1.cellv 0 _ rfl
      obtain ⟨w2, hw2⟩ : ∃ q, w1.alloc (.cells #[.int .u8 1] 5) = q := ⟨_, rfl⟩
      have HC2 : Keep (Has w2 w.heap.size d.cells 26 ∧ w.grownBy w2 none) := ⟨by rw [← hw2]; exact HC1.out.1.alloc _, by rw [← hw2]; exact HC1.out.2.trans (World.grownBy_alloc _ _ _)⟩
      have hcv1 := hcv w1
      rw [hw2] at hcv1
      have n2 : w2.cell? ⟨w.heap.size, 1, none⟩ = some (.string d.nonce) := HC2.out.1.cellv 1 _ rfl
      have k2 : w2.cell? ⟨w.heap.size, 0, none⟩ = some (.int .i64 1) := by rw [← HKK.out]; exact HC2.out.1.cellv 0 _ rfl
      obtain ⟨w4, hw4⟩ : ∃ q, w2.alloc (.cells ZZ 5) = q := ⟨_, rfl⟩
      have HS2 : Keep (Has w4 w.heap.size d.cells 26 ∧ w.grownBy w4 none) := ⟨by rw [← hw4]; exact HC2.out.1.alloc _, by rw [← hw4]; exact HC2.out.2.trans (World.grownBy_alloc _ _ _)⟩
      have hcz1 := hcz w2
      have hmk1 := hmk w2
      rw [hw4] at hcz1 hmk1
      have k5 : w4.cell? ⟨w.heap.size, 0, none⟩ = some (.int .i64 1) := by rw [← HKK.out]; exact HS2.out.1.cellv 0 _ rfl
      go_wp2_with fail
      go_ret2
      rw [HEX.out]
      first
        | exact ⟨rfl, HS2.out.2⟩
        | (rw [HA.out]; exact ⟨rfl, HS2.out.2⟩)
  · have he : enc d = ([], 73) := by
      rw [enc_is d hf, if_neg h0, if_neg (fun q => hc (by rw [hk] at q; exact q .nonce (by simp [fieldsL])))]
    have HFI : Keep (∀ W, Calls Tryz.prog 40 #[.agg d.cells.toArray] W fun e w' => e = .returned (.bool false) ∧ W.grownBy w' none) := ⟨fun W => by have := hFI W; rw [decide_eq_false hc] at this; exact this⟩
    rw [he]
    have HKK := Keep.mk hk
    clear hFI he h0 hc hk hf hs
    unfold dv
    go_enter Tryz.func20, Tryz.ntmps20
    go_wp2_with (refine wpList_load_mid rfl 26 _ rfl _ _ rfl d.cells _ (HC.out.1).range hdu hdr info26 ?_)
    refine (HFI.out _).mono ?_
    rintro e' w1 ⟨rfl, gn⟩
    have HG : Keep (w.grownBy w1 none) := ⟨HC.out.2.trans gn⟩
    clear gn
    go_wp2_with fail
    go_ret2
    exact ⟨rfl, HG.out⟩
end Go.Proofs.YtiphnlfbgbemfaaGreatDoor.Pk

