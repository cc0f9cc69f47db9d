import Derived.Test.YtiphnlfbgbemfaaGreatDoorX10
import Derived.Test.YtiphnlfbgbemfaaGreatDoorX11
import Derived.Test.YtiphnlfbgbemfaaGreatDoorX9
import Derived.Test.YtiphnlfbgbemfaaGreatDoorX7
import Derived.Test.YtiphnlfbgbemfaaGreatDoorX2
/- the reference's Encode -/
namespace Go.Proofs.YtiphnlfbgbemfaaGreatDoor.Pk
open Go Go.RowKit
theorem be1x (x : Nat) : be 1 x = [UInt8.ofNat x] := by simp [be]
theorem cvt_has3 (a b c : UInt8) (z : Int) (hz : z = (c.toNat : Int)) (bb : Nat) (W : World) (h : Has W bb [.int .u8 (a.toNat : Int), .int .u8 (b.toNat : Int), .int .u8 z] 5) : (convert 39 9 (.slice (some ⟨bb, 0, none⟩) 3 3)).run Tryz.prog W = .ok (.string (ba [a, b, c])) W := by
  subst hz
  exact cvt_cells W (some ⟨bb, 0, none⟩) 3 [a, b, c] (fun e => by cases e) (fun ad e j x hx => by
    obtain rfl := Option.some.inj e
    rw [Addr.add_mid, Nat.zero_add]
    match j, hx with
    | 0, rfl => exact h.cellv 0 _ rfl
    | 1, rfl => exact h.cellv 1 _ rfl
    | 2, rfl => exact h.cellv 2 _ rfl)
set_option maxHeartbeats 16000000 in
set_option maxRecDepth 100000 in
theorem renc_500 (d : Dg) (hf : d.fine) (hs : d.small) (w : World) (hk : d.kind = 5) (hfi : d.fire = false) (hbo : d.boost = false) :
    Calls Tryz.prog 20 #[dv d] w fun e w' => e = .returned (.tuple #[.string (ba (enc d).1), .int .i64 (enc d).2]) ∧ w.grownBy w' none := by
  obtain ⟨du, hdu, hdr⟩ := under26
  have h0 : ¬ fieldsL d.kind = [] := fieldsL_some (by omega)
  have hFI := fun W => rfits_5 d W hk
  obtain ⟨w0, hw0⟩ : ∃ q, w.alloc (.cells d.cells.toArray 26) = q := ⟨_, rfl⟩
  obtain ⟨h1, g1⟩ := alloc_has hw0
  have HC : Keep (Has w0 w.heap.size d.cells 26 ∧ w.grownBy w0 none) := ⟨h1, g1⟩
  have q1 : w.alloc (.cells #[.int .i64 d.kind, .string d.nonce, .int .u64 d.epoch, .string d.cookie, .string d.name, .int .u64 d.session, .int .i64 d.player, .string d.salt, .int .u64 d.seq, .int .i64 d.thr, .int .i64 d.turn, .bool d.fire, .bool d.boost, .string d.data, .string d.tag] 26) = w0 := hw0
  have c0 : w0.cell? ⟨w.heap.size, 0, none⟩ = some (.int .i64 5) := by rw [← hk]; exact h1.cellv 0 _ rfl
  clear hw0 h1 g1
  by_cases hc : -128 ≤ d.thr ∧ d.thr ≤ 127 ∧ -128 ≤ d.turn ∧ d.turn ≤ 127 ∧ d.tag.size = 32
  · have hfit : ∀ f ∈ fieldsL d.kind, fitF d f := by
      rw [hk]
      intro f hm
      simp only [fieldsL, reduceIte, Int.reduceEq, List.mem_cons, List.not_mem_nil, or_false] at hm
      rcases hm with rfl | rfl | rfl | rfl | rfl | rfl
      · exact hf.s
      · exact hf.q
      · exact (fitsS1 _).2 ⟨hc.1, hc.2.1⟩
      · exact (fitsS1 _).2 ⟨hc.2.2.1, hc.2.2.2.1⟩
      · exact trivial
      · exact hc.2.2.2.2
    have he : enc d = if 1200 < (headL d ++ bytesF d (fieldsL d.kind)).length then ([], 72) else (headL d ++ bytesF d (fieldsL d.kind), 0) := by rw [enc_is d hf, if_neg h0, if_pos hfit]
    have HFI : Keep (∀ W, Calls Tryz.prog 40 #[.agg d.cells.toArray] W fun e w' => e = .returned (.bool true) ∧ W.grownBy w' none) := ⟨fun W => by have := hFI W; rw [decide_eq_true hc] at this; exact this⟩
    clear hFI hfit h0
    obtain ⟨X1, hX1⟩ : ∃ x, ba [(5 : UInt8)] = x := ⟨_, rfl⟩
    have hcv : ∀ W : World, (convert 39 9 (.slice (some ⟨W.heap.size, 0, none⟩) 1 1)).run Tryz.prog (W.alloc (.cells #[.int .u8 5] 5)) = .ok (.string X1) (W.alloc (.cells #[.int .u8 5] 5)) := fun W => by rw [← hX1]; exact cvt_new 5 5 rfl W
    obtain ⟨L1, hL1⟩ : ∃ x, ba (be 8 d.session) = x := ⟨_, rfl⟩
    obtain ⟨L2, hL2⟩ : ∃ x, ba (be 8 d.seq) = x := ⟨_, rfl⟩
    obtain ⟨C3, hC3⟩ : ∃ x, ba [UInt8.ofNat (u64 d.thr), UInt8.ofNat (u64 d.turn), UInt8.ofNat (flagsN d)] = x := ⟨_, rfl⟩
    obtain ⟨A0, hA0⟩ : ∃ x, mgB ++ X1 = x := ⟨_, rfl⟩
    obtain ⟨A1, hA1⟩ : ∃ x, A0 ++ L1 = x := ⟨_, rfl⟩
    obtain ⟨A2, hA2⟩ : ∃ x, A1 ++ L2 = x := ⟨_, rfl⟩
    obtain ⟨A3, hA3⟩ : ∃ x, A2 ++ C3 = x := ⟨_, rfl⟩
    obtain ⟨A4, hA4⟩ : ∃ x, A3 ++ d.tag = x := ⟨_, rfl⟩
    have z0 : A0.size = 4 := by rw [← hA0, ByteArray.size_append, ← hX1]; rfl
    have zL1 : L1.size = 8 := by rw [← hL1, ba_size, be_len]
    have zL2 : L2.size = 8 := by rw [← hL2, ba_size, be_len]
    have zC3 : C3.size = 3 := by rw [← hC3, ba_size]; rfl
    have z1 : A1.size = A0.size + L1.size := by rw [← hA1, ByteArray.size_append]
    have z2 : A2.size = A1.size + L2.size := by rw [← hA2, ByteArray.size_append]
    have z3 : A3.size = A2.size + C3.size := by rw [← hA3, ByteArray.size_append]
    have z4 : A4.size = A3.size + d.tag.size := by rw [← hA4, ByteArray.size_append]
    have y_tag := hs.t
    have b0 : ∀ W, (Op.stringOp .add { data := #[74, 48, 49] } X1).run Tryz.prog W = .ok (.string A0) W := fun W => by rw [← hA0]; exact addS mgB X1 (by rw [← hX1]; decide) W
    have b1 : ∀ W, (Op.stringOp .add A0 L1).run Tryz.prog W = .ok (.string A1) W := fun W => by rw [← hA1]; exact addS A0 L1 (by omega) W
    have b2 : ∀ W, (Op.stringOp .add A1 L2).run Tryz.prog W = .ok (.string A2) W := fun W => by rw [← hA2]; exact addS A1 L2 (by omega) W
    have b3 : ∀ W, (Op.stringOp .add A2 C3).run Tryz.prog W = .ok (.string A3) W := fun W => by rw [← hA3]; exact addS A2 C3 (by omega) W
    have b4 : ∀ W, (Op.stringOp .add A3 d.tag).run Tryz.prog W = .ok (.string A4) W := fun W => by rw [← hA4]; exact addS A3 d.tag (by omega) W
    have hsl : headL d ++ bytesF d (fieldsL d.kind) = sl A4 := by
      rw [← hA4, ← hA3, ← hA2, ← hA1, ← hA0, ← hL1, ← hL2, ← hC3, ← hX1]
      rw [sl_app, sl_app, sl_app, sl_app, sl_app, hk]
      rw [show sl (ba [(5 : UInt8)]) = [5] from sl_mk _, show sl (ba (be 8 d.session)) = be 8 d.session from sl_mk _, show sl (ba (be 8 d.seq)) = be 8 d.seq from sl_mk _, show sl (ba [UInt8.ofNat (u64 d.thr), UInt8.ofNat (u64 d.turn), UInt8.ofNat (flagsN d)]) = [UInt8.ofNat (u64 d.thr), UInt8.ofNat (u64 d.turn), UInt8.ofNat (flagsN d)] from sl_mk _]
      simp only [fieldsL, bytesF, List.map_cons, List.map_nil, List.flatten_cons, List.flatten_nil, reduceIte, Int.reduceEq, lyB, List.append_assoc, List.append_nil, headL, hk]
      simp only [be1x]
      rfl
    rw [hsl, sl_len] at he
    have HE := Keep.mk he
    have HA : Keep (ba (sl A4) = A4) := ⟨sl_back A4⟩
    have HR1 : Keep (∀ W, Calls Tryz.prog 41 #[.int .u64 d.session] W fun e w' => e = .returned (.string L1) ∧ W.grownBy w' none) := ⟨fun W => by rw [← hL1]; exact rlen_c d.session W hf.s⟩
    have HR2 : Keep (∀ W, Calls Tryz.prog 41 #[.int .u64 d.seq] W fun e w' => e = .returned (.string L2) ∧ W.grownBy w' none) := ⟨fun W => by rw [← hL2]; exact rlen_c d.seq W hf.q⟩
    have wth : IntKind.u8.wrap d.thr = ((UInt8.ofNat (u64 d.thr)).toNat : Int) := by have := hc.1; have := hc.2.1; simp [IntKind.wrap, show IntKind.u8.bits = 8 from rfl, show IntKind.u8.signed = false from rfl]; unfold u64; omega
    have wtu : IntKind.u8.wrap d.turn = ((UInt8.ofNat (u64 d.turn)).toNat : Int) := by have := hc.2.2.1; have := hc.2.2.2.1; simp [IntKind.wrap, show IntKind.u8.bits = 8 from rfl, show IntKind.u8.signed = false from rfl]; unfold u64; omega
    have HCB : Keep (∀ (W : World) (b : Nat), Has W b [.int .u8 ((UInt8.ofNat (u64 d.thr)).toNat : Int), .int .u8 ((UInt8.ofNat (u64 d.turn)).toNat : Int), .int .u8 0] 5 → (convert 39 9 (.slice (some ⟨b, 0, none⟩) 3 3)).run Tryz.prog W = .ok (.string C3) W) := ⟨fun W b h => by rw [← hC3]; exact cvt_has3 _ _ _ 0 (by simp [flagsN, hfi, hbo]) b W h⟩
    obtain ⟨za, hza⟩ : ∃ z : Int, ((UInt8.ofNat (u64 d.thr)).toNat : Int) = z := ⟨_, rfl⟩
    obtain ⟨zb, hzb⟩ : ∃ z : Int, ((UInt8.ofNat (u64 d.turn)).toNat : Int) = z := ⟨_, rfl⟩
    rw [hza] at wth HCB
    rw [hzb] at wtu HCB
    clear hza hzb
    have HZ : Keep (A4.size ≤ 9223372036854775807) := ⟨by omega⟩
    clear he hsl hX1 hL1 hL2 hC3 hA0 hA1 hA2 hA3 hA4 z0 z1 z2 z3 z4 zL1 zL2 zC3 y_tag hc hf hs
    have HKK := Keep.mk hk
    have HFB : Keep (d.fire = false ∧ d.boost = false) := ⟨hfi, hbo⟩
    clear hk hfi hbo
    unfold dv
    rcases Nat.lt_or_ge 1200 A4.size with hl | hl
    case' inl => have hd1 : decide ((1200 : Int) < (A4.size : Int)) = true := decide_eq_true (by omega)
    case' inr => have hd1 : decide ((1200 : Int) < (A4.size : Int)) = false := decide_eq_false (by omega)
    case' inl => have hd2 : (1200 : Int) < (A4.size : Int) := by omega
    case' inr => have hd2 : ¬ (1200 : Int) < (A4.size : Int) := by omega
    case' inl => have hex : enc d = ([], 72) := by rw [HE.out, if_pos hl]
    case' inr => have hex : enc d = (sl A4, 0) := by rw [HE.out, if_neg (by omega)]
    all_goals
      have HEX := Keep.mk hex
      clear hex HE
      go_enter Tryz.func20, Tryz.ntmps20
      go_wp2_with (refine wpList_load_mid rfl 26 _ rfl _ _ rfl d.cells _ (HC.out.1).range hdu hdr info26 ?_)
      refine (HFI.out _).mono ?_
      rintro e' w1 ⟨rfl, gn⟩
      have HC1 : Keep (Has w1 w.heap.size d.cells 26 ∧ w.grownBy w1 none) := ⟨(HC.out.1).kept gn (by simp), (HC.out.2).trans gn⟩
      clear gn
      have k0 : w1.cell? ⟨w.heap.size, 0, none⟩ = some (.int .i64 5) := by rw [← HKK.out]; exact HC1.out.1.cellv 0 _ rfl
      obtain ⟨w2, hw2⟩ : ∃ q, w1.alloc (.cells #[.int .u8 5] 5) = q := ⟨_, rfl⟩
      have HC2 : Keep (Has w2 w.heap.size d.cells 26 ∧ w.grownBy w2 none) := ⟨by rw [← hw2]; exact HC1.out.1.alloc _, by rw [← hw2]; exact HC1.out.2.trans (World.grownBy_alloc _ _ _)⟩
      have hcv1 := hcv w1
      rw [hw2] at hcv1
      have n2 : w2.cell? ⟨w.heap.size, 1, none⟩ = some (.string d.nonce) := HC2.out.1.cellv 1 _ rfl
      have k2 : w2.cell? ⟨w.heap.size, 0, none⟩ = some (.int .i64 5) := by rw [← HKK.out]; exact HC2.out.1.cellv 0 _ rfl
      go_wp2_with fail
      clear hcv1 hw2 k0 c0 q1 HC1
      have HH : Keep (Has w2.drew w.heap.size d.cells 26 ∧ w.grownBy w2.drew none) := ⟨HC2.out.1.kept (gr_drew _ none) (by simp), HC2.out.2.trans (gr_drew _ _)⟩
      refine wp_region_held_drew (S := fun w' => Has w' w.heap.size d.cells 26 ∧ w.grownBy w' none) (by kernel_rfl) HH.out (fun hHeld => ?_)
      refine wpAnyH_take (i := 0) (oi := _) (v := ?_) rfl (by kernel_rfl) (by kernel_rfl) (by kernel_rfl) (fun _ _ _ h => h) (Or.inl ⟨by rfl, ?_⟩) (by assumption) ?_
      rotate_left
      · (intro w hSw; go_simp; first | done | (with_reducible rfl))
      simp only [Act.put, List.getElem_toArray, List.getElem_cons_zero, List.setIfInBounds_toArray, List.set_cons_zero, List.set_cons_succ]
      refine wpAnyH_take (i := 1) (oi := _) (v := ?_) rfl (by kernel_rfl) (by kernel_rfl) (by kernel_rfl) (fun _ _ _ h => h) (Or.inl ⟨by rfl, ?_⟩) (by assumption) ?_
      rotate_left
      · (intro w hSw; go_simp; first | done | (with_reducible rfl))
      simp only [Act.put, List.getElem_toArray, List.getElem_cons_succ, List.getElem_cons_zero, List.setIfInBounds_toArray, List.set_cons_zero, List.set_cons_succ]
      refine wpAnyH_take (i := 2) (oi := _) (v := ?_) rfl (by kernel_rfl) (by kernel_rfl) (by kernel_rfl) (fun _ _ _ h => h) (Or.inl ⟨by rfl, ?_⟩) (by assumption) ?_
      rotate_left
      · (intro w hSw; have x1 := hSw.1.cellv 5 _ rfl; clear hSw; go_simp; first | done | (with_reducible rfl))
      simp only [Act.put, List.getElem_toArray, List.getElem_cons_succ, List.getElem_cons_zero, List.setIfInBounds_toArray, List.set_cons_zero, List.set_cons_succ]
      refine wpAnyH_take (i := 5) (oi := _) (v := ?_) rfl (by kernel_rfl) (by kernel_rfl) (by kernel_rfl) (fun _ _ _ h => h) (Or.inl ⟨by rfl, ?_⟩) (by assumption) ?_
      rotate_left
      · (intro w hSw; go_simp; first | done | (with_reducible rfl))
      simp only [Act.put, List.getElem_toArray, List.getElem_cons_succ, List.getElem_cons_zero, List.setIfInBounds_toArray, List.set_cons_zero, List.set_cons_succ]
      refine wpAnyH_take (i := 6) (oi := _) (v := ?_) rfl (by kernel_rfl) (by kernel_rfl) (by kernel_rfl) (fun _ _ _ h => h) (Or.inl ⟨by rfl, ?_⟩) (by assumption) ?_
      rotate_left
      · (intro w hSw; have x1 := hSw.1.cellv 8 _ rfl; clear hSw; go_simp; first | done | (with_reducible rfl))
      simp only [Act.put, List.getElem_toArray, List.getElem_cons_succ, List.getElem_cons_zero, List.setIfInBounds_toArray, List.set_cons_zero, List.set_cons_succ]
      refine wpAnyH_ready (rs := [3]) (by kernel_rfl) (by simp) ?_
      refine AllReadyH.cons rfl (fun K hK => ?_) AllReadyH.nil
      go_simp
      refine (HR1.out _).mono ?_
      rintro e' w3 ⟨rfl, gn⟩
      have HS1 : Keep (Has w3 w.heap.size d.cells 26 ∧ w.grownBy w3 none) := ⟨HH.out.1.kept gn (by simp), HH.out.2.trans gn⟩
      clear gn
      refine hK.out _ _ HS1.out (fun hHeld => ?_)
      clear hK K
      refine wpAnyH_take (i := 4) (oi := _) (v := ?_) rfl (by kernel_rfl) (by kernel_rfl) (by kernel_rfl) (fun _ _ _ h => h) (Or.inl ⟨by rfl, ?_⟩) (by assumption) ?_
      rotate_left
      · (intro w hSw; go_simp; first | done | (with_reducible rfl))
      simp only [Act.put, List.getElem_toArray, List.getElem_cons_succ, List.getElem_cons_zero, List.setIfInBounds_toArray, List.set_cons_zero, List.set_cons_succ]
      refine wpAnyH_ready (rs := [7]) (by kernel_rfl) (by simp) ?_
      refine AllReadyH.cons rfl (fun K hK => ?_) AllReadyH.nil
      go_simp
      refine (HR2.out _).mono ?_
      rintro e' w4 ⟨rfl, gn⟩
      have HS2 : Keep (Has w4 w.heap.size d.cells 26 ∧ w.grownBy w4 none) := ⟨HS1.out.1.kept gn (by simp), HS1.out.2.trans gn⟩
      clear gn
      refine hK.out _ _ HS2.out (fun hHeld => ?_)
      clear hK K
      refine wpAnyH_take (i := 8) (oi := _) (v := ?_) rfl (by kernel_rfl) (by kernel_rfl) (by kernel_rfl) (fun _ _ _ h => h) (Or.inl ⟨by rfl, ?_⟩) (by assumption) ?_
      rotate_left
      · (intro w hSw; go_simp; first | done | (with_reducible rfl))
      simp only [Act.put, List.getElem_toArray, List.getElem_cons_succ, List.getElem_cons_zero, List.setIfInBounds_toArray, List.set_cons_zero, List.set_cons_succ]
      refine wpAnyH_take (i := 9) (oi := _) (v := ?_) rfl (by kernel_rfl) (by kernel_rfl) (by kernel_rfl) (fun _ _ _ h => h) (Or.inl ⟨by rfl, ?_⟩) (by assumption) ?_
      rotate_left
      · (intro w hSw; go_simp; first | done | (with_reducible rfl))
      simp only [Act.put, List.getElem_toArray, List.getElem_cons_succ, List.getElem_cons_zero, List.setIfInBounds_toArray, List.set_cons_zero, List.set_cons_succ]
      refine wpAnyH_done (by kernel_rfl) ?_ _
      have k5 : w4.cell? ⟨w.heap.size, 0, none⟩ = some (.int .i64 5) := by rw [← HKK.out]; exact HS2.out.1.cellv 0 _ rfl
      have t5 : w4.cell? ⟨w.heap.size, 14, none⟩ = some (.string d.tag) := HS2.out.1.cellv 14 _ rfl
      have t6 : w4.cell? ⟨w.heap.size, 13, none⟩ = some (.string d.data) := HS2.out.1.cellv 13 _ rfl
      have c9 : w4.cell? ⟨w.heap.size, 9, none⟩ = some (.int .i64 d.thr) := HS2.out.1.cellv 9 _ rfl
      have c10 : w4.cell? ⟨w.heap.size, 10, none⟩ = some (.int .i64 d.turn) := HS2.out.1.cellv 10 _ rfl
      have c11 : w4.cell? ⟨w.heap.size, 11, none⟩ = some (.bool false) := by rw [← HFB.out.1]; exact HS2.out.1.cellv 11 _ rfl
      have c12 : w4.cell? ⟨w.heap.size, 12, none⟩ = some (.bool false) := by rw [← HFB.out.2]; exact HS2.out.1.cellv 12 _ rfl
      obtain ⟨w5, hw5⟩ : ∃ q, w4.alloc (.cells #[.int .u8 za, .int .u8 zb, .int .u8 0] 5) = q := ⟨_, rfl⟩
      have HS5 : Keep (Has w5 w.heap.size d.cells 26 ∧ w.grownBy w5 none) := ⟨by rw [← hw5]; exact HS2.out.1.alloc _, by rw [← hw5]; exact HS2.out.2.trans (World.grownBy_alloc _ _ _)⟩
      have hcx := HCB.out w5 w4.heap.size (by rw [← hw5]; exact Has.newA w4 _ 5)
      have k6 : w5.cell? ⟨w.heap.size, 0, none⟩ = some (.int .i64 5) := by rw [← HKK.out]; exact HS5.out.1.cellv 0 _ rfl
      have t7 : w5.cell? ⟨w.heap.size, 14, none⟩ = some (.string d.tag) := HS5.out.1.cellv 14 _ rfl
      replace HS2 := HS5
      go_wp2_with fail
      go_ret2
      rw [HEX.out]
      first
        | exact ⟨rfl, HS2.out.2⟩
        | (rw [HA.out]; exact ⟨rfl, HS2.out.2⟩)
  · have he : enc d = ([], 73) := by
      rw [enc_is d hf, if_neg h0, if_neg (fun q => hc (by rw [hk] at q; exact ⟨((fitsS1 _).1 (q .thr (by simp [fieldsL]))).1, ((fitsS1 _).1 (q .thr (by simp [fieldsL]))).2, ((fitsS1 _).1 (q .turn (by simp [fieldsL]))).1, ((fitsS1 _).1 (q .turn (by simp [fieldsL]))).2, q .tag (by simp [fieldsL])⟩))]
    have HFI : Keep (∀ W, Calls Tryz.prog 40 #[.agg d.cells.toArray] W fun e w' => e = .returned (.bool false) ∧ W.grownBy w' none) := ⟨fun W => by have := hFI W; rw [decide_eq_false hc] at this; exact this⟩
    rw [he]
    have HKK := Keep.mk hk
    clear hFI he h0 hc hk hf hs hfi hbo
    unfold dv
    go_enter Tryz.func20, Tryz.ntmps20
    go_wp2_with (refine wpList_load_mid rfl 26 _ rfl _ _ rfl d.cells _ (HC.out.1).range hdu hdr info26 ?_)
    refine (HFI.out _).mono ?_
    rintro e' w1 ⟨rfl, gn⟩
    have HG : Keep (w.grownBy w1 none) := ⟨HC.out.2.trans gn⟩
    clear gn
    go_wp2_with fail
    go_ret2
    exact ⟨rfl, HG.out⟩
set_option maxHeartbeats 16000000 in
set_option maxRecDepth 100000 in
theorem renc_501 (d : Dg) (hf : d.fine) (hs : d.small) (w : World) (hk : d.kind = 5) (hfi : d.fire = false) (hbo : d.boost = true) :
    Calls Tryz.prog 20 #[dv d] w fun e w' => e = .returned (.tuple #[.string (ba (enc d).1), .int .i64 (enc d).2]) ∧ w.grownBy w' none := by
  obtain ⟨du, hdu, hdr⟩ := under26
  have h0 : ¬ fieldsL d.kind = [] := fieldsL_some (by omega)
  have hFI := fun W => rfits_5 d W hk
  obtain ⟨w0, hw0⟩ : ∃ q, w.alloc (.cells d.cells.toArray 26) = q := ⟨_, rfl⟩
  obtain ⟨h1, g1⟩ := alloc_has hw0
  have HC : Keep (Has w0 w.heap.size d.cells 26 ∧ w.grownBy w0 none) := ⟨h1, g1⟩
  have q1 : w.alloc (.cells #[.int .i64 d.kind, .string d.nonce, .int .u64 d.epoch, .string d.cookie, .string d.name, .int .u64 d.session, .int .i64 d.player, .string d.salt, .int .u64 d.seq, .int .i64 d.thr, .int .i64 d.turn, .bool d.fire, .bool d.boost, .string d.data, .string d.tag] 26) = w0 := hw0
  have c0 : w0.cell? ⟨w.heap.size, 0, none⟩ = some (.int .i64 5) := by rw [← hk]; exact h1.cellv 0 _ rfl
  clear hw0 h1 g1
  by_cases hc : -128 ≤ d.thr ∧ d.thr ≤ 127 ∧ -128 ≤ d.turn ∧ d.turn ≤ 127 ∧ d.tag.size = 32
  · have hfit : ∀ f ∈ fieldsL d.kind, fitF d f := by
      rw [hk]
      intro f hm
      simp only [fieldsL, reduceIte, Int.reduceEq, List.mem_cons, List.not_mem_nil, or_false] at hm
      rcases hm with rfl | rfl | rfl | rfl | rfl | rfl
      · exact hf.s
      · exact hf.q
      · exact (fitsS1 _).2 ⟨hc.1, hc.2.1⟩
      · exact (fitsS1 _).2 ⟨hc.2.2.1, hc.2.2.2.1⟩
      · exact trivial
      · exact hc.2.2.2.2
    have he : enc d = if 1200 < (headL d ++ bytesF d (fieldsL d.kind)).length then ([], 72) else (headL d ++ bytesF d (fieldsL d.kind), 0) := by rw [enc_is d hf, if_neg h0, if_pos hfit]
    have HFI : Keep (∀ W, Calls Tryz.prog 40 #[.agg d.cells.toArray] W fun e w' => e = .returned (.bool true) ∧ W.grownBy w' none) := ⟨fun W => by have := hFI W; rw [decide_eq_true hc] at this; exact this⟩
    clear hFI hfit h0
    obtain ⟨X1, hX1⟩ : ∃ x, ba [(5 : UInt8)] = x := ⟨_, rfl⟩
    have hcv : ∀ W : World, (convert 39 9 (.slice (some ⟨W.heap.size, 0, none⟩) 1 1)).run Tryz.prog (W.alloc (.cells #[.int .u8 5] 5)) = .ok (.string X1) (W.alloc (.cells #[.int .u8 5] 5)) := fun W => by rw [← hX1]; exact cvt_new 5 5 rfl W
    obtain ⟨L1, hL1⟩ : ∃ x, ba (be 8 d.session) = x := ⟨_, rfl⟩
    obtain ⟨L2, hL2⟩ : ∃ x, ba (be 8 d.seq) = x := ⟨_, rfl⟩
    obtain ⟨C3, hC3⟩ : ∃ x, ba [UInt8.ofNat (u64 d.thr), UInt8.ofNat (u64 d.turn), UInt8.ofNat (flagsN d)] = x := ⟨_, rfl⟩
    obtain ⟨A0, hA0⟩ : ∃ x, mgB ++ X1 = x := ⟨_, rfl⟩
    obtain ⟨A1, hA1⟩ : ∃ x, A0 ++ L1 = x := ⟨_, rfl⟩
    obtain ⟨A2, hA2⟩ : ∃ x, A1 ++ L2 = x := ⟨_, rfl⟩
    obtain ⟨A3, hA3⟩ : ∃ x, A2 ++ C3 = x := ⟨_, rfl⟩
    obtain ⟨A4, hA4⟩ : ∃ x, A3 ++ d.tag = x := ⟨_, rfl⟩
    have z0 : A0.size = 4 := by rw [← hA0, ByteArray.size_append, ← hX1]; rfl
    have zL1 : L1.size = 8 := by rw [← hL1, ba_size, be_len]
    have zL2 : L2.size = 8 := by rw [← hL2, ba_size, be_len]
    have zC3 : C3.size = 3 := by rw [← hC3, ba_size]; rfl
    have z1 : A1.size = A0.size + L1.size := by rw [← hA1, ByteArray.size_append]
    have z2 : A2.size = A1.size + L2.size := by rw [← hA2, ByteArray.size_append]
    have z3 : A3.size = A2.size + C3.size := by rw [← hA3, ByteArray.size_append]
    have z4 : A4.size = A3.size + d.tag.size := by rw [← hA4, ByteArray.size_append]
    have y_tag := hs.t
    have b0 : ∀ W, (Op.stringOp .add { data := #[74, 48, 49] } X1).run Tryz.prog W = .ok (.string A0) W := fun W => by rw [← hA0]; exact addS mgB X1 (by rw [← hX1]; decide) W
    have b1 : ∀ W, (Op.stringOp .add A0 L1).run Tryz.prog W = .ok (.string A1) W := fun W => by rw [← hA1]; exact addS A0 L1 (by omega) W
    have b2 : ∀ W, (Op.stringOp .add A1 L2).run Tryz.prog W = .ok (.string A2) W := fun W => by rw [← hA2]; exact addS A1 L2 (by omega) W
    have b3 : ∀ W, (Op.stringOp .add A2 C3).run Tryz.prog W = .ok (.string A3) W := fun W => by rw [← hA3]; exact addS A2 C3 (by omega) W
    have b4 : ∀ W, (Op.stringOp .add A3 d.tag).run Tryz.prog W = .ok (.string A4) W := fun W => by rw [← hA4]; exact addS A3 d.tag (by omega) W
    have hsl : headL d ++ bytesF d (fieldsL d.kind) = sl A4 := by
      rw [← hA4, ← hA3, ← hA2, ← hA1, ← hA0, ← hL1, ← hL2, ← hC3, ← hX1]
      rw [sl_app, sl_app, sl_app, sl_app, sl_app, hk]
      rw [show sl (ba [(5 : UInt8)]) = [5] from sl_mk _, show sl (ba (be 8 d.session)) = be 8 d.session from sl_mk _, show sl (ba (be 8 d.seq)) = be 8 d.seq from sl_mk _, show sl (ba [UInt8.ofNat (u64 d.thr), UInt8.ofNat (u64 d.turn), UInt8.ofNat (flagsN d)]) = [UInt8.ofNat (u64 d.thr), UInt8.ofNat (u64 d.turn), UInt8.ofNat (flagsN d)] from sl_mk _]
      simp only [fieldsL, bytesF, List.map_cons, List.map_nil, List.flatten_cons, List.flatten_nil, reduceIte, Int.reduceEq, lyB, List.append_assoc, List.append_nil, headL, hk]
      simp only [be1x]
      rfl
    rw [hsl, sl_len] at he
    have HE := Keep.mk he
    have HA : Keep (ba (sl A4) = A4) := ⟨sl_back A4⟩
    have HR1 : Keep (∀ W, Calls Tryz.prog 41 #[.int .u64 d.session] W fun e w' => e = .returned (.string L1) ∧ W.grownBy w' none) := ⟨fun W => by rw [← hL1]; exact rlen_c d.session W hf.s⟩
    have HR2 : Keep (∀ W, Calls Tryz.prog 41 #[.int .u64 d.seq] W fun e w' => e = .returned (.string L2) ∧ W.grownBy w' none) := ⟨fun W => by rw [← hL2]; exact rlen_c d.seq W hf.q⟩
    have wth : IntKind.u8.wrap d.thr = ((UInt8.ofNat (u64 d.thr)).toNat : Int) := by have := hc.1; have := hc.2.1; simp [IntKind.wrap, show IntKind.u8.bits = 8 from rfl, show IntKind.u8.signed = false from rfl]; unfold u64; omega
    have wtu : IntKind.u8.wrap d.turn = ((UInt8.ofNat (u64 d.turn)).toNat : Int) := by have := hc.2.2.1; have := hc.2.2.2.1; simp [IntKind.wrap, show IntKind.u8.bits = 8 from rfl, show IntKind.u8.signed = false from rfl]; unfold u64; omega
    have HCB : Keep (∀ (W : World) (b : Nat), Has W b [.int .u8 ((UInt8.ofNat (u64 d.thr)).toNat : Int), .int .u8 ((UInt8.ofNat (u64 d.turn)).toNat : Int), .int .u8 2] 5 → (convert 39 9 (.slice (some ⟨b, 0, none⟩) 3 3)).run Tryz.prog W = .ok (.string C3) W) := ⟨fun W b h => by rw [← hC3]; exact cvt_has3 _ _ _ 2 (by simp [flagsN, hfi, hbo]) b W h⟩
    obtain ⟨za, hza⟩ : ∃ z : Int, ((UInt8.ofNat (u64 d.thr)).toNat : Int) = z := ⟨_, rfl⟩
    obtain ⟨zb, hzb⟩ : ∃ z : Int, ((UInt8.ofNat (u64 d.turn)).toNat : Int) = z := ⟨_, rfl⟩
    rw [hza] at wth HCB
    rw [hzb] at wtu HCB
    clear hza hzb
    have HZ : Keep (A4.size ≤ 9223372036854775807) := ⟨by omega⟩
    clear he hsl hX1 hL1 hL2 hC3 hA0 hA1 hA2 hA3 hA4 z0 z1 z2 z3 z4 zL1 zL2 zC3 y_tag hc hf hs
    have HKK := Keep.mk hk
    have HFB : Keep (d.fire = false ∧ d.boost = true) := ⟨hfi, hbo⟩
    clear hk hfi hbo
    unfold dv
    rcases Nat.lt_or_ge 1200 A4.size with hl | hl
    case' inl => have hd1 : decide ((1200 : Int) < (A4.size : Int)) = true := decide_eq_true (by omega)
    case' inr => have hd1 : decide ((1200 : Int) < (A4.size : Int)) = false := decide_eq_false (by omega)
    case' inl => have hd2 : (1200 : Int) < (A4.size : Int) := by omega
    case' inr => have hd2 : ¬ (1200 : Int) < (A4.size : Int) := by omega
    case' inl => have hex : enc d = ([], 72) := by rw [HE.out, if_pos hl]
    case' inr => have hex : enc d = (sl A4, 0) := by rw [HE.out, if_neg (by omega)]
    all_goals
      have HEX := Keep.mk hex
      clear hex HE
      go_enter Tryz.func20, Tryz.ntmps20
      go_wp2_with (refine wpList_load_mid rfl 26 _ rfl _ _ rfl d.cells _ (HC.out.1).range hdu hdr info26 ?_)
      refine (HFI.out _).mono ?_
      rintro e' w1 ⟨rfl, gn⟩
      have HC1 : Keep (Has w1 w.heap.size d.cells 26 ∧ w.grownBy w1 none) := ⟨(HC.out.1).kept gn (by simp), (HC.out.2).trans gn⟩
      clear gn
      have k0 : w1.cell? ⟨w.heap.size, 0, none⟩ = some (.int .i64 5) := by rw [← HKK.out]; exact HC1.out.1.cellv 0 _ rfl
      obtain ⟨w2, hw2⟩ : ∃ q, w1.alloc (.cells #[.int .u8 5] 5) = q := ⟨_, rfl⟩
      have HC2 : Keep (Has w2 w.heap.size d.cells 26 ∧ w.grownBy w2 none) := ⟨by rw [← hw2]; exact HC1.out.1.alloc _, by rw [← hw2]; exact HC1.out.2.trans (World.grownBy_alloc _ _ _)⟩
      have hcv1 := hcv w1
      rw [hw2] at hcv1
      have n2 : w2.cell? ⟨w.heap.size, 1, none⟩ = some (.string d.nonce) := HC2.out.1.cellv 1 _ rfl
      have k2 : w2.cell? ⟨w.heap.size, 0, none⟩ = some (.int .i64 5) := by rw [← HKK.out]; exact HC2.out.1.cellv 0 _ rfl
      go_wp2_with fail
      clear hcv1 hw2 k0 c0 q1 HC1
      have HH : Keep (Has w2.drew w.heap.size d.cells 26 ∧ w.grownBy w2.drew none) := ⟨HC2.out.1.kept (gr_drew _ none) (by simp), HC2.out.2.trans (gr_drew _ _)⟩
      refine wp_region_held_drew (S := fun w' => Has w' w.heap.size d.cells 26 ∧ w.grownBy w' none) (by kernel_rfl) HH.out (fun hHeld => ?_)
      refine wpAnyH_take (i := 0) (oi := _) (v := ?_) rfl (by kernel_rfl) (by kernel_rfl) (by kernel_rfl) (fun _ _ _ h => h) (Or.inl ⟨by rfl, ?_⟩) (by assumption) ?_
      rotate_left
      · (intro w hSw; go_simp; first | done | (with_reducible rfl))
      simp only [Act.put, List.getElem_toArray, List.getElem_cons_zero, List.setIfInBounds_toArray, List.set_cons_zero, List.set_cons_succ]
      refine wpAnyH_take (i := 1) (oi := _) (v := ?_) rfl (by kernel_rfl) (by kernel_rfl) (by kernel_rfl) (fun _ _ _ h => h) (Or.inl ⟨by rfl, ?_⟩) (by assumption) ?_
      rotate_left
      · (intro w hSw; go_simp; first | done | (with_reducible rfl))
      simp only [Act.put, List.getElem_toArray, List.getElem_cons_succ, List.getElem_cons_zero, List.setIfInBounds_toArray, List.set_cons_zero, List.set_cons_succ]
      refine wpAnyH_take (i := 2) (oi := _) (v := ?_) rfl (by kernel_rfl) (by kernel_rfl) (by kernel_rfl) (fun _ _ _ h => h) (Or.inl ⟨by rfl, ?_⟩) (by assumption) ?_
      rotate_left
      · (intro w hSw; have x1 := hSw.1.cellv 5 _ rfl; clear hSw; go_simp; first | done | (with_reducible rfl))
      simp only [Act.put, List.getElem_toArray, List.getElem_cons_succ, List.getElem_cons_zero, List.setIfInBounds_toArray, List.set_cons_zero, List.set_cons_succ]
      refine wpAnyH_take (i := 5) (oi := _) (v := ?_) rfl (by kernel_rfl) (by kernel_rfl) (by kernel_rfl) (fun _ _ _ h => h) (Or.inl ⟨by rfl, ?_⟩) (by assumption) ?_
      rotate_left
      · (intro w hSw; go_simp; first | done | (with_reducible rfl))
      simp only [Act.put, List.getElem_toArray, List.getElem_cons_succ, List.getElem_cons_zero, List.setIfInBounds_toArray, List.set_cons_zero, List.set_cons_succ]
      refine wpAnyH_take (i := 6) (oi := _) (v := ?_) rfl (by kernel_rfl) (by kernel_rfl) (by kernel_rfl) (fun _ _ _ h => h) (Or.inl ⟨by rfl, ?_⟩) (by assumption) ?_
      rotate_left
      · (intro w hSw; have x1 := hSw.1.cellv 8 _ rfl; clear hSw; go_simp; first | done | (with_reducible rfl))
      simp only [Act.put, List.getElem_toArray, List.getElem_cons_succ, List.getElem_cons_zero, List.setIfInBounds_toArray, List.set_cons_zero, List.set_cons_succ]
      refine wpAnyH_ready (rs := [3]) (by kernel_rfl) (by simp) ?_
      refine AllReadyH.cons rfl (fun K hK => ?_) AllReadyH.nil
      go_simp
      refine (HR1.out _).mono ?_
      rintro e' w3 ⟨rfl, gn⟩
      have HS1 : Keep (Has w3 w.heap.size d.cells 26 ∧ w.grownBy w3 none) := ⟨HH.out.1.kept gn (by simp), HH.out.2.trans gn⟩
      clear gn
      refine hK.out _ _ HS1.out (fun hHeld => ?_)
      clear hK K
      refine wpAnyH_take (i := 4) (oi := _) (v := ?_) rfl (by kernel_rfl) (by kernel_rfl) (by kernel_rfl) (fun _ _ _ h => h) (Or.inl ⟨by rfl, ?_⟩) (by assumption) ?_
      rotate_left
      · (intro w hSw; go_simp; first | done | (with_reducible rfl))
      simp only [Act.put, List.getElem_toArray, List.getElem_cons_succ, List.getElem_cons_zero, List.setIfInBounds_toArray, List.set_cons_zero, List.set_cons_succ]
      refine wpAnyH_ready (rs := [7]) (by kernel_rfl) (by simp) ?_
      refine AllReadyH.cons rfl (fun K hK => ?_) AllReadyH.nil
      go_simp
      refine (HR2.out _).mono ?_
      rintro e' w4 ⟨rfl, gn⟩
      have HS2 : Keep (Has w4 w.heap.size d.cells 26 ∧ w.grownBy w4 none) := ⟨HS1.out.1.kept gn (by simp), HS1.out.2.trans gn⟩
      clear gn
      refine hK.out _ _ HS2.out (fun hHeld => ?_)
      clear hK K
      refine wpAnyH_take (i := 8) (oi := _) (v := ?_) rfl (by kernel_rfl) (by kernel_rfl) (by kernel_rfl) (fun _ _ _ h => h) (Or.inl ⟨by rfl, ?_⟩) (by assumption) ?_
      rotate_left
      · (intro w hSw; go_simp; first | done | (with_reducible rfl))
      simp only [Act.put, List.getElem_toArray, List.getElem_cons_succ, List.getElem_cons_zero, List.setIfInBounds_toArray, List.set_cons_zero, List.set_cons_succ]
      refine wpAnyH_take (i := 9) (oi := _) (v := ?_) rfl (by kernel_rfl) (by kernel_rfl) (by kernel_rfl) (fun _ _ _ h => h) (Or.inl ⟨by rfl, ?_⟩) (by assumption) ?_
      rotate_left
      · (intro w hSw; go_simp; first | done | (with_reducible rfl))
      simp only [Act.put, List.getElem_toArray, List.getElem_cons_succ, List.getElem_cons_zero, List.setIfInBounds_toArray, List.set_cons_zero, List.set_cons_succ]
      refine wpAnyH_done (by kernel_rfl) ?_ _
      have k5 : w4.cell? ⟨w.heap.size, 0, none⟩ = some (.int .i64 5) := by rw [← HKK.out]; exact HS2.out.1.cellv 0 _ rfl
      have t5 : w4.cell? ⟨w.heap.size, 14, none⟩ = some (.string d.tag) := HS2.out.1.cellv 14 _ rfl
      have t6 : w4.cell? ⟨w.heap.size, 13, none⟩ = some (.string d.data) := HS2.out.1.cellv 13 _ rfl
      have c9 : w4.cell? ⟨w.heap.size, 9, none⟩ = some (.int .i64 d.thr) := HS2.out.1.cellv 9 _ rfl
      have c10 : w4.cell? ⟨w.heap.size, 10, none⟩ = some (.int .i64 d.turn) := HS2.out.1.cellv 10 _ rfl
      have c11 : w4.cell? ⟨w.heap.size, 11, none⟩ = some (.bool false) := by rw [← HFB.out.1]; exact HS2.out.1.cellv 11 _ rfl
      have c12 : w4.cell? ⟨w.heap.size, 12, none⟩ = some (.bool true) := by rw [← HFB.out.2]; exact HS2.out.1.cellv 12 _ rfl
      obtain ⟨w5, hw5⟩ : ∃ q, w4.alloc (.cells #[.int .u8 za, .int .u8 zb, .int .u8 2] 5) = q := ⟨_, rfl⟩
      have HS5 : Keep (Has w5 w.heap.size d.cells 26 ∧ w.grownBy w5 none) := ⟨by rw [← hw5]; exact HS2.out.1.alloc _, by rw [← hw5]; exact HS2.out.2.trans (World.grownBy_alloc _ _ _)⟩
      have hcx := HCB.out w5 w4.heap.size (by rw [← hw5]; exact Has.newA w4 _ 5)
      have k6 : w5.cell? ⟨w.heap.size, 0, none⟩ = some (.int .i64 5) := by rw [← HKK.out]; exact HS5.out.1.cellv 0 _ rfl
      have t7 : w5.cell? ⟨w.heap.size, 14, none⟩ = some (.string d.tag) := HS5.out.1.cellv 14 _ rfl
      replace HS2 := HS5
      go_wp2_with fail
      go_ret2
      rw [HEX.out]
      first
        | exact ⟨rfl, HS2.out.2⟩
        | (rw [HA.out]; exact ⟨rfl, HS2.out.2⟩)
  · have he : enc d = ([], 73) := by
      rw [enc_is d hf, if_neg h0, if_neg (fun q => hc (by rw [hk] at q; exact ⟨((fitsS1 _).1 (q .thr (by simp [fieldsL]))).1, ((fitsS1 _).1 (q .thr (by simp [fieldsL]))).2, ((fitsS1 _).1 (q .turn (by simp [fieldsL]))).1, ((fitsS1 _).1 (q .turn (by simp [fieldsL]))).2, q .tag (by simp [fieldsL])⟩))]
    have HFI : Keep (∀ W, Calls Tryz.prog 40 #[.agg d.cells.toArray] W fun e w' => e = .returned (.bool false) ∧ W.grownBy w' none) := ⟨fun W => by have := hFI W; rw [decide_eq_false hc] at this; exact this⟩
    rw [he]
    have HKK := Keep.mk hk
    clear hFI he h0 hc hk hf hs hfi hbo
    unfold dv
    go_enter Tryz.func20, Tryz.ntmps20
    go_wp2_with (refine wpList_load_mid rfl 26 _ rfl _ _ rfl d.cells _ (HC.out.1).range hdu hdr info26 ?_)
    refine (HFI.out _).mono ?_
    rintro e' w1 ⟨rfl, gn⟩
    have HG : Keep (w.grownBy w1 none) := ⟨HC.out.2.trans gn⟩
    clear gn
    go_wp2_with fail
    go_ret2
    exact ⟨rfl, HG.out⟩
set_option maxHeartbeats 16000000 in
set_option maxRecDepth 100000 in
theorem renc_510 (d : Dg) (hf : d.fine) (hs : d.small) (w : World) (hk : d.kind = 5) (hfi : d.fire = true) (hbo : d.boost = false) :
    Calls Tryz.prog 20 #[dv d] w fun e w' => e = .returned (.tuple #[.string (ba (enc d).1), .int .i64 (enc d).2]) ∧ w.grownBy w' none := by
  obtain ⟨du, hdu, hdr⟩ := under26
  have h0 : ¬ fieldsL d.kind = [] := fieldsL_some (by omega)
  have hFI := fun W => rfits_5 d W hk
  obtain ⟨w0, hw0⟩ : ∃ q, w.alloc (.cells d.cells.toArray 26) = q := ⟨_, rfl⟩
  obtain ⟨h1, g1⟩ := alloc_has hw0
  have HC : Keep (Has w0 w.heap.size d.cells 26 ∧ w.grownBy w0 none) := ⟨h1, g1⟩
  have q1 : w.alloc (.cells #[.int .i64 d.kind, .string d.nonce, .int .u64 d.epoch, .string d.cookie, .string d.name, .int .u64 d.session, .int .i64 d.player, .string d.salt, .int .u64 d.seq, .int .i64 d.thr, .int .i64 d.turn, .bool d.fire, .bool d.boost, .string d.data, .string d.tag] 26) = w0 := hw0
  have c0 : w0.cell? ⟨w.heap.size, 0, none⟩ = some (.int .i64 5) := by rw [← hk]; exact h1.cellv 0 _ rfl
  clear hw0 h1 g1
  by_cases hc : -128 ≤ d.thr ∧ d.thr ≤ 127 ∧ -128 ≤ d.turn ∧ d.turn ≤ 127 ∧ d.tag.size = 32
  · have hfit : ∀ f ∈ fieldsL d.kind, fitF d f := by
      rw [hk]
      intro f hm
      simp only [fieldsL, reduceIte, Int.reduceEq, List.mem_cons, List.not_mem_nil, or_false] at hm
      rcases hm with rfl | rfl | rfl | rfl | rfl | rfl
      · exact hf.s
      · exact hf.q
      · exact (fitsS1 _).2 ⟨hc.1, hc.2.1⟩
      · exact (fitsS1 _).2 ⟨hc.2.2.1, hc.2.2.2.1⟩
      · exact trivial
      · exact hc.2.2.2.2
    have he : enc d = if 1200 < (headL d ++ bytesF d (fieldsL d.kind)).length then ([], 72) else (headL d ++ bytesF d (fieldsL d.kind), 0) := by rw [enc_is d hf, if_neg h0, if_pos hfit]
    have HFI : Keep (∀ W, Calls Tryz.prog 40 #[.agg d.cells.toArray] W fun e w' => e = .returned (.bool true) ∧ W.grownBy w' none) := ⟨fun W => by have := hFI W; rw [decide_eq_true hc] at this; exact this⟩
    clear hFI hfit h0
    obtain ⟨X1, hX1⟩ : ∃ x, ba [(5 : UInt8)] = x := ⟨_, rfl⟩
    have hcv : ∀ W : World, (convert 39 9 (.slice (some ⟨W.heap.size, 0, none⟩) 1 1)).run Tryz.prog (W.alloc (.cells #[.int .u8 5] 5)) = .ok (.string X1) (W.alloc (.cells #[.int .u8 5] 5)) := fun W => by rw [← hX1]; exact cvt_new 5 5 rfl W
    obtain ⟨L1, hL1⟩ : ∃ x, ba (be 8 d.session) = x := ⟨_, rfl⟩
    obtain ⟨L2, hL2⟩ : ∃ x, ba (be 8 d.seq) = x := ⟨_, rfl⟩
    obtain ⟨C3, hC3⟩ : ∃ x, ba [UInt8.ofNat (u64 d.thr), UInt8.ofNat (u64 d.turn), UInt8.ofNat (flagsN d)] = x := ⟨_, rfl⟩
    obtain ⟨A0, hA0⟩ : ∃ x, mgB ++ X1 = x := ⟨_, rfl⟩
    obtain ⟨A1, hA1⟩ : ∃ x, A0 ++ L1 = x := ⟨_, rfl⟩
    obtain ⟨A2, hA2⟩ : ∃ x, A1 ++ L2 = x := ⟨_, rfl⟩
    obtain ⟨A3, hA3⟩ : ∃ x, A2 ++ C3 = x := ⟨_, rfl⟩
    obtain ⟨A4, hA4⟩ : ∃ x, A3 ++ d.tag = x := ⟨_, rfl⟩
    have z0 : A0.size = 4 := by rw [← hA0, ByteArray.size_append, ← hX1]; rfl
    have zL1 : L1.size = 8 := by rw [← hL1, ba_size, be_len]
    have zL2 : L2.size = 8 := by rw [← hL2, ba_size, be_len]
    have zC3 : C3.size = 3 := by rw [← hC3, ba_size]; rfl
    have z1 : A1.size = A0.size + L1.size := by rw [← hA1, ByteArray.size_append]
    have z2 : A2.size = A1.size + L2.size := by rw [← hA2, ByteArray.size_append]
    have z3 : A3.size = A2.size + C3.size := by rw [← hA3, ByteArray.size_append]
    have z4 : A4.size = A3.size + d.tag.size := by rw [← hA4, ByteArray.size_append]
    have y_tag := hs.t
    have b0 : ∀ W, (Op.stringOp .add { data := #[74, 48, 49] } X1).run Tryz.prog W = .ok (.string A0) W := fun W => by rw [← hA0]; exact addS mgB X1 (by rw [← hX1]; decide) W
    have b1 : ∀ W, (Op.stringOp .add A0 L1).run Tryz.prog W = .ok (.string A1) W := fun W => by rw [← hA1]; exact addS A0 L1 (by omega) W
    have b2 : ∀ W, (Op.stringOp .add A1 L2).run Tryz.prog W = .ok (.string A2) W := fun W => by rw [← hA2]; exact addS A1 L2 (by omega) W
    have b3 : ∀ W, (Op.stringOp .add A2 C3).run Tryz.prog W = .ok (.string A3) W := fun W => by rw [← hA3]; exact addS A2 C3 (by omega) W
    have b4 : ∀ W, (Op.stringOp .add A3 d.tag).run Tryz.prog W = .ok (.string A4) W := fun W => by rw [← hA4]; exact addS A3 d.tag (by omega) W
    have hsl : headL d ++ bytesF d (fieldsL d.kind) = sl A4 := by
      rw [← hA4, ← hA3, ← hA2, ← hA1, ← hA0, ← hL1, ← hL2, ← hC3, ← hX1]
      rw [sl_app, sl_app, sl_app, sl_app, sl_app, hk]
      rw [show sl (ba [(5 : UInt8)]) = [5] from sl_mk _, show sl (ba (be 8 d.session)) = be 8 d.session from sl_mk _, show sl (ba (be 8 d.seq)) = be 8 d.seq from sl_mk _, show sl (ba [UInt8.ofNat (u64 d.thr), UInt8.ofNat (u64 d.turn), UInt8.ofNat (flagsN d)]) = [UInt8.ofNat (u64 d.thr), UInt8.ofNat (u64 d.turn), UInt8.ofNat (flagsN d)] from sl_mk _]
      simp only [fieldsL, bytesF, List.map_cons, List.map_nil, List.flatten_cons, List.flatten_nil, reduceIte, Int.reduceEq, lyB, List.append_assoc, List.append_nil, headL, hk]
      simp only [be1x]
      rfl
    rw [hsl, sl_len] at he
    have HE := Keep.mk he
    have HA : Keep (ba (sl A4) = A4) := ⟨sl_back A4⟩
    have HR1 : Keep (∀ W, Calls Tryz.prog 41 #[.int .u64 d.session] W fun e w' => e = .returned (.string L1) ∧ W.grownBy w' none) := ⟨fun W => by rw [← hL1]; exact rlen_c d.session W hf.s⟩
    have HR2 : Keep (∀ W, Calls Tryz.prog 41 #[.int .u64 d.seq] W fun e w' => e = .returned (.string L2) ∧ W.grownBy w' none) := ⟨fun W => by rw [← hL2]; exact rlen_c d.seq W hf.q⟩
    have wth : IntKind.u8.wrap d.thr = ((UInt8.ofNat (u64 d.thr)).toNat : Int) := by have := hc.1; have := hc.2.1; simp [IntKind.wrap, show IntKind.u8.bits = 8 from rfl, show IntKind.u8.signed = false from rfl]; unfold u64; omega
    have wtu : IntKind.u8.wrap d.turn = ((UInt8.ofNat (u64 d.turn)).toNat : Int) := by have := hc.2.2.1; have := hc.2.2.2.1; simp [IntKind.wrap, show IntKind.u8.bits = 8 from rfl, show IntKind.u8.signed = false from rfl]; unfold u64; omega
    have HCB : Keep (∀ (W : World) (b : Nat), Has W b [.int .u8 ((UInt8.ofNat (u64 d.thr)).toNat : Int), .int .u8 ((UInt8.ofNat (u64 d.turn)).toNat : Int), .int .u8 1] 5 → (convert 39 9 (.slice (some ⟨b, 0, none⟩) 3 3)).run Tryz.prog W = .ok (.string C3) W) := ⟨fun W b h => by rw [← hC3]; exact cvt_has3 _ _ _ 1 (by simp [flagsN, hfi, hbo]) b W h⟩
    obtain ⟨za, hza⟩ : ∃ z : Int, ((UInt8.ofNat (u64 d.thr)).toNat : Int) = z := ⟨_, rfl⟩
    obtain ⟨zb, hzb⟩ : ∃ z : Int, ((UInt8.ofNat (u64 d.turn)).toNat : Int) = z := ⟨_, rfl⟩
    rw [hza] at wth HCB
    rw [hzb] at wtu HCB
    clear hza hzb
    have HZ : Keep (A4.size ≤ 9223372036854775807) := ⟨by omega⟩
    clear he hsl hX1 hL1 hL2 hC3 hA0 hA1 hA2 hA3 hA4 z0 z1 z2 z3 z4 zL1 zL2 zC3 y_tag hc hf hs
    have HKK := Keep.mk hk
    have HFB : Keep (d.fire = true ∧ d.boost = false) := ⟨hfi, hbo⟩
    clear hk hfi hbo
    unfold dv
    rcases Nat.lt_or_ge 1200 A4.size with hl | hl
    case' inl => have hd1 : decide ((1200 : Int) < (A4.size : Int)) = true := decide_eq_true (by omega)
    case' inr => have hd1 : decide ((1200 : Int) < (A4.size : Int)) = false := decide_eq_false (by omega)
    case' inl => have hd2 : (1200 : Int) < (A4.size : Int) := by omega
    case' inr => have hd2 : ¬ (1200 : Int) < (A4.size : Int) := by omega
    case' inl => have hex : enc d = ([], 72) := by rw [HE.out, if_pos hl]
    case' inr => have hex : enc d = (sl A4, 0) := by rw [HE.out, if_neg (by omega)]
    all_goals
      have HEX := Keep.mk hex
      clear hex HE
      go_enter Tryz.func20, Tryz.ntmps20
      go_wp2_with (refine wpList_load_mid rfl 26 _ rfl _ _ rfl d.cells _ (HC.out.1).range hdu hdr info26 ?_)
      refine (HFI.out _).mono ?_
      rintro e' w1 ⟨rfl, gn⟩
      have HC1 : Keep (Has w1 w.heap.size d.cells 26 ∧ w.grownBy w1 none) := ⟨(HC.out.1).kept gn (by simp), (HC.out.2).trans gn⟩
      clear gn
      have k0 : w1.cell? ⟨w.heap.size, 0, none⟩ = some (.int .i64 5) := by rw [← HKK.out]; exact HC1.out.1.cellv 0 _ rfl
      obtain ⟨w2, hw2⟩ : ∃ q, w1.alloc (.cells #[.int .u8 5] 5) = q := ⟨_, rfl⟩
      have HC2 : Keep (Has w2 w.heap.size d.cells 26 ∧ w.grownBy w2 none) := ⟨by rw [← hw2]; exact HC1.out.1.alloc _, by rw [← hw2]; exact HC1.out.2.trans (World.grownBy_alloc _ _ _)⟩
      have hcv1 := hcv w1
      rw [hw2] at hcv1
      have n2 : w2.cell? ⟨w.heap.size, 1, none⟩ = some (.string d.nonce) := HC2.out.1.cellv 1 _ rfl
      have k2 : w2.cell? ⟨w.heap.size, 0, none⟩ = some (.int .i64 5) := by rw [← HKK.out]; exact HC2.out.1.cellv 0 _ rfl
      go_wp2_with fail
      clear hcv1 hw2 k0 c0 q1 HC1
      have HH : Keep (Has w2.drew w.heap.size d.cells 26 ∧ w.grownBy w2.drew none) := ⟨HC2.out.1.kept (gr_drew _ none) (by simp), HC2.out.2.trans (gr_drew _ _)⟩
      refine wp_region_held_drew (S := fun w' => Has w' w.heap.size d.cells 26 ∧ w.grownBy w' none) (by kernel_rfl) HH.out (fun hHeld => ?_)
      refine wpAnyH_take (i := 0) (oi := _) (v := ?_) rfl (by kernel_rfl) (by kernel_rfl) (by kernel_rfl) (fun _ _ _ h => h) (Or.inl ⟨by rfl, ?_⟩) (by assumption) ?_
      rotate_left
      · (intro w hSw; go_simp; first | done | (with_reducible rfl))
      simp only [Act.put, List.getElem_toArray, List.getElem_cons_zero, List.setIfInBounds_toArray, List.set_cons_zero, List.set_cons_succ]
      refine wpAnyH_take (i := 1) (oi := _) (v := ?_) rfl (by kernel_rfl) (by kernel_rfl) (by kernel_rfl) (fun _ _ _ h => h) (Or.inl ⟨by rfl, ?_⟩) (by assumption) ?_
      rotate_left
      · (intro w hSw; go_simp; first | done | (with_reducible rfl))
      simp only [Act.put, List.getElem_toArray, List.getElem_cons_succ, List.getElem_cons_zero, List.setIfInBounds_toArray, List.set_cons_zero, List.set_cons_succ]
      refine wpAnyH_take (i := 2) (oi := _) (v := ?_) rfl (by kernel_rfl) (by kernel_rfl) (by kernel_rfl) (fun _ _ _ h => h) (Or.inl ⟨by rfl, ?_⟩) (by assumption) ?_
      rotate_left
      · (intro w hSw; have x1 := hSw.1.cellv 5 _ rfl; clear hSw; go_simp; first | done | (with_reducible rfl))
      simp only [Act.put, List.getElem_toArray, List.getElem_cons_succ, List.getElem_cons_zero, List.setIfInBounds_toArray, List.set_cons_zero, List.set_cons_succ]
      refine wpAnyH_take (i := 5) (oi := _) (v := ?_) rfl (by kernel_rfl) (by kernel_rfl) (by kernel_rfl) (fun _ _ _ h => h) (Or.inl ⟨by rfl, ?_⟩) (by assumption) ?_
      rotate_left
      · (intro w hSw; go_simp; first | done | (with_reducible rfl))
      simp only [Act.put, List.getElem_toArray, List.getElem_cons_succ, List.getElem_cons_zero, List.setIfInBounds_toArray, List.set_cons_zero, List.set_cons_succ]
      refine wpAnyH_take (i := 6) (oi := _) (v := ?_) rfl (by kernel_rfl) (by kernel_rfl) (by kernel_rfl) (fun _ _ _ h => h) (Or.inl ⟨by rfl, ?_⟩) (by assumption) ?_
      rotate_left
      · (intro w hSw; have x1 := hSw.1.cellv 8 _ rfl; clear hSw; go_simp; first | done | (with_reducible rfl))
      simp only [Act.put, List.getElem_toArray, List.getElem_cons_succ, List.getElem_cons_zero, List.setIfInBounds_toArray, List.set_cons_zero, List.set_cons_succ]
      refine wpAnyH_ready (rs := [3]) (by kernel_rfl) (by simp) ?_
      refine AllReadyH.cons rfl (fun K hK => ?_) AllReadyH.nil
      go_simp
      refine (HR1.out _).mono ?_
      rintro e' w3 ⟨rfl, gn⟩
      have HS1 : Keep (Has w3 w.heap.size d.cells 26 ∧ w.grownBy w3 none) := ⟨HH.out.1.kept gn (by simp), HH.out.2.trans gn⟩
      clear gn
      refine hK.out _ _ HS1.out (fun hHeld => ?_)
      clear hK K
      refine wpAnyH_take (i := 4) (oi := _) (v := ?_) rfl (by kernel_rfl) (by kernel_rfl) (by kernel_rfl) (fun _ _ _ h => h) (Or.inl ⟨by rfl, ?_⟩) (by assumption) ?_
      rotate_left
      · (intro w hSw; go_simp; first | done | (with_reducible rfl))
      simp only [Act.put, List.getElem_toArray, List.getElem_cons_succ, List.getElem_cons_zero, List.setIfInBounds_toArray, List.set_cons_zero, List.set_cons_succ]
      refine wpAnyH_ready (rs := [7]) (by kernel_rfl) (by simp) ?_
      refine AllReadyH.cons rfl (fun K hK => ?_) AllReadyH.nil
      go_simp
      refine (HR2.out _).mono ?_
      rintro e' w4 ⟨rfl, gn⟩
      have HS2 : Keep (Has w4 w.heap.size d.cells 26 ∧ w.grownBy w4 none) := ⟨HS1.out.1.kept gn (by simp), HS1.out.2.trans gn⟩
      clear gn
      refine hK.out _ _ HS2.out (fun hHeld => ?_)
      clear hK K
      refine wpAnyH_take (i := 8) (oi := _) (v := ?_) rfl (by kernel_rfl) (by kernel_rfl) (by kernel_rfl) (fun _ _ _ h => h) (Or.inl ⟨by rfl, ?_⟩) (by assumption) ?_
      rotate_left
      · (intro w hSw; go_simp; first | done | (with_reducible rfl))
      simp only [Act.put, List.getElem_toArray, List.getElem_cons_succ, List.getElem_cons_zero, List.setIfInBounds_toArray, List.set_cons_zero, List.set_cons_succ]
      refine wpAnyH_take (i := 9) (oi := _) (v := ?_) rfl (by kernel_rfl) (by kernel_rfl) (by kernel_rfl) (fun _ _ _ h => h) (Or.inl ⟨by rfl, ?_⟩) (by assumption) ?_
      rotate_left
      · (intro w hSw; go_simp; first | done | (with_reducible rfl))
      simp only [Act.put, List.getElem_toArray, List.getElem_cons_succ, List.getElem_cons_zero, List.setIfInBounds_toArray, List.set_cons_zero, List.set_cons_succ]
      refine wpAnyH_done (by kernel_rfl) ?_ _
      have k5 : w4.cell? ⟨w.heap.size, 0, none⟩ = some (.int .i64 5) := by rw [← HKK.out]; exact HS2.out.1.cellv 0 _ rfl
      have t5 : w4.cell? ⟨w.heap.size, 14, none⟩ = some (.string d.tag) := HS2.out.1.cellv 14 _ rfl
      have t6 : w4.cell? ⟨w.heap.size, 13, none⟩ = some (.string d.data) := HS2.out.1.cellv 13 _ rfl
      have c9 : w4.cell? ⟨w.heap.size, 9, none⟩ = some (.int .i64 d.thr) := HS2.out.1.cellv 9 _ rfl
      have c10 : w4.cell? ⟨w.heap.size, 10, none⟩ = some (.int .i64 d.turn) := HS2.out.1.cellv 10 _ rfl
      have c11 : w4.cell? ⟨w.heap.size, 11, none⟩ = some (.bool true) := by rw [← HFB.out.1]; exact HS2.out.1.cellv 11 _ rfl
      have c12 : w4.cell? ⟨w.heap.size, 12, none⟩ = some (.bool false) := by rw [← HFB.out.2]; exact HS2.out.1.cellv 12 _ rfl
      obtain ⟨w5, hw5⟩ : ∃ q, w4.alloc (.cells #[.int .u8 za, .int .u8 zb, .int .u8 1] 5) = q := ⟨_, rfl⟩
      have HS5 : Keep (Has w5 w.heap.size d.cells 26 ∧ w.grownBy w5 none) := ⟨by rw [← hw5]; exact HS2.out.1.alloc _, by rw [← hw5]; exact HS2.out.2.trans (World.grownBy_alloc _ _ _)⟩
      have hcx := HCB.out w5 w4.heap.size (by rw [← hw5]; exact Has.newA w4 _ 5)
      have k6 : w5.cell? ⟨w.heap.size, 0, none⟩ = some (.int .i64 5) := by rw [← HKK.out]; exact HS5.out.1.cellv 0 _ rfl
      have t7 : w5.cell? ⟨w.heap.size, 14, none⟩ = some (.string d.tag) := HS5.out.1.cellv 14 _ rfl
      replace HS2 := HS5
      go_wp2_with fail
      go_ret2
      rw [HEX.out]
      first
        | exact ⟨rfl, HS2.out.2⟩
        | (rw [HA.out]; exact ⟨rfl, HS2.out.2⟩)
  · have he : enc d = ([], 73) := by
      rw [enc_is d hf, if_neg h0, if_neg (fun q => hc (by rw [hk] at q; exact ⟨((fitsS1 _).1 (q .thr (by simp [fieldsL]))).1, ((fitsS1 _).1 (q .thr (by simp [fieldsL]))).2, ((fitsS1 _).1 (q .turn (by simp [fieldsL]))).1, ((fitsS1 _).1 (q .turn (by simp [fieldsL]))).2, q .tag (by simp [fieldsL])⟩))]
    have HFI : Keep (∀ W, Calls Tryz.prog 40 #[.agg d.cells.toArray] W fun e w' => e = .returned (.bool false) ∧ W.grownBy w' none) := ⟨fun W => by have := hFI W; rw [decide_eq_false hc] at this; exact this⟩
    rw [he]
    have HKK := Keep.mk hk
    clear hFI he h0 hc hk hf hs hfi hbo
    unfold dv
    go_enter Tryz.func20, Tryz.ntmps20
    go_wp2_with (refine wpList_load_mid rfl 26 _ rfl _ _ rfl d.cells _ (HC.out.1).range hdu hdr info26 ?_)
    refine (HFI.out _).mono ?_
    rintro e' w1 ⟨rfl, gn⟩
    have HG : Keep (w.grownBy w1 none) := ⟨HC.out.2.trans gn⟩
    clear gn
    go_wp2_with fail
    go_ret2
    exact ⟨rfl, HG.out⟩
set_option maxHeartbeats 16000000 in
set_option maxRecDepth 100000 in
theorem renc_511 (d : Dg) (hf : d.fine) (hs : d.small) (w : World) (hk : d.kind = 5) (hfi : d.fire = true) (hbo : d.boost = true) :
    Calls Tryz.prog 20 #[dv d] w fun e w' => e = .returned (.tuple #[.string (ba (enc d).1), .int .i64 (enc d).2]) ∧ w.grownBy w' none := by
  obtain ⟨du, hdu, hdr⟩ := under26
  have h0 : ¬ fieldsL d.kind = [] := fieldsL_some (by omega)
  have hFI := fun W => rfits_5 d W hk
  obtain ⟨w0, hw0⟩ : ∃ q, w.alloc (.cells d.cells.toArray 26) = q := ⟨_, rfl⟩
  obtain ⟨h1, g1⟩ := alloc_has hw0
  have HC : Keep (Has w0 w.heap.size d.cells 26 ∧ w.grownBy w0 none) := ⟨h1, g1⟩
  have q1 : w.alloc (.cells #[.int .i64 d.kind, .string d.nonce, .int .u64 d.epoch, .string d.cookie, .string d.name, .int .u64 d.session, .int .i64 d.player, .string d.salt, .int .u64 d.seq, .int .i64 d.thr, .int .i64 d.turn, .bool d.fire, .bool d.boost, .string d.data, .string d.tag] 26) = w0 := hw0
  have c0 : w0.cell? ⟨w.heap.size, 0, none⟩ = some (.int .i64 5) := by rw [← hk]; exact h1.cellv 0 _ rfl
  clear hw0 h1 g1
  by_cases hc : -128 ≤ d.thr ∧ d.thr ≤ 127 ∧ -128 ≤ d.turn ∧ d.turn ≤ 127 ∧ d.tag.size = 32
  · have hfit : ∀ f ∈ fieldsL d.kind, fitF d f := by
      rw [hk]
      intro f hm
      simp only [fieldsL, reduceIte, Int.reduceEq, List.mem_cons, List.not_mem_nil, or_false] at hm
      rcases hm with rfl | rfl | rfl | rfl | rfl | rfl
      · exact hf.s
      · exact hf.q
      · exact (fitsS1 _).2 ⟨hc.1, hc.2.1⟩
      · exact (fitsS1 _).2 ⟨hc.2.2.1, hc.2.2.2.1⟩
      · exact trivial
      · exact hc.2.2.2.2
    have he : enc d = if 1200 < (headL d ++ bytesF d (fieldsL d.kind)).length then ([], 72) else (headL d ++ bytesF d (fieldsL d.kind), 0) := by rw [enc_is d hf, if_neg h0, if_pos hfit]
    have HFI : Keep (∀ W, Calls Tryz.prog 40 #[.agg d.cells.toArray] W fun e w' => e = .returned (.bool true) ∧ W.grownBy w' none) := ⟨fun W => by have := hFI W; rw [decide_eq_true hc] at this; exact this⟩
    clear hFI hfit h0
    obtain ⟨X1, hX1⟩ : ∃ x, ba [(5 : UInt8)] = x := ⟨_, rfl⟩
    have hcv : ∀ W : World, (convert 39 9 (.slice (some ⟨W.heap.size, 0, none⟩) 1 1)).run Tryz.prog (W.alloc (.cells #[.int .u8 5] 5)) = .ok (.string X1) (W.alloc (.cells #[.int .u8 5] 5)) := fun W => by rw [← hX1]; exact cvt_new 5 5 rfl W
    obtain ⟨L1, hL1⟩ : ∃ x, ba (be 8 d.session) = x := ⟨_, rfl⟩
    obtain ⟨L2, hL2⟩ : ∃ x, ba (be 8 d.seq) = x := ⟨_, rfl⟩
    obtain ⟨C3, hC3⟩ : ∃ x, ba [UInt8.ofNat (u64 d.thr), UInt8.ofNat (u64 d.turn), UInt8.ofNat (flagsN d)] = x := ⟨_, rfl⟩
    obtain ⟨A0, hA0⟩ : ∃ x, mgB ++ X1 = x := ⟨_, rfl⟩
    obtain ⟨A1, hA1⟩ : ∃ x, A0 ++ L1 = x := ⟨_, rfl⟩
    obtain ⟨A2, hA2⟩ : ∃ x, A1 ++ L2 = x := ⟨_, rfl⟩
    obtain ⟨A3, hA3⟩ : ∃ x, A2 ++ C3 = x := ⟨_, rfl⟩
    obtain ⟨A4, hA4⟩ : ∃ x, A3 ++ d.tag = x := ⟨_, rfl⟩
    have z0 : A0.size = 4 := by rw [← hA0, ByteArray.size_append, ← hX1]; rfl
    have zL1 : L1.size = 8 := by rw [← hL1, ba_size, be_len]
    have zL2 : L2.size = 8 := by rw [← hL2, ba_size, be_len]
    have zC3 : C3.size = 3 := by rw [← hC3, ba_size]; rfl
    have z1 : A1.size = A0.size + L1.size := by rw [← hA1, ByteArray.size_append]
    have z2 : A2.size = A1.size + L2.size := by rw [← hA2, ByteArray.size_append]
    have z3 : A3.size = A2.size + C3.size := by rw [← hA3, ByteArray.size_append]
    have z4 : A4.size = A3.size + d.tag.size := by rw [← hA4, ByteArray.size_append]
    have y_tag := hs.t
    have b0 : ∀ W, (Op.stringOp .add { data := #[74, 48, 49] } X1).run Tryz.prog W = .ok (.string A0) W := fun W => by rw [← hA0]; exact addS mgB X1 (by rw [← hX1]; decide) W
    have b1 : ∀ W, (Op.stringOp .add A0 L1).run Tryz.prog W = .ok (.string A1) W := fun W => by rw [← hA1]; exact addS A0 L1 (by omega) W
    have b2 : ∀ W, (Op.stringOp .add A1 L2).run Tryz.prog W = .ok (.string A2) W := fun W => by rw [← hA2]; exact addS A1 L2 (by omega) W
    have b3 : ∀ W, (Op.stringOp .add A2 C3).run Tryz.prog W = .ok (.string A3) W := fun W => by rw [← hA3]; exact addS A2 C3 (by omega) W
    have b4 : ∀ W, (Op.stringOp .add A3 d.tag).run Tryz.prog W = .ok (.string A4) W := fun W => by rw [← hA4]; exact addS A3 d.tag (by omega) W
    have hsl : headL d ++ bytesF d (fieldsL d.kind) = sl A4 := by
      rw [← hA4, ← hA3, ← hA2, ← hA1, ← hA0, ← hL1, ← hL2, ← hC3, ← hX1]
      rw [sl_app, sl_app, sl_app, sl_app, sl_app, hk]
      rw [show sl (ba [(5 : UInt8)]) = [5] from sl_mk _, show sl (ba (be 8 d.session)) = be 8 d.session from sl_mk _, show sl (ba (be 8 d.seq)) = be 8 d.seq from sl_mk _, show sl (ba [UInt8.ofNat (u64 d.thr), UInt8.ofNat (u64 d.turn), UInt8.ofNat (flagsN d)]) = [UInt8.ofNat (u64 d.thr), UInt8.ofNat (u64 d.turn), UInt8.ofNat (flagsN d)] from sl_mk _]
      simp only [fieldsL, bytesF, List.map_cons, List.map_nil, List.flatten_cons, List.flatten_nil, reduceIte, Int.reduceEq, lyB, List.append_assoc, List.append_nil, headL, hk]
      simp only [be1x]
      rfl
    rw [hsl, sl_len] at he
    have HE := Keep.mk he
    have HA : Keep (ba (sl A4) = A4) := ⟨sl_back A4⟩
    have HR1 : Keep (∀ W, Calls Tryz.prog 41 #[.int .u64 d.session] W fun e w' => e = .returned (.string L1) ∧ W.grownBy w' none) := ⟨fun W => by rw [← hL1]; exact rlen_c d.session W hf.s⟩
    have HR2 : Keep (∀ W, Calls Tryz.prog 41 #[.int .u64 d.seq] W fun e w' => e = .returned (.string L2) ∧ W.grownBy w' none) := ⟨fun W => by rw [← hL2]; exact rlen_c d.seq W hf.q⟩
    have wth : IntKind.u8.wrap d.thr = ((UInt8.ofNat (u64 d.thr)).toNat : Int) := by have := hc.1; have := hc.2.1; simp [IntKind.wrap, show IntKind.u8.bits = 8 from rfl, show IntKind.u8.signed = false from rfl]; unfold u64; omega
    have wtu : IntKind.u8.wrap d.turn = ((UInt8.ofNat (u64 d.turn)).toNat : Int) := by have := hc.2.2.1; have := hc.2.2.2.1; simp [IntKind.wrap, show IntKind.u8.bits = 8 from rfl, show IntKind.u8.signed = false from rfl]; unfold u64; omega
    have HCB : Keep (∀ (W : World) (b : Nat), Has W b [.int .u8 ((UInt8.ofNat (u64 d.thr)).toNat : Int), .int .u8 ((UInt8.ofNat (u64 d.turn)).toNat : Int), .int .u8 3] 5 → (convert 39 9 (.slice (some ⟨b, 0, none⟩) 3 3)).run Tryz.prog W = .ok (.string C3) W) := ⟨fun W b h => by rw [← hC3]; exact cvt_has3 _ _ _ 3 (by simp [flagsN, hfi, hbo]) b W h⟩
    obtain ⟨za, hza⟩ : ∃ z : Int, ((UInt8.ofNat (u64 d.thr)).toNat : Int) = z := ⟨_, rfl⟩
    obtain ⟨zb, hzb⟩ : ∃ z : Int, ((UInt8.ofNat (u64 d.turn)).toNat : Int) = z := ⟨_, rfl⟩
    rw [hza] at wth HCB
    rw [hzb] at wtu HCB
    clear hza hzb
    have HZ : Keep (A4.size ≤ 9223372036854775807) := ⟨by omega⟩
    clear he hsl hX1 hL1 hL2 hC3 hA0 hA1 hA2 hA3 hA4 z0 z1 z2 z3 z4 zL1 zL2 zC3 y_tag hc hf hs
    have HKK := Keep.mk hk
    have HFB : Keep (d.fire = true ∧ d.boost = true) := ⟨hfi, hbo⟩
    clear hk hfi hbo
    unfold dv
    rcases Nat.lt_or_ge 1200 A4.size with hl | hl
    case' inl => have hd1 : decide ((1200 : Int) < (A4.size : Int)) = true := decide_eq_true (by omega)
    case' inr => have hd1 : decide ((1200 : Int) < (A4.size : Int)) = false := decide_eq_false (by omega)
    case' inl => have hd2 : (1200 : Int) < (A4.size : Int) := by omega
    case' inr => have hd2 : ¬ (1200 : Int) < (A4.size : Int) := by omega
    case' inl => have hex : enc d = ([], 72) := by rw [HE.out, if_pos hl]
    case' inr => have hex : enc d = (sl A4, 0) := by rw [HE.out, if_neg (by omega)]
    all_goals
      have HEX := Keep.mk hex
      clear hex HE
      go_enter Tryz.func20, Tryz.ntmps20
      go_wp2_with (refine wpList_load_mid rfl 26 _ rfl _ _ rfl d.cells _ (HC.out.1).range hdu hdr info26 ?_)
      refine (HFI.out _).mono ?_
      rintro e' w1 ⟨rfl, gn⟩
      have HC1 : Keep (Has w1 w.heap.size d.cells 26 ∧ w.grownBy w1 none) := ⟨(HC.out.1).kept gn (by simp), (HC.out.2).trans gn⟩
      clear gn
      have k0 : w1.cell? ⟨w.heap.size, 0, none⟩ = some (.int .i64 5) := by rw [← HKK.out]; exact HC1.out.1.cellv 0 _ rfl
      obtain ⟨w2, hw2⟩ : ∃ q, w1.alloc (.cells #[.int .u8 5] 5) = q := ⟨_, rfl⟩
      have HC2 : Keep (Has w2 w.heap.size d.cells 26 ∧ w.grownBy w2 none) := ⟨by rw [← hw2]; exact HC1.out.1.alloc _, by rw [← hw2]; exact HC1.out.2.trans (World.grownBy_alloc _ _ _)⟩
      have hcv1 := hcv w1
      rw [hw2] at hcv1
      have n2 : w2.cell? ⟨w.heap.size, 1, none⟩ = some (.string d.nonce) := HC2.out.1.cellv 1 _ rfl
      have k2 : w2.cell? ⟨w.heap.size, 0, none⟩ = some (.int .i64 5) := by rw [← HKK.out]; exact HC2.out.1.cellv 0 _ rfl
      go_wp2_with fail
      clear hcv1 hw2 k0 c0 q1 HC1
      have HH : Keep (Has w2.drew w.heap.size d.cells 26 ∧ w.grownBy w2.drew none) := ⟨HC2.out.1.kept (gr_drew _ none) (by simp), HC2.out.2.trans (gr_drew _ _)⟩
      refine wp_region_held_drew (S := fun w' => Has w' w.heap.size d.cells 26 ∧ w.grownBy w' none) (by kernel_rfl) HH.out (fun hHeld => ?_)
      refine wpAnyH_take (i := 0) (oi := _) (v := ?_) rfl (by kernel_rfl) (by kernel_rfl) (by kernel_rfl) (fun _ _ _ h => h) (Or.inl ⟨by rfl, ?_⟩) (by assumption) ?_
      rotate_left
      · (intro w hSw; go_simp; first | done | (with_reducible rfl))
      simp only [Act.put, List.getElem_toArray, List.getElem_cons_zero, List.setIfInBounds_toArray, List.set_cons_zero, List.set_cons_succ]
      refine wpAnyH_take (i := 1) (oi := _) (v := ?_) rfl (by kernel_rfl) (by kernel_rfl) (by kernel_rfl) (fun _ _ _ h => h) (Or.inl ⟨by rfl, ?_⟩) (by assumption) ?_
      rotate_left
      · (intro w hSw; go_simp; first | done | (with_reducible rfl))
      simp only [Act.put, List.getElem_toArray, List.getElem_cons_succ, List.getElem_cons_zero, List.setIfInBounds_toArray, List.set_cons_zero, List.set_cons_succ]
      refine wpAnyH_take (i := 2) (oi := _) (v := ?_) rfl (by kernel_rfl) (by kernel_rfl) (by kernel_rfl) (fun _ _ _ h => h) (Or.inl ⟨by rfl, ?_⟩) (by assumption) ?_
      rotate_left
      · (intro w hSw; have x1 := hSw.1.cellv 5 _ rfl; clear hSw; go_simp; first | done | (with_reducible rfl))
      simp only [Act.put, List.getElem_toArray, List.getElem_cons_succ, List.getElem_cons_zero, List.setIfInBounds_toArray, List.set_cons_zero, List.set_cons_succ]
      refine wpAnyH_take (i := 5) (oi := _) (v := ?_) rfl (by kernel_rfl) (by kernel_rfl) (by kernel_rfl) (fun _ _ _ h => h) (Or.inl ⟨by rfl, ?_⟩) (by assumption) ?_
      rotate_left
      · (intro w hSw; go_simp; first | done | (with_reducible rfl))
      simp only [Act.put, List.getElem_toArray, List.getElem_cons_succ, List.getElem_cons_zero, List.setIfInBounds_toArray, List.set_cons_zero, List.set_cons_succ]
      refine wpAnyH_take (i := 6) (oi := _) (v := ?_) rfl (by kernel_rfl) (by kernel_rfl) (by kernel_rfl) (fun _ _ _ h => h) (Or.inl ⟨by rfl, ?_⟩) (by assumption) ?_
      rotate_left
      · (intro w hSw; have x1 := hSw.1.cellv 8 _ rfl; clear hSw; go_simp; first | done | (with_reducible rfl))
      simp only [Act.put, List.getElem_toArray, List.getElem_cons_succ, List.getElem_cons_zero, List.setIfInBounds_toArray, List.set_cons_zero, List.set_cons_succ]
      refine wpAnyH_ready (rs := [3]) (by kernel_rfl) (by simp) ?_
      refine AllReadyH.cons rfl (fun K hK => ?_) AllReadyH.nil
      go_simp
      refine (HR1.out _).mono ?_
      rintro e' w3 ⟨rfl, gn⟩
      have HS1 : Keep (Has w3 w.heap.size d.cells 26 ∧ w.grownBy w3 none) := ⟨HH.out.1.kept gn (by simp), HH.out.2.trans gn⟩
      clear gn
      refine hK.out _ _ HS1.out (fun hHeld => ?_)
      clear hK K
      refine wpAnyH_take (i := 4) (oi := _) (v := ?_) rfl (by kernel_rfl) (by kernel_rfl) (by kernel_rfl) (fun _ _ _ h => h) (Or.inl ⟨by rfl, ?_⟩) (by assumption) ?_
      rotate_left
      · (intro w hSw; go_simp; first | done | (with_reducible rfl))
      simp only [Act.put, List.getElem_toArray, List.getElem_cons_succ, List.getElem_cons_zero, List.setIfInBounds_toArray, List.set_cons_zero, List.set_cons_succ]
      refine wpAnyH_ready (rs := [7]) (by kernel_rfl) (by simp) ?_
      refine AllReadyH.cons rfl (fun K hK => ?_) AllReadyH.nil
      go_simp
      refine (HR2.out _).mono ?_
      rintro e' w4 ⟨rfl, gn⟩
      have HS2 : Keep (Has w4 w.heap.size d.cells 26 ∧ w.grownBy w4 none) := ⟨HS1.out.1.kept gn (by simp), HS1.out.2.trans gn⟩
      clear gn
      refine hK.out _ _ HS2.out (fun hHeld => ?_)
      clear hK K
      refine wpAnyH_take (i := 8) (oi := _) (v := ?_) rfl (by kernel_rfl) (by kernel_rfl) (by kernel_rfl) (fun _ _ _ h => h) (Or.inl ⟨by rfl, ?_⟩) (by assumption) ?_
      rotate_left
      · (intro w hSw; go_simp; first | done | (with_reducible rfl))
      simp only [Act.put, List.getElem_toArray, List.getElem_cons_succ, List.getElem_cons_zero, List.setIfInBounds_toArray, List.set_cons_zero, List.set_cons_succ]
      refine wpAnyH_take (i := 9) (oi := _) (v := ?_) rfl (by kernel_rfl) (by kernel_rfl) (by kernel_rfl) (fun _ _ _ h => h) (Or.inl ⟨by rfl, ?_⟩) (by assumption) ?_
      rotate_left
      · (intro w hSw; go_simp; first | done | (with_reducible rfl))
      simp only [Act.put, List.getElem_toArray, List.getElem_cons_succ, List.getElem_cons_zero, List.setIfInBounds_toArray, List.set_cons_zero, List.set_cons_succ]
      refine wpAnyH_done (by kernel_rfl) ?_ _
      have k5 : w4.cell? ⟨w.heap.size, 0, none⟩ = some (.int .i64 5) := by rw [← HKK.out]; exact HS2.out.1.cellv 0 _ rfl
      have t5 : w4.cell? ⟨w.heap.size, 14, none⟩ = some (.string d.tag) := HS2.out.1.cellv 14 _ rfl
      have t6 : w4.cell? ⟨w.heap.size, 13, none⟩ = some (.string d.data) := HS2.out.1.cellv 13 _ rfl
      have c9 : w4.cell? ⟨w.heap.size, 9, none⟩ = some (.int .i64 d.thr) := HS2.out.1.cellv 9 _ rfl
      have c10 : w4.cell? ⟨w.heap.size, 10, none⟩ = some (.int .i64 d.turn) := HS2.out.1.cellv 10 _ rfl
      have c11 : w4.cell? ⟨w.heap.size, 11, none⟩ = some (.bool true) := by rw [← HFB.out.1]; exact HS2.out.1.cellv 11 _ rfl
      have c12 : w4.cell? ⟨w.heap.size, 12, none⟩ = some (.bool true) := by rw [← HFB.out.2]; exact HS2.out.1.cellv 12 _ rfl
      obtain ⟨w5, hw5⟩ : ∃ q, w4.alloc (.cells #[.int .u8 za, .int .u8 zb, .int .u8 3] 5) = q := ⟨_, rfl⟩
      have HS5 : Keep (Has w5 w.heap.size d.cells 26 ∧ w.grownBy w5 none) := ⟨by rw [← hw5]; exact HS2.out.1.alloc _, by rw [← hw5]; exact HS2.out.2.trans (World.grownBy_alloc _ _ _)⟩
      have hcx := HCB.out w5 w4.heap.size (by rw [← hw5]; exact Has.newA w4 _ 5)
      have k6 : w5.cell? ⟨w.heap.size, 0, none⟩ = some (.int .i64 5) := by rw [← HKK.out]; exact HS5.out.1.cellv 0 _ rfl
      have t7 : w5.cell? ⟨w.heap.size, 14, none⟩ = some (.string d.tag) := HS5.out.1.cellv 14 _ rfl
      replace HS2 := HS5
      go_wp2_with fail
      go_ret2
      rw [HEX.out]
      first
        | exact ⟨rfl, HS2.out.2⟩
        | (rw [HA.out]; exact ⟨rfl, HS2.out.2⟩)
  · have he : enc d = ([], 73) := by
      rw [enc_is d hf, if_neg h0, if_neg (fun q => hc (by rw [hk] at q; exact ⟨((fitsS1 _).1 (q .thr (by simp [fieldsL]))).1, ((fitsS1 _).1 (q .thr (by simp [fieldsL]))).2, ((fitsS1 _).1 (q .turn (by simp [fieldsL]))).1, ((fitsS1 _).1 (q .turn (by simp [fieldsL]))).2, q .tag (by simp [fieldsL])⟩))]
    have HFI : Keep (∀ W, Calls Tryz.prog 40 #[.agg d.cells.toArray] W fun e w' => e = .returned (.bool false) ∧ W.grownBy w' none) := ⟨fun W => by have := hFI W; rw [decide_eq_false hc] at this; exact this⟩
    rw [he]
    have HKK := Keep.mk hk
    clear hFI he h0 hc hk hf hs hfi hbo
    unfold dv
    go_enter Tryz.func20, Tryz.ntmps20
    go_wp2_with (refine wpList_load_mid rfl 26 _ rfl _ _ rfl d.cells _ (HC.out.1).range hdu hdr info26 ?_)
    refine (HFI.out _).mono ?_
    rintro e' w1 ⟨rfl, gn⟩
    have HG : Keep (w.grownBy w1 none) := ⟨HC.out.2.trans gn⟩
    clear gn
    go_wp2_with fail
    go_ret2
    exact ⟨rfl, HG.out⟩
end Go.Proofs.YtiphnlfbgbemfaaGreatDoor.Pk

/- the reference's Body -/
namespace Go.Proofs.YtiphnlfbgbemfaaGreatDoor.Pk
open Go Go.RowKit
set_option maxHeartbeats 4000000 in
set_option maxRecDepth 100000 in
theorem rbody_c (s : ByteArray) (w : World) (hs : s.size ≤ 281474976710656) :
    Calls Tryz.prog 23 #[.string s] w fun e w' => e = .returned (.string (bodyB s)) ∧ w' = w := by
  by_cases h36 : s.size < 36
  · have hb : bodyB s = nob := by rw [bodyB, bodyL, if_pos (.inl (by rw [sl_len]; exact h36))]; rfl
    rw [hb]
    have hd : decide ((s.size : Int) < 36) = true := decide_eq_true (by omega)
    have hd2 : (s.size : Int) < 36 := by omega
    unfold nob
    go_enter Tryz.func23, Tryz.ntmps23
    go_wp2_with fail
    go_ret
    exact ⟨rfl, rfl⟩
  · have hd : decide ((s.size : Int) < 36) = false := decide_eq_false (by omega)
    have hd2 : ¬ (s.size : Int) < 36 := by omega
    have i3 : (3 : Int) ≤ (s.size : Int) := by omega
    obtain ⟨Y3, hY3⟩ : ∃ Y, s.extract 0 3 = Y := ⟨_, rfl⟩
    have s3 : sl Y3 = (sl s).take 3 := by rw [← hY3, ext_to]; exact sl_mk _
    have hl3 : 3 < s.size := by omega
    obtain ⟨y, hy⟩ : ∃ y, (sl s)[3]? = some y := ⟨_, List.getElem?_eq_getElem (by rw [sl_len]; exact hl3)⟩
    have ix : ∀ W, (Instr.index 9 (.string s) (.int .i64 3)).run Tryz.prog W = .ok (.int .u8 y.toNat) W := fun W => idx9 s 3 y hl3 hy W
    have hkd : (sl s).take 3 = magic → kindL (sl s) = (y.toNat : Int) := fun q => by
      rw [kindL, if_neg (by rw [sl_len]; simp [q]; omega)]
      simp [List.getD, hy]
    have hyl := UInt8.toNat_lt y
    by_cases hm : (sl s).take 3 = magic
    · have e3 : Y3 = { data := #[74, 48, 49] } := by
        apply sl_inj; rw [s3, hm]; rfl
      subst e3
      have hk := hkd hm
      obtain ⟨z, hz⟩ : ∃ z : Int, (y.toNat : Int) = z := ⟨_, rfl⟩
      rw [hz] at hk
      have ix2 : ∀ W, (Instr.index 9 (.string s) (.int .i64 3)).run Tryz.prog W = .ok (.int .u8 z) W := fun W => by rw [ix W, hz]
      have z0 : 0 ≤ z := by omega
      have z1 : z ≤ 255 := by omega
      clear ix hz hkd
      by_cases k3 : z < 3
      · have hb : bodyB s = nob := by rw [bodyB, bodyL, if_pos (.inr (by rw [hk]; omega))]; rfl
        rw [hb]
        unfold nob
        clear hb hk hm s3
        go_enter Tryz.func23, Tryz.ntmps23
        go_wp2_with fail
        go_ret
        exact ⟨rfl, rfl⟩
      · by_cases k7 : 7 < z
        · have hb : bodyB s = nob := by rw [bodyB, bodyL, if_pos (.inr (by rw [hk]; omega))]; rfl
          rw [hb]
          unfold nob
          clear hb hk hm s3
          go_enter Tryz.func23, Tryz.ntmps23
          go_wp2_with fail
          go_ret
          exact ⟨rfl, rfl⟩
        · obtain ⟨m, hmm⟩ : ∃ m, s.size - 32 = m := ⟨_, rfl⟩
          have hb : bodyB s = s.extract 0 m := by rw [bodyB, bodyL, if_neg (by rw [hk, sl_len]; omega), ext_to, sl_len, hmm]
          have wm : IntKind.i64.wrap ((s.size : Int) - 32) = (m : Int) := by rw [show (s.size : Int) - 32 = (m : Int) by omega]; exact IntWalk.i64_in _ (by omega)
          have m0 : (0 : Int) ≤ (m : Int) := by omega
          have m1 : (m : Int) ≤ (s.size : Int) := by omega
          rw [hb]
          clear hb hk hm s3 hmm
          go_enter Tryz.func23, Tryz.ntmps23
          go_wp2_with fail
          go_ret
          exact ⟨rfl, rfl⟩
    · have hb : bodyB s = nob := by
        have hk : kindL (sl s) = 0 := by rw [kindL, if_pos (.inr hm)]
        rw [bodyB, bodyL, if_pos (.inr (by rw [hk]; omega))]; rfl
      have e1 : (Y3.toList == ({ data := #[74, 48, 49] } : ByteArray).toList) = false := by
        rw [beqL]
        exact decide_eq_false (fun q => hm (by rw [← s3]; exact q))
      have e2 : (Y3.toList != ({ data := #[74, 48, 49] } : ByteArray).toList) = true := by simp only [bne, e1]; rfl
      have e0 : ({ data := #[74, 48, 49] } : ByteArray).toList = [74, 48, 49] := by rw [ByteArray.toList_eq]
      rw [e0] at e1 e2
      have e4 : ¬ Y3.toList = [74, 48, 49] := fun q => by rw [q] at e1; simp at e1
      have e3 : ¬ Y3 = { data := #[74, 48, 49] } := fun q => hm (by rw [← s3, q]; rfl)
      rw [hb]
      unfold nob
      clear hb hm s3 hkd hyl
      go_enter Tryz.func23, Tryz.ntmps23
      go_wp2_with fail
      go_ret
      exact ⟨rfl, rfl⟩
end Go.Proofs.YtiphnlfbgbemfaaGreatDoor.Pk

/- the reference's Encode and Seal -/
namespace Go.Proofs.YtiphnlfbgbemfaaGreatDoor.Pk
open Go Go.RowKit
set_option maxHeartbeats 16000000 in
set_option maxRecDepth 100000 in
theorem renc_c (d : Dg) (hf : d.fine) (hs : d.small) (w : World) :
    Calls Tryz.prog 20 #[dv d] w fun e w' => e = .returned (.tuple #[.string (ba (enc d).1), .int .i64 (enc d).2]) ∧ w.grownBy w' none := by
  by_cases h : 1 ≤ d.kind ∧ d.kind ≤ 7
  · have hk : d.kind = 1 ∨ d.kind = 2 ∨ d.kind = 3 ∨ d.kind = 4 ∨ d.kind = 5 ∨ d.kind = 6 ∨ d.kind = 7 := by omega
    rcases hk with hk | hk | hk | hk | hk | hk | hk
    · exact renc_1 d hf hs w hk
    · exact renc_2 d hf hs w hk
    · exact renc_3 d hf hs w hk
    · exact renc_4 d hf hs w hk
    · cases hfi : d.fire <;> cases hbo : d.boost
      · exact renc_500 d hf hs w hk hfi hbo
      · exact renc_501 d hf hs w hk hfi hbo
      · exact renc_510 d hf hs w hk hfi hbo
      · exact renc_511 d hf hs w hk hfi hbo
    · exact renc_6 d hf hs w hk
    · exact renc_7 d hf hs w hk
  · have he : enc d = ([], 71) := by rw [enc, if_pos (fieldsL_nil (by omega))]
    rw [he]
    have HG := World.grownBy_alloc w (.cells d.cells.toArray 26) none
    have hc : d.kind < 1 ∨ (¬ d.kind < 1 ∧ 7 < d.kind) := by omega
    clear h he hf hs
    unfold dv
    generalize d.kind = kd at *
    rcases hc with h1 | ⟨h1, h7⟩
    all_goals
      go_enter Tryz.func20, Tryz.ntmps20
      go_wp2_with fail
      go_ret2
      exact ⟨rfl, World.grownBy_alloc _ _ _⟩
end Go.Proofs.YtiphnlfbgbemfaaGreatDoor.Pk

/- the reference's Seal -/
namespace Go.Proofs.YtiphnlfbgbemfaaGreatDoor.Pk
open Go Go.RowKit
set_option maxHeartbeats 16000000 in
set_option maxRecDepth 100000 in
theorem rseal_c (d : Dg) (key : ByteArray) (hf : d.fine) (hs : d.small) (w : World) (hk : RK w) (h4 : 4 ≤ w.heap.size) (hkey : key.size ≤ 1048576) :
    Calls Tryz.prog 21 #[dv d, .string key] w fun e w' => e = .returned (.tuple #[.string (sealD d key).1, .int .i64 (sealD d key).2]) ∧ w.grownBy w' none := by
  obtain ⟨du, hdu, hdr⟩ := under26
  have HK : Keep (RK w ∧ 4 ≤ w.heap.size) := ⟨hk, h4⟩
  obtain ⟨w0, hw0⟩ : ∃ q, w.alloc (.cells d.cells.toArray 26) = q := ⟨_, rfl⟩
  obtain ⟨h1, g1⟩ := alloc_has hw0
  have HC : Keep (Has w0 w.heap.size d.cells 26 ∧ w.grownBy w0 none) := ⟨h1, g1⟩
  have q1 : w.alloc (.cells #[.int .i64 d.kind, .string d.nonce, .int .u64 d.epoch, .string d.cookie, .string d.name, .int .u64 d.session, .int .i64 d.player, .string d.salt, .int .u64 d.seq, .int .i64 d.thr, .int .i64 d.turn, .bool d.fire, .bool d.boost, .string d.data, .string d.tag] 26) = w0 := hw0
  have c0 : w0.cell? ⟨w.heap.size, 0, none⟩ = some (.int .i64 d.kind) := h1.cellv 0 _ rfl
  clear hw0 h1 g1 hk h4
  by_cases h37 : 3 ≤ d.kind ∧ d.kind ≤ 7
  · obtain ⟨E, hE⟩ : ∃ x, ba (enc d.bare).1 = x := ⟨_, rfl⟩
    obtain ⟨ec, hec⟩ : ∃ x, (enc d.bare).2 = x := ⟨_, rfl⟩
    have HEN : Keep (∀ W, Calls Tryz.prog 20 #[.agg d.bare.cells.toArray] W fun e w' => e = .returned (.tuple #[.string E, .int .i64 ec]) ∧ W.grownBy w' none) := ⟨fun W => by have := renc_c d.bare (Dg.bare_fine hf) (Dg.bare_small hs) W; rw [hE, hec] at this; exact this⟩
    have sE : E.size ≤ 1200 := by rw [← hE, ba_size]; exact enc_le _
    have HSD : Keep (sealD d key = if ec = 0 then (bodyB E ++ hmacB key (bodyB E), 0) else (nob, ec)) := ⟨by rw [sealD, if_pos h37, hE, hec]⟩
    have hmk : ∀ W : World, (Instr.makeSlice 39 (.int .i64 32) (.int .i64 32)).run Tryz.prog W = .ok (.slice (some ⟨W.heap.size, 0, none⟩) 32 32) (W.alloc (.cells ((List.replicate 32 (0 : UInt8)).map bv).toArray 5)) := fun W => make28 32 (by decide) W
    have hcz : ∀ W : World, (convert 39 9 (.slice (some ⟨W.heap.size, 0, none⟩) 32 32)).run Tryz.prog (W.alloc (.cells ((List.replicate 32 (0 : UInt8)).map bv).toArray 5)) = .ok (.string zero32) (W.alloc (.cells ((List.replicate 32 (0 : UInt8)).map bv).toArray 5)) := fun W => by
      have h := Has.new W ((List.replicate 32 (0 : UInt8)).map bv) 5
      exact cvt_cells _ (some ⟨W.heap.size, 0, none⟩) 32 (List.replicate 32 0) (fun e => by cases e) (fun ad e j x hx => by
        obtain rfl := Option.some.inj e
        rw [Addr.add_mid, Nat.zero_add]
        exact h.cellv j _ (by rw [List.getElem?_map, hx]; rfl))
    generalize ((List.replicate 32 (0 : UInt8)).map bv).toArray = ZZ at hmk hcz
    obtain ⟨w1, hw1⟩ : ∃ q, w0.alloc (.cells ZZ 5) = q := ⟨_, rfl⟩
    have HC1 : Keep (Has w1 w.heap.size d.cells 26 ∧ w.grownBy w1 none) := ⟨by rw [← hw1]; exact HC.out.1.alloc _, by rw [← hw1]; exact HC.out.2.trans (World.grownBy_alloc _ _ _)⟩
    have hmk1 := hmk w0
    have hcz1 := hcz w0
    rw [hw1] at hmk1 hcz1
    have z14 := HC1.out.1.frozen 14
    have c14 : w1.cell? ⟨w.heap.size, 14, none⟩ = some (.string d.tag) := HC1.out.1.cellv 14 _ rfl
    obtain ⟨w2, hw2⟩ : ∃ q, w1.setCell ⟨w.heap.size, 14, none⟩ (.string zero32) = q := ⟨_, rfl⟩
    have HC2 : Keep (Has w2 w.heap.size d.bare.cells 26 ∧ w.grownBy w2 none) := ⟨by rw [← hw2]; exact HC1.out.1.setCell 14 (.string zero32), by rw [← hw2]; exact gr_new HC1.out.2 (gr_set w1 _ 14 _) (Nat.le_refl _)⟩
    have k1 : ¬ d.kind < 3 := by omega
    have k2 : ¬ 7 < d.kind := by omega
    have HRT : Keep (∀ W, w.grownBy W none → Calls Tryz.prog 42 #[.string key, .string (bodyB E)] W fun e w' => e = .returned (.string (hmacB key (bodyB E))) ∧ W.grownBy w' none) := ⟨fun W g => rtag_any key (bodyB E) W (HK.out.1.kept g) (Nat.le_trans HK.out.2 g.size) (by omega) (by have := bodyB_size E; omega)⟩
    have HRB : Keep (∀ W, Calls Tryz.prog 23 #[.string E] W fun e w' => e = .returned (.string (bodyB E)) ∧ w' = W) := ⟨fun W => rbody_c E W (by omega)⟩
    have bAdd : ∀ W, (Op.stringOp .add (bodyB E) (hmacB key (bodyB E))).run Tryz.prog W = .ok (.string (bodyB E ++ hmacB key (bodyB E))) W := fun W => addS _ _ (by have := bodyB_size E; rw [hmacB_size]; omega) W
    obtain ⟨Bd, hBd⟩ : ∃ q, bodyB E = q := ⟨_, rfl⟩
    rw [hBd] at HRT HRB bAdd HSD
    obtain ⟨H, hH⟩ : ∃ q, hmacB key Bd = q := ⟨_, rfl⟩
    rw [hH] at HRT bAdd HSD
    obtain ⟨R, hR⟩ : ∃ q, Bd ++ H = q := ⟨_, rfl⟩
    rw [hR] at bAdd HSD
    clear hE hec hf hs h37 hBd hH hR sE hmk hcz
    unfold dv
    go_enter Tryz.func21, Tryz.ntmps21
    go_wp2_with (refine wpList_load_mid rfl 26 _ rfl _ _ rfl d.bare.cells _ (HC2.out.1).range hdu hdr info26 ?_)
    refine (HEN.out _).mono ?_
    rintro e' w3 ⟨rfl, gn⟩
    have HG : Keep (w.grownBy w3 none) := ⟨HC2.out.2.trans gn⟩
    clear gn hmk1 hcz1 hw1 hw2 z14 c14 HC2 HC1 q1 c0
    by_cases he0 : ec = 0
    · subst he0
      have HX : Keep (sealD d key = (R, 0)) := ⟨by rw [HSD.out, if_pos rfl]⟩
      go_wp2_with fail
      refine (HRB.out _).mono ?_
      rintro e' w4 ⟨rfl, rfl⟩
      go_wp2_with fail
      refine (HRT.out _ HG.out).mono ?_
      rintro e' w5 ⟨rfl, gn⟩
      have HG5 : Keep (w.grownBy w5 none) := ⟨HG.out.trans gn⟩
      clear gn
      go_wp2_with fail
      go_ret2
      rw [HX.out]
      exact ⟨rfl, HG5.out⟩
    · have HX : Keep (sealD d key = (nob, ec)) := ⟨by rw [HSD.out, if_neg he0]⟩
      have he1 : (ec != 0) = true := by simp [he0]
      go_wp2_with fail
      go_ret2
      rw [HX.out]
      exact ⟨rfl, HG.out⟩
  · have HX : Keep (sealD d key = (nob, 71)) := ⟨by rw [sealD, if_neg h37]⟩
    have hc : d.kind < 3 ∨ (¬ d.kind < 3 ∧ 7 < d.kind) := by omega
    clear h37 hf hs
    unfold dv
    rcases hc with h1 | ⟨h1, h7⟩
    all_goals
      go_enter Tryz.func21, Tryz.ntmps21
      go_wp2_with fail
      go_ret2
      rw [HX.out]
      exact ⟨rfl, HC.out.2⟩
end Go.Proofs.YtiphnlfbgbemfaaGreatDoor.Pk

/- FrameEncodes' walk -/
namespace Go.Proofs.YtiphnlfbgbemfaaGreatDoor.Pk
open Go Go.RowKit
set_option maxHeartbeats 16000000 in
set_option maxRecDepth 100000 in
theorem encodes_c (d : Dg) (key : ByteArray) (w : World) (hk : Kc w) (hr : RK w) (h4 : 4 ≤ w.heap.size) (hd : d.fine ∧ d.small) (hkey : key.size ≤ 1048576) :
    Calls Tryz.prog 7 #[dv d, .string key] w fun e w' => e = .returned (.bool true) ∧ w.grownBy w' none := by
  obtain ⟨du, hdu, hdr⟩ := under26
  have HK := Keep.mk hk
  obtain ⟨E, hE⟩ : ∃ x, ba (enc d).1 = x := ⟨_, rfl⟩
  obtain ⟨ec, hec⟩ : ∃ x, (enc d).2 = x := ⟨_, rfl⟩
  obtain ⟨S, hS⟩ : ∃ x, (sealD d key).1 = x := ⟨_, rfl⟩
  obtain ⟨sc, hsc⟩ : ∃ x, (sealD d key).2 = x := ⟨_, rfl⟩
  have C1 : Keep (∀ W, Calls Tryz.prog 12 #[.agg d.cells.toArray] W fun e' w' => e' = .returned (.tuple #[.string E, .int .i64 ec]) ∧ W.grownBy w' none) := ⟨fun W => by have := encode_c d hd.1 hd.2 W; rw [hE, hec] at this; exact this⟩
  have C2 : Keep (∀ W, Calls Tryz.prog 20 #[.agg d.cells.toArray] W fun e' w' => e' = .returned (.tuple #[.string E, .int .i64 ec]) ∧ W.grownBy w' none) := ⟨fun W => by have := renc_c d hd.1 hd.2 W; rw [hE, hec] at this; exact this⟩
  have C3 : Keep (∀ W, w.grownBy W none → Calls Tryz.prog 10 #[.agg d.cells.toArray, .string key] W fun e' w' => e' = .returned (.tuple #[.string S, .int .i64 sc]) ∧ W.grownBy w' none) := ⟨fun W g => by have := seal_c d key hd.1 hd.2 W (HK.out.kept g (by simp)) (by omega); rw [hS, hsc] at this; exact this⟩
  have C4 : Keep (∀ W, w.grownBy W none → Calls Tryz.prog 21 #[.agg d.cells.toArray, .string key] W fun e' w' => e' = .returned (.tuple #[.string S, .int .i64 sc]) ∧ W.grownBy w' none) := ⟨fun W g => by have := rseal_c d key hd.1 hd.2 W (hr.kept g) (Nat.le_trans h4 g.size) hkey; rw [hS, hsc] at this; exact this⟩
  obtain ⟨w0, hw0⟩ : ∃ q, w.alloc (.cells d.cells.toArray 26) = q := ⟨_, rfl⟩
  obtain ⟨h1, g1⟩ := alloc_has hw0
  have HC : Keep (Has w0 w.heap.size d.cells 26 ∧ w.grownBy w0 none) := ⟨h1, g1⟩
  have q1 : w.alloc (.cells #[.int .i64 d.kind, .string d.nonce, .int .u64 d.epoch, .string d.cookie, .string d.name, .int .u64 d.session, .int .i64 d.player, .string d.salt, .int .u64 d.seq, .int .i64 d.thr, .int .i64 d.turn, .bool d.fire, .bool d.boost, .string d.data, .string d.tag] 26) = w0 := hw0
  clear hw0 h1 g1 hE hec hS hsc hd hkey hk hr h4
  unfold dv
  go_enter Tryz.func7, Tryz.ntmps7
  go_wp2_with fail
  clear q1
  generalize w.heap.size = b2 at *
  refine (alive_c w0 (HK.out.kept HC.out.2 (by simp))).mono ?_
  rintro e' w1 ⟨rfl, gn⟩
  replace HC : Keep (Has w1 b2 d.cells 26 ∧ w.grownBy w1 none) := ⟨(HC.out.1).kept gn (by simp), (HC.out.2).trans gn⟩
  clear gn
  go_wp2_with (refine wpList_load_mid rfl 26 _ rfl _ _ rfl d.cells _ (HC.out.1).range hdu hdr info26 ?_)
  refine (C1.out w1).mono ?_
  rintro e' w2 ⟨rfl, gn⟩
  replace HC : Keep (Has w2 b2 d.cells 26 ∧ w.grownBy w2 none) := ⟨(HC.out.1).kept gn (by simp), (HC.out.2).trans gn⟩
  clear gn
  go_wp2_with (refine wpList_load_mid rfl 26 _ rfl _ _ rfl d.cells _ (HC.out.1).range hdu hdr info26 ?_)
  refine (C2.out w2).mono ?_
  rintro e' w3 ⟨rfl, gn⟩
  replace HC : Keep (Has w3 b2 d.cells 26 ∧ w.grownBy w3 none) := ⟨(HC.out.1).kept gn (by simp), (HC.out.2).trans gn⟩
  clear gn
  go_wp2_with (refine wpList_load_mid rfl 26 _ rfl _ _ rfl d.cells _ (HC.out.1).range hdu hdr info26 ?_)
  refine (C3.out w3 HC.out.2).mono ?_
  rintro e' w4 ⟨rfl, gn⟩
  replace HC : Keep (Has w4 b2 d.cells 26 ∧ w.grownBy w4 none) := ⟨(HC.out.1).kept gn (by simp), (HC.out.2).trans gn⟩
  clear gn
  go_wp2_with (refine wpList_load_mid rfl 26 _ rfl _ _ rfl d.cells _ (HC.out.1).range hdu hdr info26 ?_)
  refine (C4.out w4 HC.out.2).mono ?_
  rintro e' w5 ⟨rfl, gn⟩
  replace HC : Keep (w.grownBy w5 none) := ⟨(HC.out.2).trans gn⟩
  clear gn
  go_wp2_with fail
  go_ret
  exact ⟨rfl, HC.out⟩
end Go.Proofs.YtiphnlfbgbemfaaGreatDoor.Pk

/- What three listed variables give. -/
namespace Go.Proofs.YtiphnlfbgbemfaaGreatDoor
open Go Go.ChangeShapes Go.WideShapes Go.ChangeAt Go.RowKit

set_option maxRecDepth 100000 in
theorem gR : Tryz.prog.globalNamed "joust/joustref01.roots" = some 2 := by kernel_rfl
set_option maxRecDepth 100000 in
theorem gC : Tryz.prog.globalNamed "joust/joustref01.cubes" = some 3 := by kernel_rfl
set_option maxRecDepth 100000 in
theorem tR : (Tryz.prog.globals[2]?).map (·.type) = some 125 := by kernel_rfl
set_option maxRecDepth 100000 in
theorem tC : (Tryz.prog.globals[3]?).map (·.type) = some 142 := by kernel_rfl
set_option maxRecDepth 100000 in
theorem iv_datum : (Rows.laid_joust_joustref01_roots : DataW Unit) = .agg (Sha.iv.map fun x => .lit (.int .u32 x.toNat)) := by kernel_rfl
set_option maxRecDepth 100000 in
theorem cs_datum : (Rows.laid_joust_joustref01_cubes : DataW Unit) = .agg (Sha.ks.map fun x => .lit (.int .u32 x.toNat)) := by kernel_rfl
abbrev laid3 : List (String × DataW Unit) := [("joust/joustref01.roots", Rows.laid_joust_joustref01_roots), ("joust/joustref01.cubes", Rows.laid_joust_joustref01_cubes), ("joust/sha.roundWords", Rows.laid_joust_sha_roundWords)]

set_option maxRecDepth 100000 in
theorem all_of_laid {W : World} (h : laidMetH Tryz.prog laid3 W) : Kc W ∧ RK W ∧ 4 ≤ W.heap.size := by
  rw [MakeChecks.laidMetH_plain _ _ _ (by kernel_rfl)] at h
  obtain ⟨ps, ⟨g0, t0, cs0, f0, p0, q0, hg0, ht0, hv0, hd0, ⟨g1, t1, cs1, f1, p1, q1, hg1, ht1, hv1, hd1, ⟨g2, t2, cs2, f2, p2, q2, hg2, ht2, hv2, hd2, _, _⟩, _⟩, _⟩, _, _⟩ := h
  obtain rfl := Option.some.inj (gR.symm.trans hg0)
  obtain rfl := Option.some.inj (gC.symm.trans hg1)
  obtain rfl := Option.some.inj (gK.symm.trans hg2)
  obtain rfl := Option.some.inj (tR.symm.trans ht0)
  obtain rfl := Option.some.inj (tC.symm.trans ht1)
  obtain rfl := Option.some.inj (tK.symm.trans ht2)
  have hk : Kc W := fun j hj => by
    rw [World.var?_cell hg2 hv2 j, ← Array.getElem?_toList]
    exact words_of under50 rfl hd2 ks_datum j hj
  have hr : RK W := ⟨fun j hj => by
    rw [World.var?_cell hg0 hv0 j, ← Array.getElem?_toList]
    exact words_of under40 rfl hd0 iv_datum j hj, fun j hj => by
    rw [World.var?_cell hg1 hv1 j, ← Array.getElem?_toList]
    exact words_of under50 rfl hd1 cs_datum j hj⟩
  have h3 := World.block_lt_of_cell? W ⟨3, 0, none⟩ (hr.c 0 (by omega))
  exact ⟨hk, hr, h3⟩
end Go.Proofs.YtiphnlfbgbemfaaGreatDoor

