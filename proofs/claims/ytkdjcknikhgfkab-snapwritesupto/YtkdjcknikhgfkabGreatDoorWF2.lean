import Derived.Test.YtkdjcknikhgfkabGreatDoorWF1
/- the reference's Seal of kind 6 -/
namespace Go.Proofs.YtkdjcknikhgfkabGreatDoor.Pk
open Go Go.RowKit
set_option maxHeartbeats 16000000 in
set_option maxRecDepth 100000 in
theorem rseal_c (d : Dg) (key : ByteArray) (hk6 : d.kind = 6) (hf : d.fine) (hs : d.small) (w : World) (hk : RK w) (h4 : 4 ≤ w.heap.size) (hkey : key.size ≤ 1048576) :
    Calls Tryz.prog 23 #[dv d, .string key] w fun e w' => e = .returned (.tuple #[.string (sealD d key).1, .int .i64 (sealD d key).2]) ∧ w.grownBy w' none := by
  obtain ⟨du, hdu, hdr⟩ := under26
  have HK : Keep (RK w ∧ 4 ≤ w.heap.size) := ⟨hk, h4⟩
  obtain ⟨w0, hw0⟩ : ∃ q, w.alloc (.cells d.cells.toArray 67) = q := ⟨_, rfl⟩
  obtain ⟨h1, g1⟩ := alloc_has hw0
  have HC : Keep (Has w0 w.heap.size d.cells 67 ∧ w.grownBy w0 none) := ⟨h1, g1⟩
  have q1 : w.alloc (.cells #[.int .i64 d.kind, .string d.nonce, .int .u64 d.epoch, .string d.cookie, .string d.name, .int .u64 d.session, .int .i64 d.player, .string d.salt, .int .u64 d.seq, .int .i64 d.thr, .int .i64 d.turn, .bool d.fire, .bool d.boost, .string d.data, .string d.tag] 67) = w0 := hw0
  have c0 : w0.cell? ⟨w.heap.size, 0, none⟩ = some (.int .i64 d.kind) := h1.cellv 0 _ rfl
  clear hw0 h1 g1 hk h4
  by_cases h37 : 3 ≤ d.kind ∧ d.kind ≤ 7
  · obtain ⟨E, hE⟩ : ∃ x, ba (enc d.bare).1 = x := ⟨_, rfl⟩
    obtain ⟨ec, hec⟩ : ∃ x, (enc d.bare).2 = x := ⟨_, rfl⟩
    have HEN : Keep (∀ W, Calls Tryz.prog 37 #[.agg d.bare.cells.toArray] W fun e w' => e = .returned (.tuple #[.string E, .int .i64 ec]) ∧ W.grownBy w' none) := ⟨fun W => by have := renc_6 d.bare (Dg.bare_fine hf) (Dg.bare_small hs) W hk6; rw [hE, hec] at this; exact this⟩
    have sE : E.size ≤ 1200 := by rw [← hE, ba_size]; exact enc_le _
    have HSD : Keep (sealD d key = if ec = 0 then (bodyB E ++ hmacB key (bodyB E), 0) else (nob, ec)) := ⟨by rw [sealD, if_pos h37, hE, hec]⟩
    have hmk : ∀ W : World, (Instr.makeSlice 73 (.int .i64 32) (.int .i64 32)).run Tryz.prog W = .ok (.slice (some ⟨W.heap.size, 0, none⟩) 32 32) (W.alloc (.cells ((List.replicate 32 (0 : UInt8)).map bv).toArray 5)) := fun W => make28 32 (by decide) W
    have hcz : ∀ W : World, (convert 73 9 (.slice (some ⟨W.heap.size, 0, none⟩) 32 32)).run Tryz.prog (W.alloc (.cells ((List.replicate 32 (0 : UInt8)).map bv).toArray 5)) = .ok (.string zero32) (W.alloc (.cells ((List.replicate 32 (0 : UInt8)).map bv).toArray 5)) := fun W => by
      have h := Has.new W ((List.replicate 32 (0 : UInt8)).map bv) 5
      exact cvt_cells _ (some ⟨W.heap.size, 0, none⟩) 32 (List.replicate 32 0) (fun e => by cases e) (fun ad e j x hx => by
        obtain rfl := Option.some.inj e
        rw [Addr.add_mid, Nat.zero_add]
        exact h.cellv j _ (by rw [List.getElem?_map, hx]; rfl))
    generalize ((List.replicate 32 (0 : UInt8)).map bv).toArray = ZZ at hmk hcz
    obtain ⟨w1, hw1⟩ : ∃ q, w0.alloc (.cells ZZ 5) = q := ⟨_, rfl⟩
    have HC1 : Keep (Has w1 w.heap.size d.cells 67 ∧ w.grownBy w1 none) := ⟨by rw [← hw1]; exact HC.out.1.alloc _, by rw [← hw1]; exact HC.out.2.trans (World.grownBy_alloc _ _ _)⟩
    have hmk1 := hmk w0
    have hcz1 := hcz w0
    rw [hw1] at hmk1 hcz1
    have z14 := HC1.out.1.frozen 14
    have c14 : w1.cell? ⟨w.heap.size, 14, none⟩ = some (.string d.tag) := HC1.out.1.cellv 14 _ rfl
    obtain ⟨w2, hw2⟩ : ∃ q, w1.setCell ⟨w.heap.size, 14, none⟩ (.string zero32) = q := ⟨_, rfl⟩
    have HC2 : Keep (Has w2 w.heap.size d.bare.cells 67 ∧ w.grownBy w2 none) := ⟨by rw [← hw2]; exact HC1.out.1.setCell 14 (.string zero32), by rw [← hw2]; exact gr_new HC1.out.2 (gr_set w1 _ 14 _) (Nat.le_refl _)⟩
    have k1 : ¬ d.kind < 3 := by omega
    have k2 : ¬ 7 < d.kind := by omega
    have HRT : Keep (∀ W, w.grownBy W none → Calls Tryz.prog 39 #[.string key, .string (bodyB E)] W fun e w' => e = .returned (.string (hmacB key (bodyB E))) ∧ W.grownBy w' none) := ⟨fun W g => rtag_any key (bodyB E) W (HK.out.1.kept g) (Nat.le_trans HK.out.2 g.size) (by omega) (by have := bodyB_size E; omega)⟩
    have HRB : Keep (∀ W, Calls Tryz.prog 38 #[.string E] W fun e w' => e = .returned (.string (bodyB E)) ∧ w' = W) := ⟨fun W => rbody_c E W (by omega)⟩
    have bAdd : ∀ W, (Op.stringOp .add (bodyB E) (hmacB key (bodyB E))).run Tryz.prog W = .ok (.string (bodyB E ++ hmacB key (bodyB E))) W := fun W => addS _ _ (by have := bodyB_size E; rw [hmacB_size]; omega) W
    obtain ⟨Bd, hBd⟩ : ∃ q, bodyB E = q := ⟨_, rfl⟩
    rw [hBd] at HRT HRB bAdd HSD
    obtain ⟨H, hH⟩ : ∃ q, hmacB key Bd = q := ⟨_, rfl⟩
    rw [hH] at HRT bAdd HSD
    obtain ⟨R, hR⟩ : ∃ q, Bd ++ H = q := ⟨_, rfl⟩
    rw [hR] at bAdd HSD
    clear hk6 hE hec hf hs h37 hBd hH hR sE hmk hcz
    unfold dv
    go_enter Tryz.func23, Tryz.ntmps23
    go_wp2_with (refine wpList_load_mid rfl 67 _ rfl _ _ rfl d.bare.cells _ (HC2.out.1).range hdu hdr info26 ?_)
    refine (HEN.out _).mono ?_
    rintro e' w3 ⟨rfl, gn⟩
    have HG : Keep (w.grownBy w3 none) := ⟨HC2.out.2.trans gn⟩
    clear gn hmk1 hcz1 hw1 hw2 z14 c14 HC2 HC1 q1 c0
    by_cases he0 : ec = 0
    · subst he0
      have HX : Keep (sealD d key = (R, 0)) := ⟨by rw [HSD.out, if_pos rfl]⟩
      go_wp2_with fail
      refine (HRB.out _).mono ?_
      rintro e' w4 ⟨rfl, rfl⟩
      go_wp2_with fail
      refine (HRT.out _ HG.out).mono ?_
      rintro e' w5 ⟨rfl, gn⟩
      have HG5 : Keep (w.grownBy w5 none) := ⟨HG.out.trans gn⟩
      clear gn
      go_wp2_with fail
      go_ret2
      rw [HX.out]
      exact ⟨rfl, HG5.out⟩
    · have HX : Keep (sealD d key = (nob, ec)) := ⟨by rw [HSD.out, if_neg he0]⟩
      have he1 : (ec != 0) = true := by simp [he0]
      go_wp2_with fail
      go_ret2
      rw [HX.out]
      exact ⟨rfl, HG.out⟩
  · have HX : Keep (sealD d key = (nob, 71)) := ⟨by rw [sealD, if_neg h37]⟩
    have hc : d.kind < 3 ∨ (¬ d.kind < 3 ∧ 7 < d.kind) := by omega
    clear h37 hf hs hk6
    unfold dv
    rcases hc with h1 | ⟨h1, h7⟩
    all_goals
      go_enter Tryz.func23, Tryz.ntmps23
      go_wp2_with fail
      go_ret2
      rw [HX.out]
      exact ⟨rfl, HC.out.2⟩
end Go.Proofs.YtkdjcknikhgfkabGreatDoor.Pk
