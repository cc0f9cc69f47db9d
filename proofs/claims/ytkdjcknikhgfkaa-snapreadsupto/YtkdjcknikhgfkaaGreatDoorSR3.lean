import Derived.Test.YtkdjcknikhgfkaaGreatDoorFO5
import Derived.Test.YtkdjcknikhgfkaaGreatDoorFO9
import Derived.Test.YtkdjcknikhgfkaaGreatDoorX32
import Derived.Test.YtkdjcknikhgfkaaGreatDoorSR2
/- the reference's Decode and Open -/
namespace Go.Proofs.YtkdjcknikhgfkaaGreatDoor.Pk
open Go Go.RowKit
set_option maxRecDepth 100000 in
theorem rdec_c (s : ByteArray) (w : World) : Calls Tryz.prog 42 #[.string s] w fun e w' => e = .returned (.tuple #[dv (dec (sl s)).1, .int .i64 (dec (sl s)).2]) ∧ w.grownBy w' none := by
  by_cases h0 : (dec (sl s)).2 = 0
  case neg => exact rd_no s w h0
  have h : ¬ 1200 < s.size := fun q => by
    rw [dec_big _ (by rw [sl_len]; exact q)] at h0
    cases h0
  have hm : (sl s).take 3 = magic := Classical.byContradiction fun q => by
    rw [dec_magic _ (by rw [sl_len]; exact h) q] at h0
    cases h0
  have hk : ¬ (kindL (sl s) < 1 ∨ 7 < kindL (sl s)) := fun q => by
    rw [dec_none _ (by rw [sl_len]; exact h) hm q] at h0
    cases h0
  have h3 := magic_len hm
  have h4 : 3 < s.size := by
    refine Classical.byContradiction fun q => hk (.inl ?_)
    unfold kindL
    rw [if_pos (.inl (by rw [sl_len]; omega))]; omega
  obtain ⟨y, hy⟩ : ∃ y, (sl s)[3]? = some y := ⟨_, List.getElem?_eq_getElem (by rw [sl_len]; omega)⟩
  have hki := kind_is s hm h4 hy
  rw [hki] at hk
  have hc : y = 1 ∨ y = 2 ∨ y = 3 ∨ y = 4 ∨ y = 5 ∨ y = 6 ∨ y = 7 := by
    have e : y = UInt8.ofNat y.toNat := by simp
    have : y.toNat = 1 ∨ y.toNat = 2 ∨ y.toNat = 3 ∨ y.toNat = 4 ∨ y.toNat = 5 ∨ y.toNat = 6 ∨ y.toNat = 7 := by omega
    rcases this with q | q | q | q | q | q | q <;> rw [q] at e <;> simp [e]
  have hle : (sl s).length ≤ 1200 := by rw [sl_len]; omega
  rcases hc with rfl | rfl | rfl | rfl | rfl | rfl | rfl
  · refine rd_1 s w h hm hy h4 (Classical.byContradiction fun q => ?_) h0
    rw [dec_1 _ hle hm hki, sl_len, if_neg q] at h0
    cases h0
  · refine rd_2 s w h hm hy h4 (Classical.byContradiction fun q => ?_) h0
    rw [dec_2 _ hle hm hki, sl_len, if_neg q] at h0
    cases h0
  · refine rd_3 s w h hm hy h4 (Classical.byContradiction fun q => ?_) h0
    rw [dec_3 _ hle hm hki, sl_len, if_neg q] at h0
    cases h0
  · refine rd_4 s w h hm hy h4 (Classical.byContradiction fun q => ?_) h0
    rw [dec_4 _ hle hm hki, sl_len, if_neg q] at h0
    cases h0
  · refine rd_5 s w h hm hy h4 (Classical.byContradiction fun q => ?_) h0
    rw [dec_5 _ hle hm hki, sl_len, if_neg q] at h0
    cases h0
  · refine rd_6 s w h hm hy h4 (Classical.byContradiction fun q => ?_) h0
    rw [dec_6 _ hle hm hki, sl_len, if_neg q] at h0
    cases h0
  · refine rd_7 s w h hm hy h4 (Classical.byContradiction fun q => ?_) h0
    rw [dec_7 _ hle hm hki, sl_len, if_neg q] at h0
    cases h0
end Go.Proofs.YtkdjcknikhgfkaaGreatDoor.Pk
namespace Go.Proofs.YtkdjcknikhgfkaaGreatDoor.Pk.Sn
open Go Go.RowKit
theorem SeenN.kept {w w' w2 : World} {a : Option Addr} {S : List Sn} (h : SeenN w w' a S) (g : w'.grownBy w2 none) : SeenN w w2 a S := fun q => by
  obtain ⟨sb, so, e, l, r⟩ := h q
  exact ⟨sb, so, e, l, fun j s' hj i z hz => g.cell (r j s' hj i z hz) (by simp)⟩
theorem SeenN.over {w w1 w' w2 : World} {a : Option Addr} {S : List Sn} {b : Nat} (h : SeenN w1 w' a S) (g : w'.grownBy w2 (some b)) (hb : b < w1.heap.size) (hl : w.heap.size ≤ w1.heap.size) : SeenN w w2 a S := fun q => by
  obtain ⟨sb, so, e, l, r⟩ := h q
  refine ⟨sb, so, e, by omega, fun j s' hj i z hz => g.cell (r j s' hj i z hz) (fun e2 => ?_)⟩
  injection e2 with e2
  have e2 : b = sb := by first | exact e2 | exact e2.symm
  omega
theorem uns_2 {s key : ByteArray} (h : (dec (sl s)).2 = 0) (h6 : (dec (sl s)).1.kind ≠ 6) : unS s key = (Dg.zero 0, 71) := by unfold unS; rw [if_pos h, if_neg h6]
theorem uns_1 {s key : ByteArray} (h : (dec (sl s)).2 ≠ 0) : unS s key = (Dg.zero 0, (dec (sl s)).2) := by unfold unS; rw [if_neg h]
set_option maxHeartbeats 8000000 in
set_option maxRecDepth 100000 in
theorem ropen_c (s key : ByteArray) (w : World) (hk : RK w) (h4 : 4 ≤ w.heap.size) (hs : s.size ≤ 2147483648) (hkey : key.size ≤ 2147483648) :
    Calls Tryz.prog 19 #[.string s, .string key] w fun e w' => ∃ a c, e = .returned (.tuple #[.int .u64 ((opS s key).1 : Nat), .int .u64 ((opS s key).2.1 : Nat), .agg ((opS s key).2.2.1.cs a c).toArray, iv (opS s key).2.2.2]) ∧ w.grownBy w' none ∧ SeenN w w' a (opS s key).2.2.1.S := by
  obtain ⟨d, hd, hrw⟩ := underV
  obtain ⟨U, hU⟩ : ∃ q, opS s key = q := ⟨_, rfl⟩
  rw [hU]
  obtain ⟨w0, hw0⟩ : ∃ q, w.alloc (.cells #[.int .u64 0, .int .i64 0, .string { data := #[] }, .int .i64 0, .int .i64 0, .int .i64 0, .int .i64 0, .int .i64 0, .int .i64 0, .int .i64 0, .int .i64 0, .int .i64 0, .int .i64 0, .int .i64 0, .int .i64 0, .slice none 0 0] 29) = q := ⟨_, rfl⟩
  obtain ⟨h0, g0, s0⟩ := hasN hw0
  have HD := Keep.mk (rdec_c s w0)
  have HSL := Keep.mk (fun W (g : w.grownBy W none) => rsealed_c s key W (hk.kept g) (Nat.le_trans h4 g.size) hs hkey)
  obtain ⟨D, hD⟩ : ∃ q, dec (sl s) = q := ⟨_, rfl⟩
  rw [hD] at HD
  have HG := Keep.mk (And.intro h0 (And.intro g0 (And.intro hU hD)))
  clear h0 g0 s0 hk h4 hs hkey hU hD
  go_enter Tryz.func19, Tryz.ntmps19
  go_wp2_with fail
  refine HD.out.mono ?_
  rintro e w1 ⟨rfl, g1⟩
  obtain ⟨D1, hD1⟩ : ∃ q, D.1 = q := ⟨_, rfl⟩
  obtain ⟨cd, hcd⟩ : ∃ q, D.2 = q := ⟨_, rfl⟩
  have HC := Keep.mk (And.intro hD1 hcd)
  rw [hD1, hcd]
  obtain ⟨w2, hw2⟩ : ∃ q, w1.alloc (.cells D1.cells.toArray 50) = q := ⟨_, rfl⟩
  obtain ⟨h2, g2, s2⟩ := hasN hw2
  obtain ⟨kd, hkd⟩ : ∃ q, D1.kind = q := ⟨_, rfl⟩
  have hw3 : w1.alloc (.cells #[.int .i64 kd, .string D1.nonce, .int .u64 D1.epoch, .string D1.cookie, .string D1.name, .int .u64 D1.session, .int .i64 D1.player, .string D1.salt, .int .u64 D1.seq, .int .i64 D1.thr, .int .i64 D1.turn, .bool D1.fire, .bool D1.boost, .string D1.data, .string D1.tag] 50) = w2 := by rw [← hkd]; exact hw2
  have c2 : w2.cell? ⟨w1.heap.size, 0, none⟩ = some (.int .i64 kd) := by rw [← hkd]; exact h2.cellv 0 _ rfl
  have HR : Keep (Has w2 w.heap.size [uv 0, iv 0, .string ⟨#[]⟩, iv 0, iv 0, iv 0, iv 0, iv 0, iv 0, iv 0, iv 0, iv 0, iv 0, iv 0, iv 0, .slice none 0 0] 29 ∧ w.grownBy w2 none) := ⟨(HG.out.1.kept g1 (by simp)).kept g2 (by simp), (HG.out.2.1.trans g1).trans g2⟩
  have H2 := Keep.mk h2
  have HK := Keep.mk hkd
  unfold dv
  rw [hkd]
  clear HD g1 hD1 hcd hw2 h2 g2 s2 hkd
  by_cases hz : cd = 0
  · have hq : (cd != 0) = false := by simp [hz]
    have HZ : Keep ((dec (sl s)).2 = 0 ∧ (dec (sl s)).1 = D1) := ⟨by rw [HG.out.2.2.2, HC.out.2]; exact hz, by rw [HG.out.2.2.2, HC.out.1]⟩
    clear hz
    by_cases h6 : kd = 6
    · have hq6 : (kd != 6) = false := by simp [h6]
      have H6 : Keep ((dec (sl s)).1.kind = 6) := ⟨by rw [HZ.out.2, HK.out]; exact h6⟩
      clear h6
      go_wp2_with fail
      refine (HSL.out w2 HR.out.2).mono ?_
      rintro e ws ⟨rfl, gs⟩
      obtain ⟨bs, hbs⟩ : ∃ q, sealed s key = q := ⟨_, rfl⟩
      rw [hbs]
      have HB0 := Keep.mk hbs
      have HRS : Keep (Has ws w.heap.size [uv 0, iv 0, .string ⟨#[]⟩, iv 0, iv 0, iv 0, iv 0, iv 0, iv 0, iv 0, iv 0, iv 0, iv 0, iv 0, iv 0, .slice none 0 0] 29 ∧ w.grownBy ws none) := ⟨HR.out.1.kept gs (by simp), HR.out.2.trans gs⟩
      have HL : Keep (w.heap.size < ws.heap.size) := ⟨(HR.out.1.kept gs (by simp)).lt⟩
      have H2S := Keep.mk (H2.out.kept gs (by simp))
      clear hbs gs HSL c2
      cases bs
      · have HR2 : Keep (U = (0, 0, Vw.zero, 124)) := by
          refine ⟨?_⟩
          have e := un_3 HZ.out.1 H6.out HB0.out
          rw [← HG.out.2.2.1, op_1 (by rw [e]; simp), e]
        have HBT := Keep.mk builtV
        go_wp2_with (first
          | (with_reducible show wpList _ _ _ ({ dst := _, op := Op.build 29 _, type := _, pos := _, after := _, guard := _ } :: _) _ _
             refine wpList_build rfl 29 _ rfl _ ((congrArg (Tryz.prog.built 29) (by simp only [List.map_toArray, List.map_nil]; rfl)).trans HBT.out) ?_)
          | (with_reducible show wpList _ _ _ ({ dst := _, op := Op.store 29 _ _, type := _, pos := _, after := _, guard := _ } :: _) _ _
             refine st_all _ w.heap.size [uv 0, iv 0, .string ⟨#[]⟩, iv 0, iv 0, iv 0, iv 0, iv 0, iv 0, iv 0, iv 0, iv 0, iv 0, iv 0, iv 0, .slice none 0 0] (Vw.zero.cs none 0) 29 29 rfl rfl rfl rfl HRS.out.1 rfl infoV (vw_one _ _ _) ?_
             intro w6 h6 g6
             have HF := Keep.mk (And.intro h6 g6)
             clear h6 g6))
        exact ret_ttct rfl rfl HF.out.1 hd hrw infoV rfl (by rw [HR2.out]; exact ⟨none, 0, rfl, gr_new HRS.out.2 HF.out.2 (Nat.le_refl _), SeenN.nil _ _ _⟩)
      · have HU : Keep ((unS s key).2 = 0 ∧ (unS s key).1 = D1) := by
          have e := un_4 HZ.out.1 H6.out HB0.out
          exact ⟨by rw [e], by rw [e]; exact HZ.out.2⟩
        have c13 : ws.cell? ⟨w1.heap.size, 13, none⟩ = some (.string D1.data) := H2S.out.cellv 13 _ rfl
        go_wp2_with fail
        refine (rread_c D1.data ws).mono ?_
        rintro e w3 ⟨a, c, rfl, gR, SR⟩
        obtain ⟨V, hV⟩ : ∃ q, (rdV (sl D1.data)).1 = q := ⟨_, rfl⟩
        obtain ⟨rc, hrc⟩ : ∃ q, (rdV (sl D1.data)).2 = q := ⟨_, rfl⟩
        rw [hV] at SR
        rw [hV, hrc]
        have HRC := Keep.mk (And.intro hV (And.intro hrc SR))
        have HR3 : Keep (Has w3 w.heap.size [uv 0, iv 0, .string ⟨#[]⟩, iv 0, iv 0, iv 0, iv 0, iv 0, iv 0, iv 0, iv 0, iv 0, iv 0, iv 0, iv 0, .slice none 0 0] 29 ∧ w.grownBy w3 none ∧ Has w3 w1.heap.size D1.cells 50) := ⟨HRS.out.1.kept gR (by simp), HRS.out.2.trans gR, H2S.out.kept gR (by simp)⟩
        clear hV hrc SR gR c13
        by_cases hz2 : rc = 0
        · have hq2 : (rc != 0) = false := by simp [hz2]
          have HR2 : Keep (U = (D1.session, D1.seq, V, 0)) := by
            refine ⟨?_⟩
            rw [← HG.out.2.2.1, op_3 HU.out.1 (by rw [HU.out.2, HRC.out.2.1]; exact hz2), HU.out.2, HRC.out.1]
          clear hz2
          go_wp2_with (first
            | (with_reducible show wpList _ _ _ ({ dst := _, op := Op.store 29 _ _, type := _, pos := _, after := _, guard := _ } :: _) _ _
               refine st_new w3 (V.cs a c) 29 rfl rfl rfl rfl rfl infoV (vw_one _ _ _) ?_
               intro w4 h4 g4
               have HB : Keep (Has w4 w.heap.size [uv 0, iv 0, .string ⟨#[]⟩, iv 0, iv 0, iv 0, iv 0, iv 0, iv 0, iv 0, iv 0, iv 0, iv 0, iv 0, iv 0, .slice none 0 0] 29 ∧ w4.cell? ⟨w1.heap.size, 5, none⟩ = some (.int .u64 D1.session) ∧ w4.cell? ⟨w1.heap.size, 8, none⟩ = some (.int .u64 D1.seq) ∧ Has w4 w3.heap.size (V.cs a c) 29 ∧ w.grownBy w4 none ∧ SeenN ws w4 a V.S) := ⟨HR3.out.1.kept g4 (by simp), g4.cell (HR3.out.2.2.cellv 5 _ rfl) (by simp), g4.cell (HR3.out.2.2.cellv 8 _ rfl) (by simp), h4, HR3.out.2.1.trans g4, HRC.out.2.2.kept g4⟩
               clear h4 g4))
          refine region_Y (S := fun w' => w'.cell? ⟨w1.heap.size, 5, none⟩ = some (.int .u64 D1.session) ∧ w'.cell? ⟨w1.heap.size, 8, none⟩ = some (.int .u64 D1.seq) ∧ Has w' w3.heap.size (V.cs a c) 29) [7] (by kernel_rfl) ?_
          obtain ⟨W0, hW0⟩ : ∃ W_, w4.drew = W_ := ⟨_, rfl⟩
          replace HB : Keep (Has w4.drew w.heap.size [uv 0, iv 0, .string ⟨#[]⟩, iv 0, iv 0, iv 0, iv 0, iv 0, iv 0, iv 0, iv 0, iv 0, iv 0, iv 0, iv 0, .slice none 0 0] 29 ∧ w4.drew.cell? ⟨w1.heap.size, 5, none⟩ = some (.int .u64 D1.session) ∧ w4.drew.cell? ⟨w1.heap.size, 8, none⟩ = some (.int .u64 D1.seq) ∧ Has w4.drew w3.heap.size (V.cs a c) 29 ∧ w.grownBy w4.drew none ∧ SeenN ws w4.drew a V.S) := ⟨HB.out.1, HB.out.2.1, HB.out.2.2.1, HB.out.2.2.2.1, HB.out.2.2.2.2.1.trans (gr_drew _ none), HB.out.2.2.2.2.2.kept (gr_drew _ none)⟩
          rw [hW0] at HB ⊢
          clear hW0
          have hHeld : (fun w' => w'.cell? ⟨w1.heap.size, 5, none⟩ = some (.int .u64 D1.session) ∧ w'.cell? ⟨w1.heap.size, 8, none⟩ = some (.int .u64 D1.seq) ∧ Has w' w3.heap.size (V.cs a c) 29) W0 := ⟨HB.out.2.1, HB.out.2.2.1, HB.out.2.2.2.1⟩
          refine wpAnyY_pure (i := 0) (oi := _) (v := ?_) rfl (by kernel_rfl) (by kernel_rfl) (by kernel_rfl) (by kernel_rfl) (fun _ _ _ h => h) (Or.inl ⟨by rfl, ?_⟩) ?_
          rotate_left
          · (intro w hSw; go_simp; first | done | (with_reducible rfl))
          simp only [Act.put, List.getElem_toArray, List.getElem_cons_zero, List.setIfInBounds_toArray, List.set_cons_zero, List.set_cons_succ]
          refine wpAnyY_take (i := 1) (oi := _) (v := ?_) rfl (by kernel_rfl) (by kernel_rfl) (by kernel_rfl) (by kernel_rfl) (by kernel_rfl) (fun _ _ _ h => h) (Or.inl ⟨by rfl, ?_⟩) (by assumption) ?_
          rotate_left
          · (intro w hSw; obtain ⟨x1, x2, x3⟩ := hSw; go_simp; first | done | (with_reducible rfl))
          simp only [Act.put, List.getElem_toArray, List.getElem_cons_succ, List.getElem_cons_zero, List.setIfInBounds_toArray, List.set_cons_zero, List.set_cons_succ]
          refine wpAnyY_pure (i := 2) (oi := _) (v := ?_) rfl (by kernel_rfl) (by kernel_rfl) (by kernel_rfl) (by kernel_rfl) (fun _ _ _ h => h) (Or.inl ⟨by rfl, ?_⟩) ?_
          rotate_left
          · (intro w hSw; go_simp; first | done | (with_reducible rfl))
          simp only [Act.put, List.getElem_toArray, List.getElem_cons_succ, List.getElem_cons_zero, List.setIfInBounds_toArray, List.set_cons_zero, List.set_cons_succ]
          refine wpAnyY_take (i := 3) (oi := _) (v := ?_) rfl (by kernel_rfl) (by kernel_rfl) (by kernel_rfl) (by kernel_rfl) (by kernel_rfl) (fun _ _ _ h => h) (Or.inl ⟨by rfl, ?_⟩) (by assumption) ?_
          rotate_left
          · (intro w hSw; obtain ⟨x1, x2, x3⟩ := hSw; go_simp; first | done | (with_reducible rfl))
          simp only [Act.put, List.getElem_toArray, List.getElem_cons_succ, List.getElem_cons_zero, List.setIfInBounds_toArray, List.set_cons_zero, List.set_cons_succ]
          refine wpAnyY_take (i := 4) (oi := _) (v := .agg (V.cs a c).toArray) rfl (by kernel_rfl) (by kernel_rfl) (by kernel_rfl) (by kernel_rfl) (by kernel_rfl) (fun _ _ _ h => h) (yieldsIf_load_mid (by rfl) 29 _ rfl _ _ rfl _ _ (fun w hSw => hSw.2.2.range) hd hrw infoV) (by assumption) ?_
          simp only [Act.put, List.getElem_toArray, List.getElem_cons_succ, List.getElem_cons_zero, List.setIfInBounds_toArray, List.set_cons_zero, List.set_cons_succ]
          refine wpAnyY_one (i := 5) (by kernel_rfl) rfl (fun K hK => ?_)
          go_simp
          refine hK.out _ _ (fun h => h) ?_
          clear hK K
          refine wpAnyY_one (i := 6) (by kernel_rfl) rfl (fun K hK => ?_)
          go_simp
          refine hK.out _ _ (fun h => h) ?_
          clear hK K
          refine wpAnyY_late (i := 7) (by kernel_rfl) rfl (by kernel_rfl) (fun K hK => ?_)
          rw [if_pos (show Region.wanted _ _ = true from rfl)]
          refine wp_store_mid 29 _ _ rfl w.heap.size 0 (V.cs a c).toArray rfl rfl (HB.out.1.there 0 16 (Nat.le_refl _)) infoV (all_oneCell_toArray (vw_one V a c)) ?_
          refine hK.out _ _ ?_
          clear hK K
          have HF : Keep (Has (W0.setCells w.heap.size 0 (V.cs a c)) w.heap.size (V.cs a c) 29 ∧ W0.grownBy (W0.setCells w.heap.size 0 (V.cs a c)) (some w.heap.size)) := ⟨HB.out.1.setAll (V.cs a c) rfl, gr_sets _ _ _ _⟩
          obtain ⟨w7, hw7⟩ : ∃ q, W0.setCells w.heap.size 0 (V.cs a c) = q := ⟨_, rfl⟩
          rw [hw7] at HF
          change wpAnyY _ _ _ _ _ _ _ _ _ (W0.setCells w.heap.size 0 (V.cs a c))
          rw [hw7]
          clear hw7
          refine wpAnyY_one (i := 8) (by kernel_rfl) rfl (fun K hK => ?_)
          go_simp
          refine hK.out _ _ (fun h => h) ?_
          clear hK K
          refine wpAnyY_done (by kernel_rfl) ?_ _
          go_wp2_with fail
          exact ret_ttct rfl rfl HF.out.1 hd hrw infoV rfl (by
            have hS : SeenN w w7 a V.S := SeenN.over (w1 := ws) HB.out.2.2.2.2.2 HF.out.2 HL.out (Nat.le_of_lt HL.out)
            rw [HR2.out]
            exact Exists.intro a (And.intro (Exists.intro c rfl) (And.intro (gr_new HB.out.2.2.2.2.1 HF.out.2 (Nat.le_refl _)) hS)))
        · have hq2 : (rc != 0) = true := by simp [hz2]
          have HR2 : Keep (U = (0, 0, Vw.zero, rc)) := by
            refine ⟨?_⟩
            rw [← HG.out.2.2.1, op_2 HU.out.1 (by rw [HU.out.2, HRC.out.2.1]; exact hz2), HU.out.2, HRC.out.2.1]
          clear hz2
          have HBT := Keep.mk builtV
          go_wp2_with (first
            | (with_reducible show wpList _ _ _ ({ dst := _, op := Op.store 29 _ _, type := _, pos := _, after := _, guard := _ } :: _) _ (World.alloc _ _)
               refine st_new w3 (V.cs a c) 29 rfl rfl rfl rfl rfl infoV (vw_one _ _ _) ?_
               intro w4 h4 g4
               have HR5 : Keep (Has w4 w.heap.size [uv 0, iv 0, .string ⟨#[]⟩, iv 0, iv 0, iv 0, iv 0, iv 0, iv 0, iv 0, iv 0, iv 0, iv 0, iv 0, iv 0, .slice none 0 0] 29 ∧ w.grownBy w4 none) := ⟨HR3.out.1.kept g4 (by simp), HR3.out.2.1.trans g4⟩
               clear h4 g4)
            | (with_reducible show wpList _ _ _ ({ dst := _, op := Op.build 29 _, type := _, pos := _, after := _, guard := _ } :: _) _ _
               refine wpList_build rfl 29 _ rfl _ ((congrArg (Tryz.prog.built 29) (by simp only [List.map_toArray, List.map_nil]; rfl)).trans HBT.out) ?_)
            | (with_reducible show wpList _ _ _ ({ dst := _, op := Op.store 29 _ _, type := _, pos := _, after := _, guard := _ } :: _) _ _
               refine st_all _ w.heap.size [uv 0, iv 0, .string ⟨#[]⟩, iv 0, iv 0, iv 0, iv 0, iv 0, iv 0, iv 0, iv 0, iv 0, iv 0, iv 0, iv 0, .slice none 0 0] (Vw.zero.cs none 0) 29 29 rfl rfl rfl rfl HR5.out.1 rfl infoV (vw_one _ _ _) ?_
               intro w6 h6 g6
               have HF := Keep.mk (And.intro h6 g6)
               clear h6 g6))
          exact ret_ttct rfl rfl HF.out.1 hd hrw infoV rfl (by rw [HR2.out]; exact ⟨none, 0, rfl, gr_new HR5.out.2 HF.out.2 (Nat.le_refl _), SeenN.nil _ _ _⟩)
    · have hq6 : (kd != 6) = true := by simp [h6]
      have HR2 : Keep (U = (0, 0, Vw.zero, 71)) := by
        refine ⟨?_⟩
        have e := uns_2 (key := key) HZ.out.1 (by rw [HZ.out.2, HK.out]; exact h6)
        rw [← HG.out.2.2.1, op_1 (by rw [e]; simp), e]
      clear h6
      have HBT := Keep.mk builtV
      go_wp2_with (first
        | (with_reducible show wpList _ _ _ ({ dst := _, op := Op.build 29 _, type := _, pos := _, after := _, guard := _ } :: _) _ _
           refine wpList_build rfl 29 _ rfl _ ((congrArg (Tryz.prog.built 29) (by simp only [List.map_toArray, List.map_nil]; rfl)).trans HBT.out) ?_)
        | (with_reducible show wpList _ _ _ ({ dst := _, op := Op.store 29 _ _, type := _, pos := _, after := _, guard := _ } :: _) _ _
           refine st_all _ w.heap.size [uv 0, iv 0, .string ⟨#[]⟩, iv 0, iv 0, iv 0, iv 0, iv 0, iv 0, iv 0, iv 0, iv 0, iv 0, iv 0, iv 0, .slice none 0 0] (Vw.zero.cs none 0) 29 29 rfl rfl rfl rfl HR.out.1 rfl infoV (vw_one _ _ _) ?_
           intro w6 h6 g6
           have HF := Keep.mk (And.intro h6 g6)
           clear h6 g6))
      exact ret_ttct rfl rfl HF.out.1 hd hrw infoV rfl (by rw [HR2.out]; exact ⟨none, 0, rfl, gr_new HR.out.2 HF.out.2 (Nat.le_refl _), SeenN.nil _ _ _⟩)
  · have hq : (cd != 0) = true := by simp [hz]
    have HR2 : Keep (U = (0, 0, Vw.zero, cd)) := by
      refine ⟨?_⟩
      have e := uns_1 (s := s) (key := key) (by rw [HG.out.2.2.2, HC.out.2]; exact hz)
      rw [← HG.out.2.2.1, op_1 (by rw [e]; show (dec (sl s)).2 ≠ 0; rw [HG.out.2.2.2, HC.out.2]; exact hz), e]
      show (0, 0, Vw.zero, (dec (sl s)).2) = _
      rw [HG.out.2.2.2, HC.out.2]
    clear hz
    have HBT := Keep.mk builtV
    go_wp2_with (first
      | (with_reducible show wpList _ _ _ ({ dst := _, op := Op.build 29 _, type := _, pos := _, after := _, guard := _ } :: _) _ _
         refine wpList_build rfl 29 _ rfl _ ((congrArg (Tryz.prog.built 29) (by simp only [List.map_toArray, List.map_nil]; rfl)).trans HBT.out) ?_)
      | (with_reducible show wpList _ _ _ ({ dst := _, op := Op.store 29 _ _, type := _, pos := _, after := _, guard := _ } :: _) _ _
         refine st_all _ w.heap.size [uv 0, iv 0, .string ⟨#[]⟩, iv 0, iv 0, iv 0, iv 0, iv 0, iv 0, iv 0, iv 0, iv 0, iv 0, iv 0, iv 0, .slice none 0 0] (Vw.zero.cs none 0) 29 29 rfl rfl rfl rfl HR.out.1 rfl infoV (vw_one _ _ _) ?_
         intro w6 h6 g6
         have HF := Keep.mk (And.intro h6 g6)
         clear h6 g6))
    exact ret_ttct rfl rfl HF.out.1 hd hrw infoV rfl (by rw [HR2.out]; exact ⟨none, 0, rfl, gr_new HR.out.2 HF.out.2 (Nat.le_refl _), SeenN.nil _ _ _⟩)
end Go.Proofs.YtkdjcknikhgfkaaGreatDoor.Pk.Sn
