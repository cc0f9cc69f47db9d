import Derived.Test.YtldnpebnpbahjaaGreatDoorX48
import Derived.Test.YtldnpebnpbahjaaGreatDoorCB4
/- ClientStale: the walk -/
namespace Go.Proofs.YtldnpebnpbahjaaGreatDoor.Pk.Sn
open Go Go.RowKit

/-- its session, the greatest that was believed, the last view -/
def stC (sc nc : ByteArray) (h : Nat) (vw : ByteArray) : Cl := { begC sc nc 5 with bl := h, vw := vw }
theorem st_ok {sc nc : ByteArray} (h1 : sc.size = 32) (h2 : nc.size = 16) {h : Nat} (hh : h < 18446744073709551616) {vw : ByteArray} (hv : vw.size ≤ 1200) : (stC sc nc h vw).ok :=
  ⟨(beg_ok h1 h2 (n := 5) (by omega)).nm, h1, h2, (beg_ok h1 h2 (n := 5) (by omega)).key, by show 5 < 18446744073709551616; omega, (beg_ok h1 h2 (n := 5) (by omega)).pl, hh, by show 5 < 18446744073709551616; omega, hv, .inr (.inr rfl)⟩
/-- what was seen -/
structure VI (h : Nat) (vw : ByteArray) : Prop where
  a : h = 0 → vw = nob
  b : h ≠ 0 → (rdV (sl vw)).2 = 0
  s : vw.size ≤ 1200
theorem VI.has {h : Nat} {vw : ByteArray} (q : VI h vw) : decide ((rdV (sl vw)).2 = 0) = decide (0 < h) := by
  by_cases h0 : h = 0
  · have e := q.a h0
    subst e
    rw [decide_eq_false rd_none, h0]; rfl
  · rw [decide_eq_true (q.b h0), decide_eq_true (show 0 < h by omega)]
theorem sm_small {t p he sc : Int} {n : ByteArray} (h : Smv t p he sc n) {q : Nat} (hq : 0 < q) : VI q (ba (encV (smV t p he sc n))) :=
  ⟨fun e => by omega, fun _ => by rw [show sl (ba (encV (smV t p he sc n))) = encV (smV t p he sc n) from sl_mk _, rd_wr (sm_ok h) (sm_fit h)], by rw [ba_size]; have := sm_enc h; omega⟩

set_option maxRecDepth 100000 in
theorem builtCarS (x : Int) : Tryz.prog.built 46 [(0, .int .i64 3), (11, .int .i64 x)] = some #[.int .i64 3, .string { data := #[] }, .int .i64 0, .int .i64 0, .int .i64 0, .int .i64 0, .int .i64 0, .int .i64 0, .int .i64 0, .int .i64 0, .int .i64 0, .int .i64 0, .int .i64 0, .int .i64 x] := by kernel_rfl
set_option maxRecDepth 100000 in
theorem builtVwS (t x : Int) : Tryz.prog.built 49 [(0, .int .u64 t), (1, .agg #[.int .i64 3, .string { data := #[] }, .int .i64 0, .int .i64 0, .int .i64 0, .int .i64 0, .int .i64 0, .int .i64 0, .int .i64 0, .int .i64 0, .int .i64 0, .int .i64 0, .int .i64 0, .int .i64 x])] = some ((smV t 3 0 x nob).cs none 0).toArray := by kernel_rfl
set_option maxRecDepth 100000 in
theorem builtByS (q : Int) : Tryz.prog.built 34 [(0, .int .i64 7), (5, .int .u64 5), (8, .int .u64 q)] = some #[.int .i64 7, .string { data := #[] }, .int .u64 0, .string { data := #[] }, .string { data := #[] }, .int .u64 5, .int .i64 0, .string { data := #[] }, .int .u64 q, .int .i64 0, .int .i64 0, .bool false, .bool false, .string { data := #[] }, .string { data := #[] }] := by kernel_rfl
set_option maxHeartbeats 8000000 in
set_option maxRecDepth 100000 in
theorem clientStale_c (se no : ByteArray) (a : Option Addr) (c : Nat) (L : List Nat) (w : World) (hk : Kc w) (hn : Na.Kc w) (hr : 0 < L.length → ∃ b o : Nat, a = some ⟨b, o, none⟩ ∧ ∀ (j x : Nat), L[j]? = some x → w.rangeAt b (o + j * 1) [.int .u64 (x : Int)]) (hok : ∀ x ∈ L, x < 18446744073709551616) :
    Calls Tryz.prog 4 #[.string se, .string no, .slice a L.length c] w fun e w' => e = .returned (.bool true) ∧ w.grownBy w' none := by
  obtain ⟨dv', hdv, hdvr⟩ := underV
  have HBG := Keep.mk (begun_c se no 5 w hk hn (by omega) (by omega))
  have HT2 := Keep.mk (fun w => text_c no 16 (by omega) w)
  have HSL : Keep (∀ w : World, Calls Tryz.prog 19 #[.string { data := #[115, 97, 108, 116] }, .int .i64 16] w fun e w' => e = .returned (.string salB) ∧ w.grownBy w' none) := ⟨fun w => text_c _ 16 (by omega) w⟩
  have hs1 := txB_size se 32
  have hs2 := txB_size no 16
  generalize txB se 32 = sc at HBG hs1
  generalize txB no 16 = nc at HBG hs2 HT2
  obtain ⟨m, hm⟩ : ∃ m, L.length = m := ⟨_, rfl⟩
  rw [hm] at hr ⊢
  have HK := Keep.mk (And.intro hk (And.intro hs1 (And.intro hs2 (And.intro hr (And.intro hok hm)))))
  clear hk hn hs1 hs2 hr hok hm
  go_enter Tryz.func4, Tryz.ntmps4
  go_wp2_with fail
  refine HBG.out.mono ?_
  rintro e w1 ⟨cb, rfl, h1, g1, hcb⟩
  obtain ⟨K, hK1⟩ : ∃ q, begK sc nc 5 = q := ⟨_, rfl⟩
  have HKK := Keep.mk hK1
  have HK32 : Keep (K.size = 32) := ⟨by rw [← hK1]; exact keyB_size _ _ _ _⟩
  have HCB := Keep.mk hcb
  rw [hK1]
  have H1 : Keep (Has w1 cb (stC sc nc 0 nob).cs 83 ∧ w.grownBy w1 none) := ⟨h1, g1⟩
  clear h1 g1 HBG hK1 hcb
  go_wp2_with fail
  go_loopw [10, 11] (fun s t w' => ∃ (i h : Nat) (vw : ByteArray), s = .int .u64 (h : Int) ∧ t = .int .i64 (i : Int) ∧ i ≤ 60 ∧ h < 18446744073709551616 ∧ Keep (VI h vw) ∧ Keep (Has w' cb (stC sc nc h vw).cs 83 ∧ w.grownBy w' none)) (fun _ t _ => 60 - (intOf t).toNat)
  case atStart => exact ⟨0, 0, nob, rfl, rfl, by omega, by omega, ⟨⟨fun _ => rfl, fun h => absurd rfl h, by show (0 : Nat) ≤ 1200; omega⟩⟩, H1⟩
  case round =>
    obtain ⟨i, h, vw, rfl, rfl, hi, hh, HVI, H2⟩ := hrel
    have hHH := Keep.mk hh
    by_cases him : i < m
    · by_cases hi60 : i < 60
      · obtain ⟨b, o, rfl, hat⟩ := HK.out.2.2.2.1 (by omega)
        obtain ⟨q, hc0⟩ : ∃ x, L[i]? = some x := ⟨_, List.getElem?_eq_getElem (by have := HK.out.2.2.2.2.2; omega)⟩
        have HQ : Keep (q < 18446744073709551616) := ⟨HK.out.2.2.2.2.1 _ (List.mem_of_getElem? hc0)⟩
        have hqc : w.cell? ⟨b, o + i, none⟩ = some (.int .u64 (q : Int)) := by
          have := hat i q hc0 0 _ rfl
          rw [Nat.mul_one, Nat.add_zero] at this
          exact this
        have HQC := Keep.mk hqc
        have q1 : decide ((i : Int) < (m : Int)) = true := decide_eq_true (by omega)
        have q2 : decide (i < m) = true := decide_eq_true him
        have q3 : (i : Int) < (m : Int) := by omega
        have q4 : decide ((i : Int) < 60) = true := decide_eq_true (by omega)
        have q5 : decide (i < 60) = true := decide_eq_true hi60
        have hwi : IntKind.u64.wrap (i : Int) = (i : Int) := by
          have : IntKind.u64.wrap (i : Int) = (i : Int) % 18446744073709551616 := rfl
          rw [this]; omega
        have HSM : Keep (Smv i 3 0 i nob) := ⟨⟨by omega, by omega, by omega, by omega, by show (0 : Nat) ≤ 24; omega⟩⟩
        have HB1 := Keep.mk (builtCarS i)
        have HB2 := Keep.mk (builtVwS i i)
        clear hat hc0 hqc
        go_wp2_with (first
          | (with_reducible show wpList _ _ _ ({ dst := _, op := Op.build 46 _, type := _, pos := _, after := _, guard := _ } :: _) _ _
             refine build_g rfl 46 _ rfl _ ((congrArg (Tryz.prog.built 46) (by simp only [List.map_toArray, List.map_cons, List.map_nil]; rfl)).trans HB1.out) ?_
             simp only [Act.put, List.setIfInBounds_toArray, List.set_cons_zero, List.set_cons_succ])
          | (with_reducible show wpList _ _ _ ({ dst := _, op := Op.build 49 _, type := _, pos := _, after := _, guard := _ } :: _) _ _
             refine build_g rfl 49 _ rfl _ ((congrArg (Tryz.prog.built 49) (by simp only [List.map_toArray, List.map_cons, List.map_nil]; rfl)).trans HB2.out) ?_
             simp only [Act.put, List.setIfInBounds_toArray, List.set_cons_zero, List.set_cons_succ])
          | (with_reducible show wpList _ _ _ ({ dst := none, op := Op.store 49 (Operand.tmp 12) _, type := _, pos := _, after := _, guard := _ } :: _) _ _
             refine st_new wr ((smV i 3 0 i nob).cs none 0) 49 rfl rfl rfl rfl rfl infoV (vw_one _ _ _) ?_
             intro w2 h6 g6
             have X2 : Keep (Has w2 wr.heap.size ((smV i 3 0 i nob).cs none 0) 49 ∧ Has w2 cb (stC sc nc h vw).cs 83 ∧ w.grownBy w2 none ∧ wr.heap.size ≠ cb) := ⟨h6, H2.out.1.kept g6 (by simp), H2.out.2.trans g6, by have := H2.out.1.lt; omega⟩
             have qc2 := X2.out.2.2.1.cell HQC.out (by simp)
             clear h6 g6))
        obtain ⟨S, x, e1, e2, e3, e4, _⟩ := snap_yes HSM.out (s := 5) (q := q) (by omega) HQ.out K
        have HMK : Keep (∀ w3 : World, w2.grownBy w3 none → Calls Tryz.prog 14 #[.int .u64 5, .int .u64 (q : Int), .agg ((smV i 3 0 i nob).cs none 0).toArray, .string K] w3 fun e w' => e = .returned (.tuple #[.string S, .int .i64 0]) ∧ w3.grownBy w' none) := ⟨fun w3 g => by
          have hm := make_c 5 q (smV i 3 0 i nob) none 0 K w3 (by omega) HQ.out (sm_ok HSM.out) (fun e => absurd rfl e) (HK.out.1.kept (X2.out.2.2.1.trans g) (by simp)) (by have := HK32.out; omega)
          rw [e1] at hm
          exact hm⟩
        have HS := Keep.mk (And.intro e2 (And.intro e3 e4))
        clear e1 e2 e3 e4 HB1 HB2
        refine region_Y (S := fun w' => w2.grownBy w' none) [] (by kernel_rfl) ?_
        have hHeld := gr_drew w2 none
        refine wpAnyY_pure (i := 0) (oi := _) (v := ?_) rfl (by kernel_rfl) (by kernel_rfl) (by kernel_rfl) (by kernel_rfl) (fun _ _ _ h => h) (Or.inl ⟨by rfl, ?_⟩) ?_
        rotate_left
        · (intro w hSw; go_simp; first | done | (with_reducible rfl))
        simp only [Act.put, List.getElem_toArray, List.getElem_cons_zero, List.setIfInBounds_toArray, List.set_cons_zero, List.set_cons_succ]
        refine wpAnyY_pure (i := 1) (oi := _) (v := ?_) rfl (by kernel_rfl) (by kernel_rfl) (by kernel_rfl) (by kernel_rfl) (fun _ _ _ h => h) (Or.inl ⟨by rfl, ?_⟩) ?_
        rotate_left
        · (intro w hSw; go_simp; first | done | (with_reducible rfl))
        simp only [Act.put, List.getElem_toArray, List.getElem_cons_succ, List.getElem_cons_zero, List.setIfInBounds_toArray, List.set_cons_zero, List.set_cons_succ]
        refine wpAnyY_pure (i := 2) (oi := _) (v := ?_) rfl (by kernel_rfl) (by kernel_rfl) (by kernel_rfl) (by kernel_rfl) (fun _ _ _ h => h) (Or.inl ⟨by rfl, ?_⟩) ?_
        rotate_left
        · (intro w hSw; go_simp; first | done | (with_reducible rfl))
        simp only [Act.put, List.getElem_toArray, List.getElem_cons_succ, List.getElem_cons_zero, List.setIfInBounds_toArray, List.set_cons_zero, List.set_cons_succ]
        refine wpAnyY_take (i := 3) (oi := _) (v := ?_) rfl (by kernel_rfl) (by kernel_rfl) (by kernel_rfl) (by kernel_rfl) (by kernel_rfl) (fun _ _ _ h => h) (Or.inl ⟨by rfl, ?_⟩) (by assumption) ?_
        rotate_left
        · (intro w hSw; have k0 := hSw.cell qc2 (by simp); go_simp; first | done | (with_reducible rfl))
        simp only [Act.put, List.getElem_toArray, List.getElem_cons_succ, List.getElem_cons_zero, List.setIfInBounds_toArray, List.set_cons_zero, List.set_cons_succ]
        refine wpAnyY_take (i := 4) (oi := _) (v := .agg ((smV i 3 0 i nob).cs none 0).toArray) rfl (by kernel_rfl) (by kernel_rfl) (by kernel_rfl) (by kernel_rfl) (by kernel_rfl) (fun _ _ _ h => h) (yieldsIf_load_mid (by rfl) 49 _ rfl _ _ rfl _ _ (fun w hSw => (X2.out.1.kept hSw (by simp)).range) hdv hdvr infoV) (by assumption) ?_
        simp only [Act.put, List.getElem_toArray, List.getElem_cons_succ, List.getElem_cons_zero, List.setIfInBounds_toArray, List.set_cons_zero, List.set_cons_succ]
        refine wpAnyY_pure (i := 5) (oi := _) (v := ?_) rfl (by kernel_rfl) (by kernel_rfl) (by kernel_rfl) (by kernel_rfl) (fun _ _ _ h => h) (Or.inl ⟨by rfl, ?_⟩) ?_
        rotate_left
        · (intro w hSw; go_simp; first | done | (with_reducible rfl))
        simp only [Act.put, List.getElem_toArray, List.getElem_cons_succ, List.getElem_cons_zero, List.setIfInBounds_toArray, List.set_cons_zero, List.set_cons_succ]
        refine wpAnyY_one (i := 6) (o := _) (by kernel_rfl) rfl (fun K hK => ?_)
        go_simp
        refine (HMK.out _ hHeld).mono ?_
        rintro e w3 ⟨rfl, g30⟩
        have g3 := Keep.mk (hHeld.trans g30)
        refine hK.out _ _ (fun q => q.trans g30) ?_
        clear hK K g30
        have hHeld := g3.out
        refine wpAnyY_pure (i := 7) (oi := _) (v := ?_) rfl (by kernel_rfl) (by kernel_rfl) (by kernel_rfl) (by kernel_rfl) (fun _ _ _ h => h) (Or.inl ⟨by rfl, ?_⟩) ?_
        rotate_left
        · (intro w hSw; go_simp; first | done | (with_reducible rfl))
        simp only [Act.put, List.getElem_toArray, List.getElem_cons_succ, List.getElem_cons_zero, List.setIfInBounds_toArray, List.set_cons_zero, List.set_cons_succ]
        refine wpAnyY_pure (i := 8) (oi := _) (v := ?_) rfl (by kernel_rfl) (by kernel_rfl) (by kernel_rfl) (by kernel_rfl) (fun _ _ _ h => h) (Or.inl ⟨by rfl, ?_⟩) ?_
        rotate_left
        · (intro w hSw; go_simp; first | done | (with_reducible rfl))
        simp only [Act.put, List.getElem_toArray, List.getElem_cons_succ, List.getElem_cons_zero, List.setIfInBounds_toArray, List.set_cons_zero, List.set_cons_succ]
        refine wpAnyY_pure (i := 9) (oi := _) (v := ?_) rfl (by kernel_rfl) (by kernel_rfl) (by kernel_rfl) (by kernel_rfl) (fun _ _ _ h => h) (Or.inl ⟨by rfl, ?_⟩) ?_
        rotate_left
        · (intro w hSw; go_simp; first | done | (with_reducible rfl))
        simp only [Act.put, List.getElem_toArray, List.getElem_cons_succ, List.getElem_cons_zero, List.setIfInBounds_toArray, List.set_cons_zero, List.set_cons_succ]
        refine wpAnyY_one (i := 10) (o := _) (by kernel_rfl) rfl (fun K hK => ?_)
        go_simp
        refine hK.out _ _ (fun h => h) ?_
        clear hK K
        refine wpAnyY_one (i := 11) (o := _) (by kernel_rfl) rfl (fun K hK => ?_)
        go_simp
        refine hK.out _ _ (fun h => h) ?_
        clear hK K
        refine wpAnyY_done (by kernel_rfl) ?_ _

        have X3 : Keep (Has w3 wr.heap.size ((smV i 3 0 i nob).cs none 0) 49 ∧ Has w3 cb (stC sc nc h vw).cs 83 ∧ w.grownBy w3 none) := ⟨X2.out.1.kept g3.out (by simp), X2.out.2.1.kept g3.out (by simp), X2.out.2.2.1.trans g3.out⟩
        have hnc : wr.heap.size ≠ cb := X2.out.2.2.2
        have HNC := Keep.mk hnc
        clear g3 HMK X2 qc2 hHeld hnc
        have HHE0 := hear_c cb (stC sc nc h vw) S w3 (HK.out.1.kept X3.out.2.2 (by simp)) X3.out.2.1 (st_ok HK.out.2.1 HK.out.2.2.1 hh HVI.out.s) (by have := HS.out.2.2; omega)
        rw [hea_snap HSM.out (C := stC sc nc h vw) (q := q) (x := x) rfl HS.out.1 (by show sealed S (begK sc nc 5) = true; rw [HKK.out]; exact HS.out.2.1)] at HHE0
        have hblq : (stC sc nc h vw).bl = h := rfl
        rw [hblq] at HHE0
        have HHE := Keep.mk HHE0
        clear HHE0 hblq hwi
        by_cases hqh : q ≤ h
        · rw [if_pos hqh] at HHE
          go_wp2_with fail
          refine HHE.out.mono ?_
          rintro e w4 ⟨rfl, h4, g4⟩
          have X4 : Keep (Has w4 cb (stC sc nc h vw).cs 83 ∧ w.grownBy w4 none) := ⟨h4, gr_new X3.out.2.2 g4 HCB.out⟩
          have qc4 := X4.out.2.cell HQC.out (by simp)
          have p1 : decide ((h : Int) < (q : Int)) = false := decide_eq_false (by omega)
          have p2 : decide (h < q) = false := decide_eq_false (by omega)
          clear h4 g4 HHE hqh X3
          unfold nob
          have HVW := Keep.mk (view_t cb (stC sc nc h vw) w4 X4.out.1)
          have hvv : (stC sc nc h vw).vw = vw := rfl
          rw [hvv, HVI.out.has] at HVW
          generalize (rdV (sl vw)).1 = V2 at HVW
          clear hvv
          go_wp2_with fail
          refine HVW.out.mono ?_
          rintro e w5 ⟨a5, c5, rfl, _, g5⟩
          have X5 : Keep (Has w5 cb (stC sc nc h vw).cs 83 ∧ w.grownBy w5 none) := ⟨X4.out.1.kept g5 (by simp), X4.out.2.trans g5⟩
          clear g5 X4 qc4 HVW
          obtain ⟨B, hB⟩ : ∃ B, decide (0 < h) = B := ⟨_, rfl⟩
          have hB2 : decide ((0 : Int) < (h : Int)) = B := by rw [← hB]; by_cases hz : 0 < h <;> simp [hz] <;> omega
          rw [hB]
          go_wp2_with (first
            | (with_reducible show wpList _ _ _ ({ dst := none, op := Op.store 49 (Operand.tmp 18) _, type := _, pos := _, after := _, guard := _ } :: _) _ _
               refine st_new w5 (V2.cs a5 c5) 49 rfl rfl rfl rfl rfl infoV (vw_one _ _ _) ?_
               intro w6 h6 g6
               have X6 : Keep (Has w6 cb (stC sc nc h vw).cs 83 ∧ w.grownBy w6 none) := ⟨X5.out.1.kept g6 (by simp), X5.out.2.trans g6⟩
               clear h6 g6))
          refine ⟨⟨i + 1, h, vw, rfl, by go_num, by omega, hHH.out, HVI, X6⟩, ?_⟩
          simp [intOf]; omega
        · rw [if_neg hqh] at HHE
          have e2 : ({ (stC sc nc h vw) with vw := ba (encV (smV i 3 0 i nob)), bl := q } : Cl) = stC sc nc q (ba (encV (smV i 3 0 i nob))) := rfl
          rw [e2] at HHE
          have HVI2 : Keep (VI q (ba (encV (smV i 3 0 i nob)))) := ⟨sm_small HSM.out (by omega)⟩
          have HRV : Keep (rdV (sl (ba (encV (smV i 3 0 i nob)))) = (smV i 3 0 i nob, 0)) := ⟨by rw [show sl (ba (encV (smV i 3 0 i nob))) = encV (smV i 3 0 i nob) from sl_mk _]; exact rd_wr (sm_ok HSM.out) (sm_fit HSM.out)⟩
          generalize ba (encV (smV i 3 0 i nob)) = vw2 at HHE HVI2 HRV
          clear e2
          go_wp2_with fail
          refine HHE.out.mono ?_
          rintro e w4 ⟨rfl, h4, g4⟩
          have X4 : Keep (Has w4 wr.heap.size ((smV i 3 0 i nob).cs none 0) 49 ∧ Has w4 cb (stC sc nc q vw2).cs 83 ∧ w.grownBy w4 none) := ⟨X3.out.1.kept g4 (by simp; exact HNC.out), h4, gr_new X3.out.2.2 g4 HCB.out⟩
          have qc4 := X4.out.2.2.cell HQC.out (by simp)
          have p1 : decide ((h : Int) < (q : Int)) = true := decide_eq_true (by omega)
          have p2 : decide (h < q) = true := decide_eq_true (by omega)
          have r1 : decide ((0 : Int) < (q : Int)) = true := decide_eq_true (by omega)
          have r2 : decide (0 < q) = true := decide_eq_true (by omega)
          clear h4 g4 HHE hqh X3
          unfold nob
          have HVW := Keep.mk (view_t cb (stC sc nc q vw2) w4 X4.out.2.1)
          have hvv : (stC sc nc q vw2).vw = vw2 := rfl
          rw [hvv, HRV.out] at HVW
          clear hvv
          go_wp2_with fail
          refine HVW.out.mono ?_
          rintro e w5 ⟨a5, c5, rfl, _, g5⟩
          have X5 : Keep (Has w5 wr.heap.size ((smV i 3 0 i nob).cs none 0) 49 ∧ Has w5 cb (stC sc nc q vw2).cs 83 ∧ w.grownBy w5 none) := ⟨X4.out.1.kept g5 (by simp), X4.out.2.1.kept g5 (by simp), X4.out.2.2.trans g5⟩
          clear g5 X4 qc4 HVW
          go_wp2_with (first
            | (with_reducible show wpList _ _ _ ({ dst := none, op := Op.store 49 (Operand.tmp 18) _, type := _, pos := _, after := _, guard := _ } :: _) _ _
               refine st_new w5 ((smV i 3 0 i nob).cs a5 c5) 49 rfl rfl rfl rfl rfl infoV (vw_one _ _ _) ?_
               intro w6 h6 g6
               have X6 : Keep (Has w6 w5.heap.size ((smV i 3 0 i nob).cs a5 c5) 49 ∧ Has w6 wr.heap.size ((smV i 3 0 i nob).cs none 0) 49 ∧ Has w6 cb (stC sc nc q vw2).cs 83 ∧ w.grownBy w6 none) := ⟨h6, X5.out.1.kept g6 (by simp), X5.out.2.1.kept g6 (by simp), X5.out.2.2.trans g6⟩
               clear h6 g6)
            | (with_reducible show wpList _ _ _ ({ dst := _, op := Op.load 49 (Operand.tmp 18), type := _, pos := _, after := _, guard := _ } :: _) _ _
               refine load_g rfl 49 _ rfl w5.heap.size 0 rfl ((smV i 3 0 i nob).cs a5 c5) dv' X6.out.1.range hdv hdvr infoV ?_)
            | (with_reducible show wpList _ _ _ ({ dst := _, op := Op.load 49 (Operand.tmp 12), type := _, pos := _, after := _, guard := _ } :: _) _ _
               refine load_g rfl 49 _ rfl wr.heap.size 0 rfl ((smV i 3 0 i nob).cs none 0) dv' X6.out.2.1.range hdv hdvr infoV ?_))
          refine (veq_c (smV i 3 0 i nob) a5 none c5 0 w6 rfl).mono ?_
          rintro e w7 ⟨rfl, g7⟩
          have X7 : Keep (Has w7 cb (stC sc nc q vw2).cs 83 ∧ w.grownBy w7 none) := ⟨X6.out.2.2.1.kept g7 (by simp), X6.out.2.2.2.trans g7⟩
          clear g7 X6 X5
          go_wp2_with fail
          refine ⟨⟨i + 1, q, vw2, rfl, by go_num, by omega, HQ.out, HVI2, X7⟩, ?_⟩
          simp [intOf]; omega
      · have q1 : decide ((i : Int) < (m : Int)) = true := decide_eq_true (by omega)
        have q2 : decide (i < m) = true := decide_eq_true him
        have q4 : decide ((i : Int) < 60) = false := decide_eq_false (by omega)
        have q5 : decide (i < 60) = false := decide_eq_false hi60
        have HH := Keep.mk hh
        have HB3 : Keep (Tryz.prog.built 34 [(0, .int .i64 7), (5, .int .u64 5), (8, .int .u64 (h : Int))] = some (byD 5 h).cells.toArray) := ⟨builtByS _⟩
        obtain ⟨y1, x1, y2, y3, y4⟩ := bye_yes (s := 5) (q := h) (by omega) hh K
        have HSE : Keep (Calls Tryz.prog 18 #[.agg (byD 5 h).cells.toArray, .string K] wr fun e w' => e = .returned (.tuple #[.string (sealD (byD 5 h) K).1, .int .i64 0]) ∧ wr.grownBy w' none) := ⟨by
          have hm := seal_c (byD 5 h) K (byD_fine (by omega) hh) (byD_small 5 h) wr (HK.out.1.kept H2.out.2 (by simp)) (by have := HK32.out; omega)
          rw [y1] at hm
          exact hm⟩
        generalize (sealD (byD 5 h) K).1 = S1 at HSE y2 y3 y4
        have HS := Keep.mk (And.intro y2 (And.intro y3 y4))
        clear y1 y2 y3 y4 hh
        go_wp2_with (first
          | (with_reducible show wpList _ _ _ ({ dst := _, op := Op.build 34 _, type := _, pos := _, after := _, guard := _ } :: _) _ _
             refine build_g rfl 34 _ rfl _ ((congrArg (Tryz.prog.built 34) (by simp only [List.map_toArray, List.map_cons, List.map_nil]; rfl)).trans HB3.out) ?_
             simp only [Act.put, List.setIfInBounds_toArray, List.set_cons_zero, List.set_cons_succ]))
        refine HSE.out.mono ?_
        rintro e w2 ⟨rfl, g2⟩
        have X2 : Keep (Has w2 cb (stC sc nc h vw).cs 83 ∧ w.grownBy w2 none) := ⟨H2.out.1.kept g2 (by simp), H2.out.2.trans g2⟩
        have HHE0 := hear_c cb (stC sc nc h vw) S1 w2 (HK.out.1.kept X2.out.2 (by simp)) X2.out.1 (st_ok HK.out.2.1 HK.out.2.2.1 HH.out HVI.out.s) (by have := HS.out.2.2; omega)
        rw [hea_bye (C := stC sc nc h vw) (q := h) (x := x1) rfl HS.out.1 (by show sealed S1 (begK sc nc 5) = true; rw [HKK.out]; exact HS.out.2.1), if_pos (show h ≤ (stC sc nc h vw).bl from Nat.le_refl h)] at HHE0
        have HHE := Keep.mk HHE0
        clear HHE0 g2 HSE HB3 H2
        go_wp2_with fail
        refine HHE.out.mono ?_
        rintro e w3 ⟨rfl, h3, g3⟩
        have X3 : Keep (Has w3 cb (stC sc nc h vw).cs 83 ∧ w.grownBy w3 none) := ⟨h3, gr_new X2.out.2 g3 HCB.out⟩
        clear h3 g3 HHE X2 HS
        by_cases hmax : h = 18446744073709551615
        · have p1 : ((h : Int) == 18446744073709551615) = true := by simp [hmax]
          have p2 : (h == 18446744073709551615) = true := by simp [hmax]
          clear hmax
          go_wp2_with fail
          go_ret
          exact ⟨rfl, X3.out.2⟩
        have p1 : ((h : Int) == 18446744073709551615) = false := by simp; omega
        have p2 : (h == 18446744073709551615) = false := by simp; omega
        obtain ⟨h1, hh1⟩ : ∃ h1 : Nat, h + 1 = h1 := ⟨_, rfl⟩
        have hwk : IntKind.u64.wrap ((h : Int) + 1) = (h1 : Int) := by rw [← hh1]; exact wrap1 (by have := HH.out; omega)
        have HH1 : Keep (h1 < 18446744073709551616 ∧ ¬ h1 ≤ h) := ⟨by have := HH.out; omega, by omega⟩
        have HB3 : Keep (Tryz.prog.built 34 [(0, .int .i64 7), (5, .int .u64 5), (8, .int .u64 (h1 : Int))] = some (byD 5 h1).cells.toArray) := ⟨builtByS _⟩
        obtain ⟨y1, x2, y2, y3, y4⟩ := bye_yes (s := 5) (q := h1) (by omega) HH1.out.1 K
        have HSE : Keep (Calls Tryz.prog 18 #[.agg (byD 5 h1).cells.toArray, .string K] w3 fun e w' => e = .returned (.tuple #[.string (sealD (byD 5 h1) K).1, .int .i64 0]) ∧ w3.grownBy w' none) := ⟨by
          have hm := seal_c (byD 5 h1) K (byD_fine (by omega) HH1.out.1) (byD_small 5 h1) w3 (HK.out.1.kept X3.out.2 (by simp)) (by have := HK32.out; omega)
          rw [y1] at hm
          exact hm⟩
        generalize (sealD (byD 5 h1) K).1 = S2 at HSE y2 y3 y4
        have HS := Keep.mk (And.intro y2 (And.intro y3 y4))
        clear y1 y2 y3 y4 hmax hh1
        go_wp2_with (first
          | (with_reducible show wpList _ _ _ ({ dst := _, op := Op.build 34 _, type := _, pos := _, after := _, guard := _ } :: _) _ _
             refine build_g rfl 34 _ rfl _ ((congrArg (Tryz.prog.built 34) (by simp only [List.map_toArray, List.map_cons, List.map_nil]; rfl)).trans HB3.out) ?_
             simp only [Act.put, List.setIfInBounds_toArray, List.set_cons_zero, List.set_cons_succ]))
        refine HSE.out.mono ?_
        rintro e w4 ⟨rfl, g4⟩
        have X4 : Keep (Has w4 cb (stC sc nc h vw).cs 83 ∧ w.grownBy w4 none) := ⟨X3.out.1.kept g4 (by simp), X3.out.2.trans g4⟩
        have HHE0 := hear_c cb (stC sc nc h vw) S2 w4 (HK.out.1.kept X4.out.2 (by simp)) X4.out.1 (st_ok HK.out.2.1 HK.out.2.2.1 HH.out HVI.out.s) (by have := HS.out.2.2; omega)
        rw [hea_bye (C := stC sc nc h vw) (q := h1) (x := x2) rfl HS.out.1 (by show sealed S2 (begK sc nc 5) = true; rw [HKK.out]; exact HS.out.2.1), if_neg (show ¬ h1 ≤ (stC sc nc h vw).bl from HH1.out.2)] at HHE0
        have HHE := Keep.mk HHE0
        clear HHE0 g4 HSE HB3 X3 p1 p2 hwk
        go_wp2_with fail
        refine HHE.out.mono ?_
        rintro e w5 ⟨rfl, h5, g5⟩
        have X5 : Keep (Has w5 cb (endS (stC sc nc h vw)).cs 83 ∧ w.grownBy w5 none) := ⟨h5, gr_new X4.out.2 g5 HCB.out⟩
        have HPL : Keep (Calls Tryz.prog 13 #[pa cb 0] w5 fun e w' => e = .returned (.tuple #[.int .u64 0, iv 0, .bool false]) ∧ w5.grownBy w' none) := ⟨playing_t cb (endS (stC sc nc h vw)) w5 X5.out.1⟩
        clear h5 g5 HHE X4 HS
        go_wp2_with fail
        refine HPL.out.mono ?_
        rintro e w6 ⟨rfl, g6⟩
        have X6 : Keep (Has w6 cb (endS (stC sc nc h vw)).cs 83 ∧ w.grownBy w6 none) := ⟨X5.out.1.kept g6 (by simp), X5.out.2.trans g6⟩
        clear g6 X5 HPL
        go_wp2_with fail
        refine (HT2.out w6).mono ?_
        rintro e w7 ⟨rfl, g7⟩
        have X7 : Keep (Has w7 cb (endS (stC sc nc h vw)).cs 83 ∧ w.grownBy w7 none) := ⟨X6.out.1.kept g7 (by simp), X6.out.2.trans g7⟩
        clear g7 X6
        go_wp2_with fail
        refine (HSL.out w7).mono ?_
        rintro e w8 ⟨rfl, g8⟩
        have X8 : Keep (Has w8 cb (endS (stC sc nc h vw)).cs 83 ∧ w.grownBy w8 none) := ⟨X7.out.1.kept g8 (by simp), X7.out.2.trans g8⟩
        have HB4 : Keep (Tryz.prog.built 34 [(0, .int .i64 4), (1, .string nc), (5, .int .u64 5), (6, .int .i64 3), (7, .string salB)] = some (welD nc 5).cells.toArray) := ⟨builtWel _ _ _⟩
        obtain ⟨x3, z1, z2, z3⟩ := wel_dec nc K (n := 5) HK.out.2.2.1 (by omega)
        have HSE : Keep (Calls Tryz.prog 18 #[.agg (welD nc 5).cells.toArray, .string K] w8 fun e w' => e = .returned (.tuple #[.string (sealD (welD nc 5) K).1, .int .i64 0]) ∧ w8.grownBy w' none) := ⟨by
          have hm := seal_c (welD nc 5) K (wel_fine nc (by omega)) (wel_small HK.out.2.2.1 5) w8 (HK.out.1.kept X8.out.2 (by simp)) (by have := HK32.out; omega)
          rw [wel_yes nc K HK.out.2.2.1 (by omega)] at hm
          exact hm⟩
        generalize (sealD (welD nc 5) K).1 = S3 at HSE z1 z2 z3
        have HS := Keep.mk (And.intro z1 z3)
        clear z1 z2 z3 g8 X7
        go_wp2_with (first
          | (with_reducible show wpList _ _ _ ({ dst := _, op := Op.build 34 _, type := _, pos := _, after := _, guard := _ } :: _) _ _
             refine build_g rfl 34 _ rfl _ ((congrArg (Tryz.prog.built 34) (by simp only [List.map_toArray, List.map_cons, List.map_nil]; rfl)).trans HB4.out) ?_
             simp only [Act.put, List.setIfInBounds_toArray, List.set_cons_zero, List.set_cons_succ]))
        refine HSE.out.mono ?_
        rintro e w9 ⟨rfl, g9⟩
        have X9 : Keep (Has w9 cb (endS (stC sc nc h vw)).cs 83 ∧ w.grownBy w9 none) := ⟨X8.out.1.kept g9 (by simp), X8.out.2.trans g9⟩
        have HHE0 := hear_c cb (endS (stC sc nc h vw)) S3 w9 (HK.out.1.kept X9.out.2 (by simp)) X9.out.1 (end_ok (st_ok HK.out.2.1 HK.out.2.2.1 HH.out HVI.out.s)) (by have := HS.out.2; omega)
        rw [hea_again (C := stC sc nc h vw) (nc := nc) (n := 5) (x := x3) rfl (Nat.le_refl 5) HS.out.1] at HHE0
        have HHE := Keep.mk HHE0
        clear HHE0 g9 HSE HB4 X8
        go_wp2_with fail
        refine HHE.out.mono ?_
        rintro e w10 ⟨rfl, h10, g10⟩
        have HZ := Keep.mk (gr_new X9.out.2 g10 HCB.out)
        clear h10 g10 HHE
        go_wp2_with fail
        go_ret
        exact ⟨rfl, HZ.out⟩

    · have q1 : decide ((i : Int) < (m : Int)) = false := decide_eq_false (by omega)
      have q2 : decide (i < m) = false := decide_eq_false him
      have HH := Keep.mk hh
      have HB3 : Keep (Tryz.prog.built 34 [(0, .int .i64 7), (5, .int .u64 5), (8, .int .u64 (h : Int))] = some (byD 5 h).cells.toArray) := ⟨builtByS _⟩
      obtain ⟨y1, x1, y2, y3, y4⟩ := bye_yes (s := 5) (q := h) (by omega) hh K
      have HSE : Keep (Calls Tryz.prog 18 #[.agg (byD 5 h).cells.toArray, .string K] wr fun e w' => e = .returned (.tuple #[.string (sealD (byD 5 h) K).1, .int .i64 0]) ∧ wr.grownBy w' none) := ⟨by
        have hm := seal_c (byD 5 h) K (byD_fine (by omega) hh) (byD_small 5 h) wr (HK.out.1.kept H2.out.2 (by simp)) (by have := HK32.out; omega)
        rw [y1] at hm
        exact hm⟩
      generalize (sealD (byD 5 h) K).1 = S1 at HSE y2 y3 y4
      have HS := Keep.mk (And.intro y2 (And.intro y3 y4))
      clear y1 y2 y3 y4 hh
      go_wp2_with (first
        | (with_reducible show wpList _ _ _ ({ dst := _, op := Op.build 34 _, type := _, pos := _, after := _, guard := _ } :: _) _ _
           refine build_g rfl 34 _ rfl _ ((congrArg (Tryz.prog.built 34) (by simp only [List.map_toArray, List.map_cons, List.map_nil]; rfl)).trans HB3.out) ?_
           simp only [Act.put, List.setIfInBounds_toArray, List.set_cons_zero, List.set_cons_succ]))
      refine HSE.out.mono ?_
      rintro e w2 ⟨rfl, g2⟩
      have X2 : Keep (Has w2 cb (stC sc nc h vw).cs 83 ∧ w.grownBy w2 none) := ⟨H2.out.1.kept g2 (by simp), H2.out.2.trans g2⟩
      have HHE0 := hear_c cb (stC sc nc h vw) S1 w2 (HK.out.1.kept X2.out.2 (by simp)) X2.out.1 (st_ok HK.out.2.1 HK.out.2.2.1 HH.out HVI.out.s) (by have := HS.out.2.2; omega)
      rw [hea_bye (C := stC sc nc h vw) (q := h) (x := x1) rfl HS.out.1 (by show sealed S1 (begK sc nc 5) = true; rw [HKK.out]; exact HS.out.2.1), if_pos (show h ≤ (stC sc nc h vw).bl from Nat.le_refl h)] at HHE0
      have HHE := Keep.mk HHE0
      clear HHE0 g2 HSE HB3 H2
      go_wp2_with fail
      refine HHE.out.mono ?_
      rintro e w3 ⟨rfl, h3, g3⟩
      have X3 : Keep (Has w3 cb (stC sc nc h vw).cs 83 ∧ w.grownBy w3 none) := ⟨h3, gr_new X2.out.2 g3 HCB.out⟩
      clear h3 g3 HHE X2 HS
      by_cases hmax : h = 18446744073709551615
      · have p1 : ((h : Int) == 18446744073709551615) = true := by simp [hmax]
        have p2 : (h == 18446744073709551615) = true := by simp [hmax]
        clear hmax
        go_wp2_with fail
        go_ret
        exact ⟨rfl, X3.out.2⟩
      have p1 : ((h : Int) == 18446744073709551615) = false := by simp; omega
      have p2 : (h == 18446744073709551615) = false := by simp; omega
      obtain ⟨h1, hh1⟩ : ∃ h1 : Nat, h + 1 = h1 := ⟨_, rfl⟩
      have hwk : IntKind.u64.wrap ((h : Int) + 1) = (h1 : Int) := by rw [← hh1]; exact wrap1 (by have := HH.out; omega)
      have HH1 : Keep (h1 < 18446744073709551616 ∧ ¬ h1 ≤ h) := ⟨by have := HH.out; omega, by omega⟩
      have HB3 : Keep (Tryz.prog.built 34 [(0, .int .i64 7), (5, .int .u64 5), (8, .int .u64 (h1 : Int))] = some (byD 5 h1).cells.toArray) := ⟨builtByS _⟩
      obtain ⟨y1, x2, y2, y3, y4⟩ := bye_yes (s := 5) (q := h1) (by omega) HH1.out.1 K
      have HSE : Keep (Calls Tryz.prog 18 #[.agg (byD 5 h1).cells.toArray, .string K] w3 fun e w' => e = .returned (.tuple #[.string (sealD (byD 5 h1) K).1, .int .i64 0]) ∧ w3.grownBy w' none) := ⟨by
        have hm := seal_c (byD 5 h1) K (byD_fine (by omega) HH1.out.1) (byD_small 5 h1) w3 (HK.out.1.kept X3.out.2 (by simp)) (by have := HK32.out; omega)
        rw [y1] at hm
        exact hm⟩
      generalize (sealD (byD 5 h1) K).1 = S2 at HSE y2 y3 y4
      have HS := Keep.mk (And.intro y2 (And.intro y3 y4))
      clear y1 y2 y3 y4 hmax hh1
      go_wp2_with (first
        | (with_reducible show wpList _ _ _ ({ dst := _, op := Op.build 34 _, type := _, pos := _, after := _, guard := _ } :: _) _ _
           refine build_g rfl 34 _ rfl _ ((congrArg (Tryz.prog.built 34) (by simp only [List.map_toArray, List.map_cons, List.map_nil]; rfl)).trans HB3.out) ?_
           simp only [Act.put, List.setIfInBounds_toArray, List.set_cons_zero, List.set_cons_succ]))
      refine HSE.out.mono ?_
      rintro e w4 ⟨rfl, g4⟩
      have X4 : Keep (Has w4 cb (stC sc nc h vw).cs 83 ∧ w.grownBy w4 none) := ⟨X3.out.1.kept g4 (by simp), X3.out.2.trans g4⟩
      have HHE0 := hear_c cb (stC sc nc h vw) S2 w4 (HK.out.1.kept X4.out.2 (by simp)) X4.out.1 (st_ok HK.out.2.1 HK.out.2.2.1 HH.out HVI.out.s) (by have := HS.out.2.2; omega)
      rw [hea_bye (C := stC sc nc h vw) (q := h1) (x := x2) rfl HS.out.1 (by show sealed S2 (begK sc nc 5) = true; rw [HKK.out]; exact HS.out.2.1), if_neg (show ¬ h1 ≤ (stC sc nc h vw).bl from HH1.out.2)] at HHE0
      have HHE := Keep.mk HHE0
      clear HHE0 g4 HSE HB3 X3 p1 p2 hwk
      go_wp2_with fail
      refine HHE.out.mono ?_
      rintro e w5 ⟨rfl, h5, g5⟩
      have X5 : Keep (Has w5 cb (endS (stC sc nc h vw)).cs 83 ∧ w.grownBy w5 none) := ⟨h5, gr_new X4.out.2 g5 HCB.out⟩
      have HPL : Keep (Calls Tryz.prog 13 #[pa cb 0] w5 fun e w' => e = .returned (.tuple #[.int .u64 0, iv 0, .bool false]) ∧ w5.grownBy w' none) := ⟨playing_t cb (endS (stC sc nc h vw)) w5 X5.out.1⟩
      clear h5 g5 HHE X4 HS
      go_wp2_with fail
      refine HPL.out.mono ?_
      rintro e w6 ⟨rfl, g6⟩
      have X6 : Keep (Has w6 cb (endS (stC sc nc h vw)).cs 83 ∧ w.grownBy w6 none) := ⟨X5.out.1.kept g6 (by simp), X5.out.2.trans g6⟩
      clear g6 X5 HPL
      go_wp2_with fail
      refine (HT2.out w6).mono ?_
      rintro e w7 ⟨rfl, g7⟩
      have X7 : Keep (Has w7 cb (endS (stC sc nc h vw)).cs 83 ∧ w.grownBy w7 none) := ⟨X6.out.1.kept g7 (by simp), X6.out.2.trans g7⟩
      clear g7 X6
      go_wp2_with fail
      refine (HSL.out w7).mono ?_
      rintro e w8 ⟨rfl, g8⟩
      have X8 : Keep (Has w8 cb (endS (stC sc nc h vw)).cs 83 ∧ w.grownBy w8 none) := ⟨X7.out.1.kept g8 (by simp), X7.out.2.trans g8⟩
      have HB4 : Keep (Tryz.prog.built 34 [(0, .int .i64 4), (1, .string nc), (5, .int .u64 5), (6, .int .i64 3), (7, .string salB)] = some (welD nc 5).cells.toArray) := ⟨builtWel _ _ _⟩
      obtain ⟨x3, z1, z2, z3⟩ := wel_dec nc K (n := 5) HK.out.2.2.1 (by omega)
      have HSE : Keep (Calls Tryz.prog 18 #[.agg (welD nc 5).cells.toArray, .string K] w8 fun e w' => e = .returned (.tuple #[.string (sealD (welD nc 5) K).1, .int .i64 0]) ∧ w8.grownBy w' none) := ⟨by
        have hm := seal_c (welD nc 5) K (wel_fine nc (by omega)) (wel_small HK.out.2.2.1 5) w8 (HK.out.1.kept X8.out.2 (by simp)) (by have := HK32.out; omega)
        rw [wel_yes nc K HK.out.2.2.1 (by omega)] at hm
        exact hm⟩
      generalize (sealD (welD nc 5) K).1 = S3 at HSE z1 z2 z3
      have HS := Keep.mk (And.intro z1 z3)
      clear z1 z2 z3 g8 X7
      go_wp2_with (first
        | (with_reducible show wpList _ _ _ ({ dst := _, op := Op.build 34 _, type := _, pos := _, after := _, guard := _ } :: _) _ _
           refine build_g rfl 34 _ rfl _ ((congrArg (Tryz.prog.built 34) (by simp only [List.map_toArray, List.map_cons, List.map_nil]; rfl)).trans HB4.out) ?_
           simp only [Act.put, List.setIfInBounds_toArray, List.set_cons_zero, List.set_cons_succ]))
      refine HSE.out.mono ?_
      rintro e w9 ⟨rfl, g9⟩
      have X9 : Keep (Has w9 cb (endS (stC sc nc h vw)).cs 83 ∧ w.grownBy w9 none) := ⟨X8.out.1.kept g9 (by simp), X8.out.2.trans g9⟩
      have HHE0 := hear_c cb (endS (stC sc nc h vw)) S3 w9 (HK.out.1.kept X9.out.2 (by simp)) X9.out.1 (end_ok (st_ok HK.out.2.1 HK.out.2.2.1 HH.out HVI.out.s)) (by have := HS.out.2; omega)
      rw [hea_again (C := stC sc nc h vw) (nc := nc) (n := 5) (x := x3) rfl (Nat.le_refl 5) HS.out.1] at HHE0
      have HHE := Keep.mk HHE0
      clear HHE0 g9 HSE HB4 X8
      go_wp2_with fail
      refine HHE.out.mono ?_
      rintro e w10 ⟨rfl, h10, g10⟩
      have HZ := Keep.mk (gr_new X9.out.2 g10 HCB.out)
      clear h10 g10 HHE
      go_wp2_with fail
      go_ret
      exact ⟨rfl, HZ.out⟩

end Go.Proofs.YtldnpebnpbahjaaGreatDoor.Pk.Sn
