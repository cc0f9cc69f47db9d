import Derived.Test.YtldnpebnpbahjaaGreatDoorCD1
/- ClientDeaf: the walk -/
namespace Go.Proofs.YtldnpebnpbahjaaGreatDoor.Pk.Sn
open Go Go.RowKit

theorem de_snap {sc nc S x : ByteArray} {h q k : Nat} {vw : ByteArray} (hd : dec (sl S) = ((mkD 5 q dvB).wear x, 0)) (hs : sealed S (begK sc nc 5) = true) (hq : h < q) : heaS (deC sc nc h vw k) S = (nob, 0, deC sc nc q dvB k) := by
  rw [hea_snap dV_sm (C := deC sc nc h vw k) (q := q) (x := x) rfl hd hs, if_neg (show ¬ q ≤ (deC sc nc h vw k).bl by show ¬ q ≤ h; omega)]
  rfl

set_option maxRecDepth 100000 in
theorem builtCarD : Tryz.prog.built 46 [(0, .int .i64 3), (1, .string annB), (5, .int .i64 100)] = some #[.int .i64 3, .string annB, .int .i64 0, .int .i64 0, .int .i64 0, .int .i64 0, .int .i64 0, .int .i64 100, .int .i64 0, .int .i64 0, .int .i64 0, .int .i64 0, .int .i64 0, .int .i64 0] := by kernel_rfl
set_option maxRecDepth 100000 in
theorem builtVwD : Tryz.prog.built 49 [(0, .int .u64 4), (1, .agg #[.int .i64 3, .string annB, .int .i64 0, .int .i64 0, .int .i64 0, .int .i64 0, .int .i64 0, .int .i64 100, .int .i64 0, .int .i64 0, .int .i64 0, .int .i64 0, .int .i64 0, .int .i64 0])] = some (dV.cs none 0).toArray := by kernel_rfl
set_option maxRecDepth 100000 in
theorem builtTwo (p q : ByteArray) : Tryz.prog.built 59 [(0, .string p), (1, .string q)] = some [Value.string p, .string q].toArray := by kernel_rfl
set_option maxRecDepth 100000 in
theorem builtCmdD : Tryz.prog.built 29 [(0, .int .i64 5)] = some #[.int .i64 5, .int .i64 0, .bool false, .bool false] := by kernel_rfl
set_option maxRecDepth 100000 in
theorem infoTwo : (Tryz.prog.info? 59).map (·.size) = some 2 := by kernel_rfl

theorem DS.far {w wa : World} {cb db vb : Nat} {C D : Cl} (h : DS w wa cb db vb C D) : w.heap.size ≤ wa.heap.size ∧ wa.heap.size ≠ cb ∧ wa.heap.size ≠ db ∧ wa.heap.size ≠ vb :=
  ⟨h.g.size, by have := h.c.lt; omega, by have := h.d.lt; omega, by have := h.v.lt; omega⟩
theorem DS.aside {w w' w'' : World} {cb db vb bk : Nat} {C D : Cl} (h : DS w w' cb db vb C D) (f : w.heap.size ≤ bk ∧ bk ≠ cb ∧ bk ≠ db ∧ bk ≠ vb) (g : w'.grownBy w'' (some bk)) : DS w w'' cb db vb C D :=
  ⟨h.c.kept g (by simp; exact fun e => f.2.1 e.symm), h.d.kept g (by simp; exact fun e => f.2.2.1 e.symm), h.v.kept g (by simp; exact fun e => f.2.2.2 e.symm), gr_new h.g g f.1, h.n1, h.n2, h.n3, h.n4, h.n5⟩
set_option maxHeartbeats 8000000 in
set_option maxRecDepth 100000 in
theorem clientDeaf_c (se no : ByteArray) (a : Option Addr) (n c : Nat) (ps : List ByteArray) (w : World) (hk : Kc w) (hn : Na.Kc w) (hr : Strs w a n ps) (hz : ∀ (j : Nat) (p : ByteArray), ps[j]? = some p → p.size ≤ 140737488355328) :
    Calls Tryz.prog 5 #[.string se, .string no, .slice a n c] w fun e w' => e = .returned (.bool true) ∧ w.grownBy w' none := by
  obtain ⟨dv', hdv, hdvr⟩ := underV
  have HBG := Keep.mk (fun (w : World) (h1 : Kc w) (h2 : Na.Kc w) => begun_c se no 5 w h1 h2 (by omega) (by omega))
  have hs1 := txB_size se 32
  have hs2 := txB_size no 16
  generalize txB se 32 = sc at HBG hs1
  generalize txB no 16 = nc at HBG hs2
  obtain ⟨K, hK1⟩ : ∃ q, begK sc nc 5 = q := ⟨_, rfl⟩
  rw [hK1] at HBG
  have HKK := Keep.mk hK1
  have HK32 : Keep (K.size = 32) := ⟨by rw [← hK1]; exact keyB_size _ _ _ _⟩
  have HK := Keep.mk (And.intro hk (And.intro hs1 (And.intro hs2 (And.intro hr (And.intro hz hn)))))
  obtain ⟨S1, x1, e1, e2, e3, e4, _⟩ := snap_yes dV_sm (s := 5) (q := 1) (by omega) (by omega) K
  obtain ⟨S2, x2, k1, k2, k3, k4, k5⟩ := snap_yes dV_sm (s := 5) (q := 2) (by omega) (by omega) K
  have HM1 : Keep (∀ w3 : World, w.grownBy w3 none → Calls Tryz.prog 14 #[.int .u64 5, .int .u64 1, .agg (dV.cs none 0).toArray, .string K] w3 fun e w' => e = .returned (.tuple #[.string S1, .int .i64 0]) ∧ w3.grownBy w' none) := ⟨fun w3 g => by
    have hm := make_c 5 1 (smV 4 3 100 0 annB) none 0 K w3 (by omega) (by omega) (sm_ok dV_sm) (fun e => absurd rfl e) (HK.out.1.kept g (by simp)) (by have := HK32.out; omega)
    rw [e1] at hm
    exact hm⟩
  have HM2 : Keep (∀ w3 : World, w.grownBy w3 none → Calls Tryz.prog 14 #[.int .u64 5, .int .u64 2, .agg (dV.cs none 0).toArray, .string K] w3 fun e w' => e = .returned (.tuple #[.string S2, .int .i64 0]) ∧ w3.grownBy w' none) := ⟨fun w3 g => by
    have hm := make_c 5 2 (smV 4 3 100 0 annB) none 0 K w3 (by omega) (by omega) (sm_ok dV_sm) (fun e => absurd rfl e) (HK.out.1.kept g (by simp)) (by have := HK32.out; omega)
    rw [k1] at hm
    exact hm⟩
  have HS1 : Keep (dec (sl S1) = ((mkD 5 1 dvB).wear x1, 0) ∧ sealed S1 K = true ∧ S1.size ≤ 1200) := ⟨e2, e3, e4⟩
  have HS2 : Keep (dec (sl S2) = ((mkD 5 2 dvB).wear x2, 0) ∧ sealed S2 K = true ∧ S2.size ≤ 1200) := ⟨k2, k3, k4⟩
  have HS3 := Keep.mk k5
  clear hk hn hs1 hs2 hr hz hK1 e1 e2 e3 e4 k1 k2 k3 k4 k5
  go_enter Tryz.func5, Tryz.ntmps5
  go_wp2_with fail
  refine (HBG.out w HK.out.1 HK.out.2.2.2.2.2).mono ?_
  rintro e w1 ⟨cb, rfl, h1, g1, hcb⟩
  have X1 : Keep (Has w1 cb (deC sc nc 0 nob 0).cs 83 ∧ w.grownBy w1 none ∧ w.heap.size ≤ cb) := ⟨h1, g1, hcb⟩
  clear h1 g1 hcb
  go_wp2_with fail
  refine (HBG.out w1 (HK.out.1.kept X1.out.2.1 (by simp)) (HK.out.2.2.2.2.2.kept X1.out.2.1)).mono ?_
  rintro e w2 ⟨db, rfl, h2, g2, hdb⟩
  have HCB : Keep (w.heap.size ≤ cb ∧ w.heap.size ≤ db ∧ db ≠ cb) := ⟨X1.out.2.2, Nat.le_trans X1.out.2.1.size hdb, by have := X1.out.1.lt; omega⟩
  have X2 : Keep (Has w2 cb (deC sc nc 0 nob 0).cs 83 ∧ Has w2 db (deC sc nc 0 nob 0).cs 83 ∧ w.grownBy w2 none) := ⟨X1.out.1.kept g2 (by simp), h2, X1.out.2.1.trans g2⟩
  have HB1 := Keep.mk builtCarD
  have HB2 := Keep.mk builtVwD
  clear h2 g2 hdb X1 HBG
  unfold annB at HB1 HB2
  go_wp2_with (first
    | (with_reducible show wpList _ _ _ ({ dst := _, op := Op.build 46 _, type := _, pos := _, after := _, guard := _ } :: _) _ _
       refine build_g rfl 46 _ rfl _ ((congrArg (Tryz.prog.built 46) (by simp only [List.map_toArray, List.map_cons, List.map_nil]; rfl)).trans HB1.out) ?_
       simp only [Act.put, List.setIfInBounds_toArray, List.set_cons_zero, List.set_cons_succ])
    | (with_reducible show wpList _ _ _ ({ dst := _, op := Op.build 49 _, type := _, pos := _, after := _, guard := _ } :: _) _ _
       refine build_g rfl 49 _ rfl _ ((congrArg (Tryz.prog.built 49) (by simp only [List.map_toArray, List.map_cons, List.map_nil]; rfl)).trans HB2.out) ?_
       simp only [Act.put, List.setIfInBounds_toArray, List.set_cons_zero, List.set_cons_succ])
    | (with_reducible show wpList _ _ _ ({ dst := none, op := Op.store 49 (Operand.tmp 13) _, type := _, pos := _, after := _, guard := _ } :: _) _ _
       refine st_new w2 (dV.cs none 0) 49 rfl rfl rfl rfl rfl infoV (vw_one _ _ _) ?_
       intro w3 h6 g6
       have X3 : Keep (DS w w3 cb db w2.heap.size (deC sc nc 0 nob 0) (deC sc nc 0 nob 0)) := ⟨⟨X2.out.1.kept g6 (by simp), X2.out.2.1.kept g6 (by simp), h6, X2.out.2.2.trans g6, HCB.out.1, HCB.out.2.1, HCB.out.2.2, by have := X2.out.1.lt; omega, by have := X2.out.2.1.lt; omega⟩⟩
       clear h6 g6)
    | (with_reducible show wpList _ _ _ ({ dst := _, op := Op.load 49 (Operand.tmp 13), type := _, pos := _, after := _, guard := _ } :: _) _ _
       refine load_g rfl 49 _ rfl w2.heap.size 0 rfl (dV.cs none 0) dv' X3.out.v.range hdv hdvr infoV ?_))
  refine (HM1.out w3 X3.out.g).mono ?_
  rintro e w4 ⟨rfl, g4⟩
  have X4 := Keep.mk (X3.out.kept g4)
  clear g4 X3 X2 HB1 HB2 HM1 HCB
  generalize w2.heap.size = vb at X4 ⊢
  go_wp2_with (first
    | (with_reducible show wpList _ _ _ ({ dst := _, op := Op.load 49 (Operand.tmp 13), type := _, pos := _, after := _, guard := _ } :: _) _ _
       refine load_g rfl 49 _ rfl vb 0 rfl (dV.cs none 0) dv' X4.out.v.range hdv hdvr infoV ?_))
  refine (HM2.out w4 X4.out.g).mono ?_
  rintro e w5 ⟨rfl, g5⟩
  have X5 := Keep.mk (X4.out.kept g5)
  clear g5 X4 HM2
  have HHE0 := hear_c cb (deC sc nc 0 nob 0) S1 w5 (HK.out.1.kept X5.out.g (by simp)) X5.out.c (de_ok HK.out.2.1 HK.out.2.2.1 (by omega) (by show (0 : Nat) ≤ 1200; omega) 0) (by have := HS1.out.2.2; omega)
  rw [de_snap HS1.out.1 (by rw [HKK.out]; exact HS1.out.2.1) (by omega)] at HHE0
  have HHE := Keep.mk HHE0
  clear HHE0
  go_wp2_with fail
  refine HHE.out.mono ?_
  rintro e w6 ⟨rfl, h6, g6⟩
  have X6 := Keep.mk (X5.out.setc h6 g6)
  clear h6 g6 HHE X5
  have HHE0 := hear_c db (deC sc nc 0 nob 0) S1 w6 (HK.out.1.kept X6.out.g (by simp)) X6.out.d (de_ok HK.out.2.1 HK.out.2.2.1 (by omega) (by show (0 : Nat) ≤ 1200; omega) 0) (by have := HS1.out.2.2; omega)
  rw [de_snap HS1.out.1 (by rw [HKK.out]; exact HS1.out.2.1) (by omega)] at HHE0
  have HHE := Keep.mk HHE0
  clear HHE0
  go_wp2_with fail
  refine HHE.out.mono ?_
  rintro e w7 ⟨rfl, h7, g7⟩
  have X7 := Keep.mk (X6.out.setd h7 g7)
  clear h7 g7 HHE X6 HS1
  go_wp2_with fail
  go_loopw [18] (fun s w' => ∃ i : Nat, s = .int .i64 (i : Int) ∧ i ≤ 40 ∧ Keep (DS w w' cb db vb (deC sc nc 1 dvB 0) (deC sc nc 1 dvB 0))) (fun s _ => 40 - (intOf s).toNat)
  case atStart => exact ⟨0, rfl, by omega, X7⟩
  case round =>
    obtain ⟨i, rfl, hi, H2⟩ := hrel
    clear X7
    by_cases him : i < n
    · by_cases hi40 : i < 40
      · obtain ⟨b, o, rfl, hat⟩ := HK.out.2.2.2.1.at_ (by omega)
        obtain ⟨p, hc0⟩ : ∃ x, ps[i]? = some x := ⟨_, List.getElem?_eq_getElem (by have := HK.out.2.2.2.1.len; omega)⟩
        have HQ : Keep (w.cell? ⟨b, o + i, none⟩ = some (.string p) ∧ p.size ≤ 140737488355328) := ⟨hat i p hc0, HK.out.2.2.2.2.1 i p hc0⟩
        have q0 := H2.out.g.cell HQ.out.1 (by simp)
        have q1 : decide ((i : Int) < (n : Int)) = true := decide_eq_true (by omega)
        have q2 : decide (i < n) = true := decide_eq_true him
        have q3 : (i : Int) < (n : Int) := by omega
        have q4 : decide ((i : Int) < 40) = true := decide_eq_true (by omega)
        have q5 : decide (i < 40) = true := decide_eq_true hi40
        have HB1 := Keep.mk (builtTwo p S2)
        clear hat hc0
        by_cases hp0 : p.size = 0
        · have t1 : decide ((0 : Int) < (p.size : Int)) = false := decide_eq_false (by omega)
          have t2 : decide (0 < p.size) = false := decide_eq_false (by omega)
          go_wp2_with (first
            | (with_reducible show wpList _ _ _ ({ dst := _, op := Op.build 59 _, type := _, pos := _, after := _, guard := _ } :: _) _ _
               refine build_g rfl 59 _ rfl _ ((congrArg (Tryz.prog.built 59) (by simp only [List.map_toArray, List.map_cons, List.map_nil]; rfl)).trans HB1.out) ?_
               simp only [Act.put, List.setIfInBounds_toArray, List.set_cons_zero, List.set_cons_succ])
            | (with_reducible show wpList _ _ _ ({ dst := none, op := Op.store 59 (Operand.tmp 19) _, type := _, pos := _, after := _, guard := _ } :: _) _ _
               refine st_new wr ([Value.string p, Value.string S2]) 59 rfl rfl rfl rfl rfl infoTwo (by intro v hv; simp at hv; rcases hv with rfl | rfl <;> rfl) ?_
               intro wa h6 g6
               have HL : Keep (L2 wa wr.heap.size p S2 ∧ DS w wa cb db vb (deC sc nc 1 dvB 0) (deC sc nc 1 dvB 0)) := ⟨⟨h6, HQ.out.2, by have := HS2.out.2.2; omega⟩, H2.out.kept g6⟩
               have HFA := Keep.mk H2.out.far
               have q0 := HL.out.2.g.cell HQ.out.1 (by simp)
               clear H2
               clear h6 g6))
          generalize wr.heap.size = ab at HL HFA ⊢
          clear hp0 t1 t2 HB1 q0
          go_loopw [21] (fun t w' => ∃ k : Nat, t = .int .i64 (k : Int) ∧ k ≤ 2 ∧ Keep (L2 w' ab p S2 ∧ DS w w' cb db vb (deC sc nc 1 dvB 0) (deC sc nc 1 dvB 0))) (fun t _ => 2 - (intOf t).toNat)
          case atStart => exact ⟨0, rfl, by omega, HL⟩
          case round =>
            obtain ⟨k, rfl, hk2, H3⟩ := hrel
            clear HL
            by_cases hkk : k < 2
            · obtain ⟨s, hsc, hsz⟩ := H3.out.1.at_ hkk
              have r1 : decide ((k : Int) < 2) = true := decide_eq_true (by omega)
              have r2 : decide (k < 2) = true := decide_eq_true hkk
              have r3 : (k : Int) < 2 := by omega
              have HSL := Keep.mk (sealed_c s K wr (HK.out.1.kept H3.out.2.g (by simp)) (by omega) (by have := HK32.out; omega))
              have HSZ := Keep.mk hsz
              have HKK2 := Keep.mk hkk
              clear hsz hkk
              go_wp2_with fail
              refine HSL.out.mono ?_
              rintro e w8 ⟨rfl, g8⟩
              have H8 : Keep (L2 w8 ab p S2 ∧ DS w w8 cb db vb (deC sc nc 1 dvB 0) (deC sc nc 1 dvB 0)) := ⟨H3.out.1.kept g8 (by simp), H3.out.2.kept g8⟩
              have hsc8 := g8.cell hsc (by simp)
              clear g8 hsc HSL H3
              obtain ⟨B, hB⟩ : ∃ B, sealed s K = B := ⟨_, rfl⟩
              rw [hB]
              cases B with
              | true =>
                clear hB
                go_wp2_with fail
                refine ⟨⟨k + 1, by go_num, by have := HKK2.out; omega, H8⟩, ?_⟩
                simp [intOf]; have := HKK2.out; omega
              | false =>
                obtain ⟨e0, he0, hea⟩ := hea_deaf (C := (deC sc nc 1 dvB 0)) (S := s) rfl (by show sealed s (begK sc nc 5) = false; rw [HKK.out]; exact hB)
                have HHE0 := hear_c cb (deC sc nc 1 dvB 0) s w8 (HK.out.1.kept H8.out.2.g (by simp)) H8.out.2.c (de_ok HK.out.2.1 HK.out.2.2.1 (by omega) dvB_le 0) (by have := HSZ.out; omega)
                rw [hea] at HHE0
                have HHE := Keep.mk HHE0
                have p1 : (e0 == 0) = false := by simp [he0]
                clear HHE0 hea he0 hB
                go_wp2_with fail
                refine HHE.out.mono ?_
                rintro e w9 ⟨rfl, h9, g9⟩
                have H9 : Keep (L2 w9 ab p S2 ∧ DS w w9 cb db vb (deC sc nc 1 dvB 0) (deC sc nc 1 dvB 0)) := ⟨H8.out.1.kept g9 (by simp; exact HFA.out.2.1), H8.out.2.setc h9 g9⟩
                clear h9 g9 HHE H8 hsc8
                unfold nob iv
                go_wp2_with fail
                refine ⟨⟨_, _, _, _, _, _, _, _, _, _, _, _, _, _, _, _, _, _, _, _, _, _, _, _, _, _, _, ⟨k + 1, by go_num, by have := HKK2.out; omega, H9⟩, rfl⟩, ?_⟩
                simp [intOf]; have := HKK2.out; omega
            · have r1 : decide ((k : Int) < 2) = false := decide_eq_false (by omega)
              have r2 : decide (k < 2) = false := decide_eq_false hkk
              have H9 : Keep (DS w wr cb db vb (deC sc nc 1 dvB 0) (deC sc nc 1 dvB 0)) := ⟨H3.out.2⟩
              clear H3
              go_wp2_with fail
              refine ⟨⟨i + 1, by go_num, by omega, H9⟩, ?_⟩
              simp [intOf]; omega

        · have t1 : decide ((0 : Int) < (p.size : Int)) = true := decide_eq_true (by omega)
          have t2 : decide (0 < p.size) = true := decide_eq_true (by omega)
          obtain ⟨N, hN⟩ : ∃ N, S2.size = N := ⟨_, rfl⟩
          have HN : Keep (52 ≤ N ∧ N ≤ 1200) := ⟨by rw [← hN]; exact HS3.out, by rw [← hN]; exact HS2.out.2.2⟩
          obtain ⟨x0, hx0⟩ : ∃ x, (sl p)[0]? = some x := ⟨_, List.getElem?_eq_getElem (by rw [sl_len]; omega)⟩
          have hix : ∀ W, (Instr.index 9 (.string p) (.int .i64 0)).run Tryz.prog W = .ok (.int .u8 (x0.toNat : Int)) W := fun W => idx9 p 0 x0 (by omega) hx0 W
          obtain ⟨y, hy⟩ : ∃ y, x0 ||| 1 = y := ⟨_, rfl⟩
          have hor : bits .or .u8 (x0.toNat : Int) 1 = (y.toNat : Int) := by rw [← hy]; exact c_or x0 1
          have hpz := HQ.out.2
          have wm1 : IntKind.i64.wrap ((i : Int) * 7) = (i : Int) * 7 := IntWalk.i64_in _ (by omega)
          have wm2 : IntKind.i64.wrap ((i : Int) * 7 + (p.size : Int)) = (i : Int) * 7 + (p.size : Int) := IntWalk.i64_in _ (by omega)
          obtain ⟨pp, hp⟩ : ∃ pp : Nat, ((i : Int) * 7 + (p.size : Int)).tmod (N : Int) = (pp : Int) := by
            refine ⟨(((i : Int) * 7 + (p.size : Int)) % (N : Int)).toNat, ?_⟩
            rw [Int.tmod_eq_emod_of_nonneg (by omega)]
            have h2 : 0 ≤ ((i : Int) * 7 + (p.size : Int)) % (N : Int) := Int.emod_nonneg _ (by have := HN.out; omega)
            omega
          have hpN : (pp : Int) < (N : Int) := by
            rw [← hp, Int.tmod_eq_emod_of_nonneg (by omega)]
            exact Int.emod_lt_of_pos _ (by have := HN.out; omega)
          have hpN2 : pp < N := by omega
          have wm3 : IntKind.i64.wrap (pp : Int) = (pp : Int) := IntWalk.i64_in _ (by have := HN.out; omega)
          have hN02 : ¬ N = 0 := by have := HN.out; omega
          obtain ⟨x, hx⟩ : ∃ x, (sl S2)[pp]? = some x := ⟨_, List.getElem?_eq_getElem (by rw [sl_len, hN]; omega)⟩
          obtain ⟨u, hu⟩ : ∃ u, x + y = u := ⟨_, rfl⟩
          have hadd : IntKind.u8.wrap ((x.toNat : Int) + (y.toNat : Int)) = (u.toNat : Int) := by
            rw [← hu, UInt8.toNat_add]
            have : IntKind.u8.wrap ((x.toNat : Int) + (y.toNat : Int)) = ((x.toNat : Int) + (y.toNat : Int)) % 256 := rfl
            rw [this]; omega
          have hN0 : ¬ (N : Int) = 0 := by have := HN.out; omega
          have hNb : (N : Int) ≤ 1200 := by have := HN.out; omega
          have HX := Keep.mk hx
          clear hy hu hx hx0
          go_wp2_with (first
            | (with_reducible show wpList _ _ _ ({ dst := _, op := Op.build 59 _, type := _, pos := _, after := _, guard := _ } :: _) _ _
               refine build_g rfl 59 _ rfl _ ((congrArg (Tryz.prog.built 59) (by simp only [List.map_toArray, List.map_cons, List.map_nil]; rfl)).trans HB1.out) ?_
               simp only [Act.put, List.setIfInBounds_toArray, List.set_cons_zero, List.set_cons_succ])
            | (with_reducible show wpList _ _ _ ({ dst := none, op := Op.store 59 (Operand.tmp 19) _, type := _, pos := _, after := _, guard := _ } :: _) _ _
               refine st_new wr ([Value.string p, Value.string S2]) 59 rfl rfl rfl rfl rfl infoTwo (by intro v hv; simp at hv; rcases hv with rfl | rfl <;> rfl) ?_
               intro wa h6 g6
               have HL : Keep (L2 wa wr.heap.size p S2 ∧ DS w wa cb db vb (deC sc nc 1 dvB 0) (deC sc nc 1 dvB 0)) := ⟨⟨h6, HQ.out.2, by have := HS2.out.2.2; omega⟩, H2.out.kept g6⟩
               have HFA := Keep.mk H2.out.far
               have hcvt : (convert 9 60 (.string S2)).run Tryz.prog wa = .ok (.slice (some ⟨wa.heap.size, 0, none⟩) S2.size (grownCap wa S2.size 0 5)) (Lib.bytesWorld wa 5 S2) := Lib.run_convert_string_bytes (P := Tryz.prog) wa 9 60 5 S2 (u := .string) under9 under28 under5
               obtain ⟨wb, hwb⟩ : ∃ q, Lib.bytesWorld wa 5 S2 = q := ⟨_, rfl⟩
               obtain ⟨bk, hbk⟩ : ∃ q, wa.heap.size = q := ⟨_, rfl⟩
               obtain ⟨cap, hcap⟩ : ∃ q, grownCap wa S2.size 0 5 = q := ⟨_, rfl⟩
               have HW : Keep (Wb wb bk (sl S2) ∧ wa.grownBy wb none ∧ N ≤ cap) := ⟨by rw [← hwb, ← hbk]; exact Wb.new _ S2, by rw [← hwb]; exact gr_bytes _ S2, by rw [← hcap, ← hN]; exact grownCap_ge _ _ _ _⟩
               have HFB : Keep (w.heap.size ≤ bk ∧ bk ≠ cb ∧ bk ≠ db ∧ bk ≠ vb) := ⟨by rw [← hbk]; exact HL.out.2.far⟩
               have HBA : Keep (¬ wr.heap.size = bk) := ⟨by rw [← hbk]; have := HL.out.1.h.lt; omega⟩
               rw [hwb, hbk, hcap, hN] at hcvt
               have q0 := HL.out.2.g.cell HQ.out.1 (by simp)
               clear hwb hbk hcap H2
               clear h6 g6))
          generalize wr.heap.size = ab at HL HFA HBA ⊢
          have HD : Keep (Wb wb.drew bk (sl S2) ∧ L2 wb.drew ab p S2 ∧ DS w wb.drew cb db vb (deC sc nc 1 dvB 0) (deC sc nc 1 dvB 0)) := ⟨HW.out.1.drew, HL.out.1.kept (HW.out.2.1.trans (gr_drew _ none)) (by simp), HL.out.2.kept (HW.out.2.1.trans (gr_drew _ none))⟩
          have qcD : wb.drew.cell? ⟨b, o + i, none⟩ = some (.string p) := HD.out.2.2.g.cell HQ.out.1 (by simp)
          have xcD : wb.drew.cell? ⟨bk, pp, none⟩ = some (.int .u8 (x.toNat : Int)) := HD.out.1.at_ pp x HX.out
          have xzD : wb.drew.frozen? ⟨bk, pp, none⟩ = false := HD.out.1.fz pp (List.getElem?_eq_some_iff.1 HX.out).1
          clear HL hcvt q0
          refine region_Y (S := fun w' => wb.drew.grownBy w' none) [22] (by kernel_rfl) ?_
          obtain ⟨W0, hW0⟩ : ∃ q, wb.drew = q := ⟨_, rfl⟩
          rw [hW0] at HD xcD xzD qcD ⊢
          clear hW0
          have hHeld := World.grownBy.refl W0 none
          refine wpAnyY_pure (i := 0) (oi := _) (v := ?_) rfl (by kernel_rfl) (by kernel_rfl) (by kernel_rfl) (by kernel_rfl) (fun _ _ _ h => h) (Or.inl ⟨by rfl, ?_⟩) ?_
          rotate_left
          · (intro w hSw; go_simp; first | done | (with_reducible rfl))
          simp only [Act.put, List.getElem_toArray, List.getElem_cons_zero, List.setIfInBounds_toArray, List.set_cons_zero, List.set_cons_succ]
          refine wpAnyY_pure (i := 1) (oi := _) (v := ?_) rfl (by kernel_rfl) (by kernel_rfl) (by kernel_rfl) (by kernel_rfl) (fun _ _ _ h => h) (Or.inl ⟨by rfl, ?_⟩) ?_
          rotate_left
          · (intro w hSw; go_simp; first | done | (with_reducible rfl))
          simp only [Act.put, List.getElem_toArray, List.getElem_cons_succ, List.getElem_cons_zero, List.setIfInBounds_toArray, List.set_cons_zero, List.set_cons_succ]
          refine wpAnyY_pure (i := 2) (oi := _) (v := ?_) rfl (by kernel_rfl) (by kernel_rfl) (by kernel_rfl) (by kernel_rfl) (fun _ _ _ h => h) (Or.inl ⟨by rfl, ?_⟩) ?_
          rotate_left
          · (intro w hSw; go_simp; first | done | (with_reducible rfl))
          simp only [Act.put, List.getElem_toArray, List.getElem_cons_succ, List.getElem_cons_zero, List.setIfInBounds_toArray, List.set_cons_zero, List.set_cons_succ]
          refine wpAnyY_pure (i := 3) (oi := _) (v := ?_) rfl (by kernel_rfl) (by kernel_rfl) (by kernel_rfl) (by kernel_rfl) (fun _ _ _ h => h) (Or.inl ⟨by rfl, ?_⟩) ?_
          rotate_left
          · (intro w hSw; go_simp; first | done | (with_reducible rfl))
          simp only [Act.put, List.getElem_toArray, List.getElem_cons_succ, List.getElem_cons_zero, List.setIfInBounds_toArray, List.set_cons_zero, List.set_cons_succ]
          refine wpAnyY_pure (i := 4) (oi := _) (v := ?_) rfl (by kernel_rfl) (by kernel_rfl) (by kernel_rfl) (by kernel_rfl) (fun _ _ _ h => h) (Or.inl ⟨by rfl, ?_⟩) ?_
          rotate_left
          · (intro w hSw; go_simp; first | done | (with_reducible rfl))
          simp only [Act.put, List.getElem_toArray, List.getElem_cons_succ, List.getElem_cons_zero, List.setIfInBounds_toArray, List.set_cons_zero, List.set_cons_succ]
          refine wpAnyY_pure (i := 5) (oi := _) (v := ?_) rfl (by kernel_rfl) (by kernel_rfl) (by kernel_rfl) (by kernel_rfl) (fun _ _ _ h => h) (Or.inl ⟨by rfl, ?_⟩) ?_
          rotate_left
          · (intro w hSw; go_simp; first | done | (with_reducible rfl))
          simp only [Act.put, List.getElem_toArray, List.getElem_cons_succ, List.getElem_cons_zero, List.setIfInBounds_toArray, List.set_cons_zero, List.set_cons_succ]
          refine wpAnyY_take (i := 6) (oi := _) (v := ?_) rfl (by kernel_rfl) (by kernel_rfl) (by kernel_rfl) (by kernel_rfl) (by kernel_rfl) (fun _ _ _ h => h) (Or.inl ⟨by rfl, ?_⟩) (by assumption) ?_
          rotate_left
          · (intro w hSw; have k0 := hSw.cell qcD (by simp); go_simp; first | done | (with_reducible rfl))
          simp only [Act.put, List.getElem_toArray, List.getElem_cons_succ, List.getElem_cons_zero, List.setIfInBounds_toArray, List.set_cons_zero, List.set_cons_succ]
          refine wpAnyY_pure (i := 7) (oi := _) (v := ?_) rfl (by kernel_rfl) (by kernel_rfl) (by kernel_rfl) (by kernel_rfl) (fun _ _ _ h => h) (Or.inl ⟨by rfl, ?_⟩) ?_
          rotate_left
          · (intro w hSw; go_simp; first | done | (with_reducible rfl))
          simp only [Act.put, List.getElem_toArray, List.getElem_cons_succ, List.getElem_cons_zero, List.setIfInBounds_toArray, List.set_cons_zero, List.set_cons_succ]
          refine wpAnyY_pure (i := 8) (oi := _) (v := ?_) rfl (by kernel_rfl) (by kernel_rfl) (by kernel_rfl) (by kernel_rfl) (fun _ _ _ h => h) (Or.inl ⟨by rfl, ?_⟩) ?_
          rotate_left
          · (intro w hSw; go_simp; first | done | (with_reducible rfl))
          simp only [Act.put, List.getElem_toArray, List.getElem_cons_succ, List.getElem_cons_zero, List.setIfInBounds_toArray, List.set_cons_zero, List.set_cons_succ]
          refine wpAnyY_pure (i := 9) (oi := _) (v := ?_) rfl (by kernel_rfl) (by kernel_rfl) (by kernel_rfl) (by kernel_rfl) (fun _ _ _ h => h) (Or.inl ⟨by rfl, ?_⟩) ?_
          rotate_left
          · (intro w hSw; go_simp; first | done | (with_reducible rfl))
          simp only [Act.put, List.getElem_toArray, List.getElem_cons_succ, List.getElem_cons_zero, List.setIfInBounds_toArray, List.set_cons_zero, List.set_cons_succ]
          refine wpAnyY_pure (i := 10) (oi := _) (v := ?_) rfl (by kernel_rfl) (by kernel_rfl) (by kernel_rfl) (by kernel_rfl) (fun _ _ _ h => h) (Or.inl ⟨by rfl, ?_⟩) ?_
          rotate_left
          · (intro w hSw; go_simp; first | done | (with_reducible rfl))
          simp only [Act.put, List.getElem_toArray, List.getElem_cons_succ, List.getElem_cons_zero, List.setIfInBounds_toArray, List.set_cons_zero, List.set_cons_succ]
          refine wpAnyY_pure (i := 11) (oi := _) (v := ?_) rfl (by kernel_rfl) (by kernel_rfl) (by kernel_rfl) (by kernel_rfl) (fun _ _ _ h => h) (Or.inl ⟨by rfl, ?_⟩) ?_
          rotate_left
          · (intro w hSw; go_simp; first | done | (with_reducible rfl))
          simp only [Act.put, List.getElem_toArray, List.getElem_cons_succ, List.getElem_cons_zero, List.setIfInBounds_toArray, List.set_cons_zero, List.set_cons_succ]
          refine wpAnyY_pure (i := 12) (oi := _) (v := ?_) rfl (by kernel_rfl) (by kernel_rfl) (by kernel_rfl) (by kernel_rfl) (fun _ _ _ h => h) (Or.inl ⟨by rfl, ?_⟩) ?_
          rotate_left
          · (intro w hSw; go_simp; first | done | (with_reducible rfl))
          simp only [Act.put, List.getElem_toArray, List.getElem_cons_succ, List.getElem_cons_zero, List.setIfInBounds_toArray, List.set_cons_zero, List.set_cons_succ]
          refine wpAnyY_take (i := 13) (oi := _) (v := ?_) rfl (by kernel_rfl) (by kernel_rfl) (by kernel_rfl) (by kernel_rfl) (by kernel_rfl) (fun _ _ _ h => h) (Or.inl ⟨by rfl, ?_⟩) (by assumption) ?_
          rotate_left
          · (intro w hSw; have k0 := hSw.cell xcD (by simp); go_simp; first | done | (with_reducible rfl))
          simp only [Act.put, List.getElem_toArray, List.getElem_cons_succ, List.getElem_cons_zero, List.setIfInBounds_toArray, List.set_cons_zero, List.set_cons_succ]
          refine wpAnyY_pure (i := 14) (oi := _) (v := ?_) rfl (by kernel_rfl) (by kernel_rfl) (by kernel_rfl) (by kernel_rfl) (fun _ _ _ h => h) (Or.inl ⟨by rfl, ?_⟩) ?_
          rotate_left
          · (intro w hSw; go_simp; first | done | (with_reducible rfl))
          simp only [Act.put, List.getElem_toArray, List.getElem_cons_succ, List.getElem_cons_zero, List.setIfInBounds_toArray, List.set_cons_zero, List.set_cons_succ]
          refine wpAnyY_pure (i := 15) (oi := _) (v := ?_) rfl (by kernel_rfl) (by kernel_rfl) (by kernel_rfl) (by kernel_rfl) (fun _ _ _ h => h) (Or.inl ⟨by rfl, ?_⟩) ?_
          rotate_left
          · (intro w hSw; go_simp; first | done | (with_reducible rfl))
          simp only [Act.put, List.getElem_toArray, List.getElem_cons_succ, List.getElem_cons_zero, List.setIfInBounds_toArray, List.set_cons_zero, List.set_cons_succ]
          refine wpAnyY_pure (i := 16) (oi := _) (v := ?_) rfl (by kernel_rfl) (by kernel_rfl) (by kernel_rfl) (by kernel_rfl) (fun _ _ _ h => h) (Or.inl ⟨by rfl, ?_⟩) ?_
          rotate_left
          · (intro w hSw; go_simp; first | done | (with_reducible rfl))
          simp only [Act.put, List.getElem_toArray, List.getElem_cons_succ, List.getElem_cons_zero, List.setIfInBounds_toArray, List.set_cons_zero, List.set_cons_succ]
          refine wpAnyY_take (i := 17) (oi := _) (v := ?_) rfl (by kernel_rfl) (by kernel_rfl) (by kernel_rfl) (by kernel_rfl) (by kernel_rfl) (fun _ _ _ h => h) (Or.inl ⟨by rfl, ?_⟩) (by assumption) ?_
          rotate_left
          · (intro w hSw; have k0 := hSw.cell qcD (by simp); go_simp; first | done | (with_reducible rfl))
          simp only [Act.put, List.getElem_toArray, List.getElem_cons_succ, List.getElem_cons_zero, List.setIfInBounds_toArray, List.set_cons_zero, List.set_cons_succ]
          refine wpAnyY_pure (i := 18) (oi := _) (v := ?_) rfl (by kernel_rfl) (by kernel_rfl) (by kernel_rfl) (by kernel_rfl) (fun _ _ _ h => h) (Or.inl ⟨by rfl, ?_⟩) ?_
          rotate_left
          · (intro w hSw; go_simp; first | done | (with_reducible rfl))
          simp only [Act.put, List.getElem_toArray, List.getElem_cons_succ, List.getElem_cons_zero, List.setIfInBounds_toArray, List.set_cons_zero, List.set_cons_succ]
          refine wpAnyY_pure (i := 19) (oi := _) (v := ?_) rfl (by kernel_rfl) (by kernel_rfl) (by kernel_rfl) (by kernel_rfl) (fun _ _ _ h => h) (Or.inl ⟨by rfl, ?_⟩) ?_
          rotate_left
          · (intro w hSw; go_simp; first | done | (with_reducible rfl))
          simp only [Act.put, List.getElem_toArray, List.getElem_cons_succ, List.getElem_cons_zero, List.setIfInBounds_toArray, List.set_cons_zero, List.set_cons_succ]
          refine wpAnyY_pure (i := 20) (oi := _) (v := ?_) rfl (by kernel_rfl) (by kernel_rfl) (by kernel_rfl) (by kernel_rfl) (fun _ _ _ h => h) (Or.inl ⟨by rfl, ?_⟩) ?_
          rotate_left
          · (intro w hSw; go_simp; first | done | (with_reducible rfl))
          simp only [Act.put, List.getElem_toArray, List.getElem_cons_succ, List.getElem_cons_zero, List.setIfInBounds_toArray, List.set_cons_zero, List.set_cons_succ]
          refine wpAnyY_pure (i := 21) (oi := _) (v := ?_) rfl (by kernel_rfl) (by kernel_rfl) (by kernel_rfl) (by kernel_rfl) (fun _ _ _ h => h) (Or.inl ⟨by rfl, ?_⟩) ?_
          rotate_left
          · (intro w hSw; go_simp; first | done | (with_reducible rfl))
          simp only [Act.put, List.getElem_toArray, List.getElem_cons_succ, List.getElem_cons_zero, List.setIfInBounds_toArray, List.set_cons_zero, List.set_cons_succ]
          refine wpAnyY_late (i := 22) (by kernel_rfl) rfl (by kernel_rfl) (fun K hK => ?_)
          go_simp
          refine hK.out _ _ ?_
          clear hK K
          obtain ⟨we, hwe⟩ : ∃ q, W0.setCell ⟨bk, pp, none⟩ (.int .u8 (u.toNat : Int)) = q := ⟨_, rfl⟩
          have HE : Keep (Wb we bk ((sl S2).set pp u) ∧ L2 we ab p S2 ∧ DS w we cb db vb (deC sc nc 1 dvB 0) (deC sc nc 1 dvB 0)) := ⟨by rw [← hwe]; exact HD.out.1.set pp u, by rw [← hwe]; exact HD.out.2.1.kept (gr_set _ _ _ _) (by simp; exact HBA.out), by rw [← hwe]; exact HD.out.2.2.aside HFB.out (gr_set _ _ _ _)⟩
          rw [hwe]
          clear hwe
          refine wpAnyY_done (by kernel_rfl) ?_ _

          obtain ⟨t2', ht2⟩ : ∃ q, ba ((sl S2).set pp u) = q := ⟨_, rfl⟩
          have hcv2 : (convert 60 9 (.slice (some ⟨bk, 0, none⟩) N cap)).run Tryz.prog we = .ok (.string t2') we := by
            have h := HE.out.1.bytes N cap (by rw [List.length_set, sl_len, hN]) HW.out.2.2
            rw [ht2] at h
            exact h
          have hN2 : t2'.size = N := by rw [← ht2, ba_size, List.length_set, sl_len, hN]
          have a1 := HE.out.2.1.h.cellv 1 _ rfl
          have z1 := HE.out.2.1.h.frozen 1
          have HL : Keep (L2 (we.setCell ⟨ab, 1, none⟩ (.string t2')) ab p t2' ∧ DS w (we.setCell ⟨ab, 1, none⟩ (.string t2')) cb db vb (deC sc nc 1 dvB 0) (deC sc nc 1 dvB 0)) := ⟨⟨HE.out.2.1.h.setCell 1 (.string t2'), HE.out.2.1.p, by rw [hN2]; omega⟩, HE.out.2.2.aside HFA.out (gr_set _ _ _ _)⟩
          clear ht2 hN2 HE HD xcD xzD qcD hHeld
          go_wp2_with fail
          clear a1 z1 hcv2
          go_loopw [21] (fun t w' => ∃ k : Nat, t = .int .i64 (k : Int) ∧ k ≤ 2 ∧ Keep (L2 w' ab p t2' ∧ DS w w' cb db vb (deC sc nc 1 dvB 0) (deC sc nc 1 dvB 0))) (fun t _ => 2 - (intOf t).toNat)
          case atStart => exact ⟨0, rfl, by omega, HL⟩
          case round =>
            obtain ⟨k, rfl, hk2, H3⟩ := hrel
            clear HL
            by_cases hkk : k < 2
            · obtain ⟨s, hsc, hsz⟩ := H3.out.1.at_ hkk
              have r1 : decide ((k : Int) < 2) = true := decide_eq_true (by omega)
              have r2 : decide (k < 2) = true := decide_eq_true hkk
              have r3 : (k : Int) < 2 := by omega
              have HSL := Keep.mk (sealed_c s K wr (HK.out.1.kept H3.out.2.g (by simp)) (by omega) (by have := HK32.out; omega))
              have HSZ := Keep.mk hsz
              have HKK2 := Keep.mk hkk
              clear hsz hkk
              go_wp2_with fail
              refine HSL.out.mono ?_
              rintro e w8 ⟨rfl, g8⟩
              have H8 : Keep (L2 w8 ab p t2' ∧ DS w w8 cb db vb (deC sc nc 1 dvB 0) (deC sc nc 1 dvB 0)) := ⟨H3.out.1.kept g8 (by simp), H3.out.2.kept g8⟩
              have hsc8 := g8.cell hsc (by simp)
              clear g8 hsc HSL H3
              obtain ⟨B, hB⟩ : ∃ B, sealed s K = B := ⟨_, rfl⟩
              rw [hB]
              cases B with
              | true =>
                clear hB
                go_wp2_with fail
                refine ⟨⟨k + 1, by go_num, by have := HKK2.out; omega, H8⟩, ?_⟩
                simp [intOf]; have := HKK2.out; omega
              | false =>
                obtain ⟨e0, he0, hea⟩ := hea_deaf (C := (deC sc nc 1 dvB 0)) (S := s) rfl (by show sealed s (begK sc nc 5) = false; rw [HKK.out]; exact hB)
                have HHE0 := hear_c cb (deC sc nc 1 dvB 0) s w8 (HK.out.1.kept H8.out.2.g (by simp)) H8.out.2.c (de_ok HK.out.2.1 HK.out.2.2.1 (by omega) dvB_le 0) (by have := HSZ.out; omega)
                rw [hea] at HHE0
                have HHE := Keep.mk HHE0
                have p1 : (e0 == 0) = false := by simp [he0]
                clear HHE0 hea he0 hB
                go_wp2_with fail
                refine HHE.out.mono ?_
                rintro e w9 ⟨rfl, h9, g9⟩
                have H9 : Keep (L2 w9 ab p t2' ∧ DS w w9 cb db vb (deC sc nc 1 dvB 0) (deC sc nc 1 dvB 0)) := ⟨H8.out.1.kept g9 (by simp; exact HFA.out.2.1), H8.out.2.setc h9 g9⟩
                clear h9 g9 HHE H8 hsc8
                unfold nob iv
                go_wp2_with fail
                refine ⟨⟨_, _, _, _, _, _, _, _, _, _, _, _, _, _, _, _, _, _, _, _, _, _, _, _, _, _, _, ⟨k + 1, by go_num, by have := HKK2.out; omega, H9⟩, rfl⟩, ?_⟩
                simp [intOf]; have := HKK2.out; omega
            · have r1 : decide ((k : Int) < 2) = false := decide_eq_false (by omega)
              have r2 : decide (k < 2) = false := decide_eq_false hkk
              have H9 : Keep (DS w wr cb db vb (deC sc nc 1 dvB 0) (deC sc nc 1 dvB 0)) := ⟨H3.out.2⟩
              clear H3
              go_wp2_with fail
              refine ⟨⟨i + 1, by go_num, by omega, H9⟩, ?_⟩
              simp [intOf]; omega

      · have q1 : decide ((i : Int) < (n : Int)) = true := decide_eq_true (by omega)
        have q2 : decide (i < n) = true := decide_eq_true him
        have q4 : decide ((i : Int) < 40) = false := decide_eq_false (by omega)
        have q5 : decide (i < 40) = false := decide_eq_false hi40
        have HPL : Keep (Calls Tryz.prog 13 #[pa cb 0] wr fun e w' => e = .returned (.tuple #[.int .u64 5, iv 3, .bool true]) ∧ wr.grownBy w' none) := ⟨playing_t cb (deC sc nc 1 dvB 0) wr H2.out.c⟩
        go_wp2_with fail
        refine HPL.out.mono ?_
        rintro e w3 ⟨rfl, g3⟩
        have X3 := Keep.mk (H2.out.kept g3)
        have HVW : Keep (Calls Tryz.prog 16 #[pa cb 0] w3 fun e w' => ∃ a c, e = .returned (.tuple #[.agg (dV.cs a c).toArray, .bool true]) ∧ w3.grownBy w' none) := ⟨by
          have hm := view_t cb (deC sc nc 1 dvB 0) w3 X3.out.c
          have hvv : (deC sc nc 1 dvB 0).vw = dvB := rfl
          rw [hvv, dvB_rd] at hm
          refine hm.mono ?_
          rintro e w' ⟨a5, c5, rfl, _, g⟩
          exact ⟨a5, c5, rfl, g⟩⟩
        clear g3 HPL H2
        go_wp2_with fail
        refine HVW.out.mono ?_
        rintro e w4 ⟨a4, c4, rfl, g4⟩
        have X4 := Keep.mk (X3.out.kept g4)
        clear g4 HVW X3
        go_wp2_with (first
          | (with_reducible show wpList _ _ _ ({ dst := none, op := Op.store 49 (Operand.tmp 27) _, type := _, pos := _, after := _, guard := _ } :: _) _ _
             refine st_new w4 (dV.cs a4 c4) 49 rfl rfl rfl rfl rfl infoV (vw_one _ _ _) ?_
             intro w5 h6 g6
             have X5 : Keep (Has w5 w4.heap.size (dV.cs a4 c4) 49 ∧ DS w w5 cb db vb (deC sc nc 1 dvB 0) (deC sc nc 1 dvB 0)) := ⟨h6, X4.out.kept g6⟩
             clear h6 g6)
          | (with_reducible show wpList _ _ _ ({ dst := _, op := Op.load 49 (Operand.tmp 27), type := _, pos := _, after := _, guard := _ } :: _) _ _
             refine load_g rfl 49 _ rfl w4.heap.size 0 rfl (dV.cs a4 c4) dv' X5.out.1.range hdv hdvr infoV ?_)
          | (with_reducible show wpList _ _ _ ({ dst := _, op := Op.load 49 (Operand.tmp 13), type := _, pos := _, after := _, guard := _ } :: _) _ _
             refine load_g rfl 49 _ rfl vb 0 rfl (dV.cs none 0) dv' X5.out.2.v.range hdv hdvr infoV ?_))
        refine (veq_c dV a4 none c4 0 w5 rfl).mono ?_
        rintro e w6 ⟨rfl, g6⟩
        have X6 := Keep.mk (X5.out.2.kept g6)
        clear g6 X5 X4
        obtain ⟨S3, hx, hx2⟩ := de_cmd sc nc 1 dvB
        have HCM : Keep (∀ (b : Nat) (w' : World), Has w' b (deC sc nc 1 dvB 0).cs 83 → Kc w' → Calls Tryz.prog 9 #[pa b 0, .agg #[.int .i64 5, .int .i64 0, .bool false, .bool false]] w' fun e w'' => e = .returned (.tuple #[.string S3, iv 0]) ∧ Has w'' b (deC sc nc 1 dvB 1).cs 83 ∧ w'.grownBy w'' (some b)) := ⟨fun b w' h hk => by
          have hm := command_c b (deC sc nc 1 dvB 0) w' hk h (de_ok HK.out.2.1 HK.out.2.2.1 (by omega) dvB_le 0) (by show 0 < 18446744073709551615; omega) 5 0 false false (by omega) (by omega)
          rw [hx, hx2] at hm
          exact hm⟩
        have HB3 := Keep.mk builtCmdD
        clear hx hx2
        go_wp2_with (first
          | (with_reducible show wpList _ _ _ ({ dst := _, op := Op.build 29 _, type := _, pos := _, after := _, guard := _ } :: _) _ _
             refine build_g rfl 29 _ rfl _ ((congrArg (Tryz.prog.built 29) (by simp only [List.map_toArray, List.map_cons, List.map_nil]; rfl)).trans HB3.out) ?_
             simp only [Act.put, List.setIfInBounds_toArray, List.set_cons_zero, List.set_cons_succ]))
        refine (HCM.out cb w6 X6.out.c (HK.out.1.kept X6.out.g (by simp))).mono ?_
        rintro e w7 ⟨rfl, h7, g7⟩
        have X7 := Keep.mk (X6.out.setc h7 g7)
        clear h7 g7 X6
        go_wp2_with (first
          | (with_reducible show wpList _ _ _ ({ dst := _, op := Op.build 29 _, type := _, pos := _, after := _, guard := _ } :: _) _ _
             refine build_g rfl 29 _ rfl _ ((congrArg (Tryz.prog.built 29) (by simp only [List.map_toArray, List.map_cons, List.map_nil]; rfl)).trans HB3.out) ?_
             simp only [Act.put, List.setIfInBounds_toArray, List.set_cons_zero, List.set_cons_succ]))
        refine (HCM.out db w7 X7.out.d (HK.out.1.kept X7.out.g (by simp))).mono ?_
        rintro e w8 ⟨rfl, h8, g8⟩
        have X8 := Keep.mk (X7.out.setd h8 g8)
        clear h8 g8 X7 HCM HB3
        have HHE0 := hear_c cb (deC sc nc 1 dvB 1) S2 w8 (HK.out.1.kept X8.out.g (by simp)) X8.out.c (de_ok HK.out.2.1 HK.out.2.2.1 (by omega) dvB_le 1) (by have := HS2.out.2.2; omega)
        rw [de_snap HS2.out.1 (by rw [HKK.out]; exact HS2.out.2.1) (by omega)] at HHE0
        have HHE := Keep.mk HHE0
        clear HHE0
        go_wp2_with fail
        refine HHE.out.mono ?_
        rintro e w9 ⟨rfl, h9, g9⟩
        have X9 := Keep.mk (X8.out.setc h9 g9)
        have hbe : (S3.toList == S3.toList) = true := by simp
        clear h9 g9 HHE X8
        go_wp2_with fail
        go_ret
        exact ⟨rfl, X9.out.g⟩

    · have q1 : decide ((i : Int) < (n : Int)) = false := decide_eq_false (by omega)
      have q2 : decide (i < n) = false := decide_eq_false him
      have HPL : Keep (Calls Tryz.prog 13 #[pa cb 0] wr fun e w' => e = .returned (.tuple #[.int .u64 5, iv 3, .bool true]) ∧ wr.grownBy w' none) := ⟨playing_t cb (deC sc nc 1 dvB 0) wr H2.out.c⟩
      go_wp2_with fail
      refine HPL.out.mono ?_
      rintro e w3 ⟨rfl, g3⟩
      have X3 := Keep.mk (H2.out.kept g3)
      have HVW : Keep (Calls Tryz.prog 16 #[pa cb 0] w3 fun e w' => ∃ a c, e = .returned (.tuple #[.agg (dV.cs a c).toArray, .bool true]) ∧ w3.grownBy w' none) := ⟨by
        have hm := view_t cb (deC sc nc 1 dvB 0) w3 X3.out.c
        have hvv : (deC sc nc 1 dvB 0).vw = dvB := rfl
        rw [hvv, dvB_rd] at hm
        refine hm.mono ?_
        rintro e w' ⟨a5, c5, rfl, _, g⟩
        exact ⟨a5, c5, rfl, g⟩⟩
      clear g3 HPL H2
      go_wp2_with fail
      refine HVW.out.mono ?_
      rintro e w4 ⟨a4, c4, rfl, g4⟩
      have X4 := Keep.mk (X3.out.kept g4)
      clear g4 HVW X3
      go_wp2_with (first
        | (with_reducible show wpList _ _ _ ({ dst := none, op := Op.store 49 (Operand.tmp 27) _, type := _, pos := _, after := _, guard := _ } :: _) _ _
           refine st_new w4 (dV.cs a4 c4) 49 rfl rfl rfl rfl rfl infoV (vw_one _ _ _) ?_
           intro w5 h6 g6
           have X5 : Keep (Has w5 w4.heap.size (dV.cs a4 c4) 49 ∧ DS w w5 cb db vb (deC sc nc 1 dvB 0) (deC sc nc 1 dvB 0)) := ⟨h6, X4.out.kept g6⟩
           clear h6 g6)
        | (with_reducible show wpList _ _ _ ({ dst := _, op := Op.load 49 (Operand.tmp 27), type := _, pos := _, after := _, guard := _ } :: _) _ _
           refine load_g rfl 49 _ rfl w4.heap.size 0 rfl (dV.cs a4 c4) dv' X5.out.1.range hdv hdvr infoV ?_)
        | (with_reducible show wpList _ _ _ ({ dst := _, op := Op.load 49 (Operand.tmp 13), type := _, pos := _, after := _, guard := _ } :: _) _ _
           refine load_g rfl 49 _ rfl vb 0 rfl (dV.cs none 0) dv' X5.out.2.v.range hdv hdvr infoV ?_))
      refine (veq_c dV a4 none c4 0 w5 rfl).mono ?_
      rintro e w6 ⟨rfl, g6⟩
      have X6 := Keep.mk (X5.out.2.kept g6)
      clear g6 X5 X4
      obtain ⟨S3, hx, hx2⟩ := de_cmd sc nc 1 dvB
      have HCM : Keep (∀ (b : Nat) (w' : World), Has w' b (deC sc nc 1 dvB 0).cs 83 → Kc w' → Calls Tryz.prog 9 #[pa b 0, .agg #[.int .i64 5, .int .i64 0, .bool false, .bool false]] w' fun e w'' => e = .returned (.tuple #[.string S3, iv 0]) ∧ Has w'' b (deC sc nc 1 dvB 1).cs 83 ∧ w'.grownBy w'' (some b)) := ⟨fun b w' h hk => by
        have hm := command_c b (deC sc nc 1 dvB 0) w' hk h (de_ok HK.out.2.1 HK.out.2.2.1 (by omega) dvB_le 0) (by show 0 < 18446744073709551615; omega) 5 0 false false (by omega) (by omega)
        rw [hx, hx2] at hm
        exact hm⟩
      have HB3 := Keep.mk builtCmdD
      clear hx hx2
      go_wp2_with (first
        | (with_reducible show wpList _ _ _ ({ dst := _, op := Op.build 29 _, type := _, pos := _, after := _, guard := _ } :: _) _ _
           refine build_g rfl 29 _ rfl _ ((congrArg (Tryz.prog.built 29) (by simp only [List.map_toArray, List.map_cons, List.map_nil]; rfl)).trans HB3.out) ?_
           simp only [Act.put, List.setIfInBounds_toArray, List.set_cons_zero, List.set_cons_succ]))
      refine (HCM.out cb w6 X6.out.c (HK.out.1.kept X6.out.g (by simp))).mono ?_
      rintro e w7 ⟨rfl, h7, g7⟩
      have X7 := Keep.mk (X6.out.setc h7 g7)
      clear h7 g7 X6
      go_wp2_with (first
        | (with_reducible show wpList _ _ _ ({ dst := _, op := Op.build 29 _, type := _, pos := _, after := _, guard := _ } :: _) _ _
           refine build_g rfl 29 _ rfl _ ((congrArg (Tryz.prog.built 29) (by simp only [List.map_toArray, List.map_cons, List.map_nil]; rfl)).trans HB3.out) ?_
           simp only [Act.put, List.setIfInBounds_toArray, List.set_cons_zero, List.set_cons_succ]))
      refine (HCM.out db w7 X7.out.d (HK.out.1.kept X7.out.g (by simp))).mono ?_
      rintro e w8 ⟨rfl, h8, g8⟩
      have X8 := Keep.mk (X7.out.setd h8 g8)
      clear h8 g8 X7 HCM HB3
      have HHE0 := hear_c cb (deC sc nc 1 dvB 1) S2 w8 (HK.out.1.kept X8.out.g (by simp)) X8.out.c (de_ok HK.out.2.1 HK.out.2.2.1 (by omega) dvB_le 1) (by have := HS2.out.2.2; omega)
      rw [de_snap HS2.out.1 (by rw [HKK.out]; exact HS2.out.2.1) (by omega)] at HHE0
      have HHE := Keep.mk HHE0
      clear HHE0
      go_wp2_with fail
      refine HHE.out.mono ?_
      rintro e w9 ⟨rfl, h9, g9⟩
      have X9 := Keep.mk (X8.out.setc h9 g9)
      have hbe : (S3.toList == S3.toList) = true := by simp
      clear h9 g9 HHE X8
      go_wp2_with fail
      go_ret
      exact ⟨rfl, X9.out.g⟩

end Go.Proofs.YtldnpebnpbahjaaGreatDoor.Pk.Sn
