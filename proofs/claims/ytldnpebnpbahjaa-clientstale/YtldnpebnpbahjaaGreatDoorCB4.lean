import Derived.Test.YtldnpebnpbahjaaGreatDoorCB3
/- ClientFresh: the walk -/
namespace Go.Proofs.YtldnpebnpbahjaaGreatDoor.Pk.Sn
open Go Go.RowKit

set_option maxRecDepth 100000 in
theorem builtM0 : Tryz.prog.built 29 [] = some #[.int .i64 0, .int .i64 0, .bool false, .bool false] := by kernel_rfl
/-- a part of a block that is kept -/
structure Rg (w : World) (b o : Nat) (l : List Value) : Prop where
  h : w.rangeAt b o l
theorem Rg.kept {w w' : World} {b o : Nat} {l : List Value} (h : Rg w b o l) (g : w.grownBy w' none) : w'.rangeAt b o l := fun i v hv => g.cell (h.h i v hv) (by simp)
set_option maxHeartbeats 8000000 in
set_option maxRecDepth 100000 in
theorem clientFresh_c (se no : ByteArray) (a : Option Addr) (c : Nat) (L : List Cm) (w : World) (hk : Kc w) (hn : Na.Kc w) (hse : se.size ≤ 281474976710656) (hr : CmR w a L) (hok : ∀ x ∈ L, x.ok) :
    Calls Tryz.prog 3 #[.string se, .string no, .slice a L.length c] w fun e w' => e = .returned (.bool true) ∧ w.grownBy w' none := by
  obtain ⟨dm, hdm, hdr⟩ := underM
  obtain ⟨n, hnn⟩ : ∃ n : Nat, (if se.size = 0 then 1 else se.size) = n := ⟨_, rfl⟩
  have hn0 : n ≠ 0 := by rw [← hnn]; split <;> omega
  have hnb : n < 18446744073709551616 := by rw [← hnn]; split <;> omega
  have HNU : Keep (∀ w : World, Calls Tryz.prog 8 #[.int .u64 (se.size : Int)] w fun e w' => e = .returned (.int .u64 (n : Int)) ∧ w' = w) := ⟨fun w => by
    have h := number_c se.size w
    rw [hnn] at h
    exact h⟩
  have HBG := Keep.mk (begun_c se no n w hk hn hn0 hnb)
  have hs1 := txB_size se 32
  have hs2 := txB_size no 16
  generalize txB se 32 = sc at HBG hs1
  generalize txB no 16 = nc at HBG hs2
  obtain ⟨m, hm⟩ : ∃ m, L.length = m := ⟨_, rfl⟩
  have HK := Keep.mk (And.intro hk (And.intro hn0 (And.intro hnb (And.intro hs1 (And.intro hs2 (And.intro hr (And.intro hok hm)))))))
  have hwr : IntKind.u64.wrap (se.size : Int) = (se.size : Int) := by
    have : IntKind.u64.wrap (se.size : Int) = (se.size : Int) % 18446744073709551616 := rfl
    rw [this]; omega
  have HM := Keep.mk (And.intro trivial hm)
  rw [hm]
  clear hk hn hn0 hnb hs1 hs2 hnn hse hr hok hm
  go_enter Tryz.func3, Tryz.ntmps3
  go_wp2_with fail
  refine (HNU.out w).mono ?_
  rintro e w0 ⟨rfl, hww⟩
  have hww := hww.symm
  subst hww
  go_wp2_with fail
  refine HBG.out.mono ?_
  rintro e w1 ⟨cb, rfl, h1, g1, hcb⟩
  obtain ⟨K, hK1⟩ : ∃ q, begK sc nc n = q := ⟨_, rfl⟩
  have HKK := Keep.mk hK1
  have HCB := Keep.mk hcb
  rw [hK1]
  have H1 : Keep (Has w1 cb (seqC sc nc n 0).cs 83 ∧ w.grownBy w1 none) := ⟨h1, g1⟩
  clear h1 g1 HBG hK1 hcb
  go_wp2_with fail
  go_loopw [10, 11] (fun s t w' => ∃ i k : Nat, s = .int .u64 (k : Int) ∧ t = .int .i64 (i : Int) ∧ k ≤ i ∧ i ≤ 100 ∧ Keep (Has w' cb (seqC sc nc n k).cs 83 ∧ w.grownBy w' none)) (fun _ t _ => 100 - (intOf t).toNat)
  case atStart => exact ⟨0, 0, rfl, rfl, by omega, by omega, H1⟩
  case round =>
    obtain ⟨i, k, rfl, rfl, hki, hi, H2⟩ := hrel
    have hcb1 : 1 ≠ cb := by
      have := HK.out.1.lt
      have := HCB.out
      omega
    have HC1 := Keep.mk hcb1
    clear hcb1
    by_cases him : i < m
    · by_cases hi100 : i < 100
      · obtain ⟨b, o, rfl, hat⟩ := HK.out.2.2.2.2.2.1 (by have := HM.out.2; omega)
        obtain ⟨⟨t, u, fr, bo⟩, hc0⟩ : ∃ x, L[i]? = some x := ⟨_, List.getElem?_eq_getElem (by have := HM.out.2; omega)⟩
        have HOK : Keep (Cm.ok ⟨t, u, fr, bo⟩) := ⟨HK.out.2.2.2.2.2.2.1 _ (List.mem_of_getElem? hc0)⟩
        have HR : Keep (Rg w b (o + i * 4) [.int .i64 t, .int .i64 u, .bool fr, .bool bo]) := ⟨⟨hat i _ hc0⟩⟩
        have q1 : decide ((i : Int) < (m : Int)) = true := decide_eq_true (by omega)
        have q2 : decide (i < m) = true := decide_eq_true him
        have q3 : (i : Int) < (m : Int) := by omega
        have q4 : decide ((i : Int) < 100) = true := decide_eq_true (by omega)
        have q5 : decide (i < 100) = true := decide_eq_true hi100
        clear hat hc0
        go_wp2_with (first
          | (with_reducible show wpList _ _ _ ({ dst := some 52, op := Op.load 29 _, type := _, pos := _, after := _, guard := _ } :: _) _ _
             refine load_g rfl 29 _ rfl b (o + i * 4) rfl [.int .i64 t, .int .i64 u, .bool fr, .bool bo] dm (HR.out.kept H2.out.2) hdm hdr infoM ?_
             simp only [Act.put, List.setIfInBounds_toArray, List.set_cons_zero, List.set_cons_succ])
          | (with_reducible show wpList _ _ _ ({ dst := none, op := Op.store 29 _ _, type := _, pos := _, after := _, guard := _ } :: _) _ _
             refine st_new wr [.int .i64 t, .int .i64 u, .bool fr, .bool bo] 29 rfl rfl rfl rfl rfl infoM (cm_one ⟨t, u, fr, bo⟩) ?_
             intro w2 h6 g6
             have X2 : Keep (Has w2 wr.heap.size [.int .i64 t, .int .i64 u, .bool fr, .bool bo] 29 ∧ Has w2 cb (seqC sc nc n k).cs 83 ∧ w.grownBy w2 none ∧ wr.heap.size ≠ cb) := ⟨h6, H2.out.1.kept g6 (by simp), H2.out.2.trans g6, by have := H2.out.1.lt; omega⟩
             clear h6 g6)
          | (with_reducible show wpList _ _ _ ({ dst := some 55, op := Op.load 29 _, type := _, pos := _, after := _, guard := _ } :: _) _ _
             refine load_g rfl 29 _ rfl wr.heap.size 0 rfl [.int .i64 t, .int .i64 u, .bool fr, .bool bo] dm X2.out.1.range hdm hdr infoM ?_
             simp only [Act.put, List.setIfInBounds_toArray, List.set_cons_zero, List.set_cons_succ]))
        have HCM := Keep.mk (command_c cb (seqC sc nc n k) w2 (HK.out.1.kept X2.out.2.2.1 (by simp)) X2.out.2.1 (seq_ok HK.out.2.2.2.1 HK.out.2.2.2.2.1 HK.out.2.2.1 k) (by show k < 18446744073709551615; omega) t u fr bo HOK.out.t HOK.out.u)
        clear q1 q2 q3 HR
        by_cases hcm : cmdOk t u
        · obtain ⟨S, x, e1, e2, e3, e4, e5⟩ := fresh_yes (sc := sc) (nc := nc) (n := n) (k := k) (f := fr) (b := bo) HK.out.2.2.1 HK.out.2.1 (by omega) HOK.out.t HOK.out.u hcm
          rw [e1, e2] at HCM
          have HS := Keep.mk (And.intro e3 (And.intro e4 e5))
          clear e1 e2 e3 e4 e5
          refine HCM.out.mono ?_
          rintro e w3 ⟨rfl, h3, g3⟩
          have X3 : Keep (Has w3 wr.heap.size [.int .i64 t, .int .i64 u, .bool fr, .bool bo] 29 ∧ Has w3 cb (seqC sc nc n (k + 1)).cs 83 ∧ w.grownBy w3 none) := ⟨X2.out.1.kept g3 (by simp; exact X2.out.2.2.2), h3, gr_new X2.out.2.2.1 g3 HCB.out⟩
          have x0 : w3.cell? ⟨wr.heap.size, 0, none⟩ = some (.int .i64 t) := X3.out.1.cellv 0 _ rfl
          have x1 : w3.cell? ⟨wr.heap.size, 1, none⟩ = some (.int .i64 u) := X3.out.1.cellv 1 _ rfl
          have p1 : decide (t < -128) = false := decide_eq_false (by have := hcm.1; omega)
          have p2 : decide (127 < t) = false := decide_eq_false (by have := hcm.2.1; omega)
          have p3 : decide (u < -128) = false := decide_eq_false (by have := hcm.2.2.1; omega)
          have p4 : decide (127 < u) = false := decide_eq_false (by have := hcm.2.2.2; omega)
          obtain ⟨k1, hk1⟩ : ∃ k1 : Nat, k + 1 = k1 := ⟨_, rfl⟩
          have hwk : IntKind.u64.wrap ((k : Int) + 1) = (k1 : Int) := by rw [← hk1]; exact wrap1 (by omega)
          have HK1 := Keep.mk hk1
          have HDE : Keep (Calls Tryz.prog 10 #[.string S] w3 fun e w' => e = .returned (.tuple #[dv (cmX n (k + 1) t u fr bo x), .int .i64 0]) ∧ w3.grownBy w' none) := ⟨by
            have h := decode_c S w3 (by have := HS.out.2.2; omega)
            rw [HS.out.1] at h
            exact h⟩
          rw [hk1] at HDE X3
          clear h3 g3 HCM hk1 X2 H2 hcm
          go_wp2_with fail
          refine HDE.out.mono ?_
          rintro e w7 ⟨rfl, g7⟩
          have X7 : Keep (Has w7 wr.heap.size [.int .i64 t, .int .i64 u, .bool fr, .bool bo] 29 ∧ Has w7 cb (seqC sc nc n k1).cs 83 ∧ w.grownBy w7 none) := ⟨X3.out.1.kept g7 (by simp), X3.out.2.1.kept g7 (by simp), X3.out.2.2.trans g7⟩
          clear g7 HDE X3 x0 x1
          go_wp2_with (first
            | (with_reducible show wpList _ _ _ ({ dst := none, op := Op.store 34 _ _, type := _, pos := _, after := _, guard := _ } :: _) _ _
               refine st_new w7 (cmX n k1 t u fr bo x).cells 34 rfl rfl rfl rfl rfl info26 (dg_one _) ?_
               intro w4 h6 g6
               have X8 : Keep (Has w4 w7.heap.size (cmX n k1 t u fr bo x).cells 34 ∧ Has w4 wr.heap.size [.int .i64 t, .int .i64 u, .bool fr, .bool bo] 29 ∧ Has w4 cb (seqC sc nc n k1).cs 83 ∧ w.grownBy w4 none) := ⟨h6, X7.out.1.kept g6 (by simp), X7.out.2.1.kept g6 (by simp), X7.out.2.2.trans g6⟩
               clear h6 g6))
          have d0 : w4.cell? ⟨w7.heap.size, 0, none⟩ = some (.int .i64 5) := X8.out.1.cellv 0 _ rfl
          have d8 : w4.cell? ⟨w7.heap.size, 8, none⟩ = some (.int .u64 (k1 : Int)) := X8.out.1.cellv 8 _ rfl
          have d5 : w4.cell? ⟨w7.heap.size, 5, none⟩ = some (.int .u64 (n : Int)) := X8.out.1.cellv 5 _ rfl
          have D9 : Keep (Rg w4 w7.heap.size 9 [.int .i64 t, .int .i64 u, .bool fr, .bool bo]) := ⟨⟨X8.out.1.rangeAt 9 4⟩⟩
          have X4 : Keep (Rg w4 wr.heap.size 0 [.int .i64 t, .int .i64 u, .bool fr, .bool bo]) := ⟨⟨X8.out.2.1.range⟩⟩
          have nm := fun W => neqM t u fr bo W
          have HSE : Keep (∀ w3 : World, w4.grownBy w3 none → Calls Tryz.prog 11 #[.string S, .string K] w3 fun e w' => e = .returned (.bool true) ∧ w3.grownBy w' none) := ⟨fun w3 g => by
            have h := sealed_c S K w3 (HK.out.1.kept (X8.out.2.2.2.trans g) (by simp)) (by have := HS.out.2.2; omega) (by rw [← HKK.out]; unfold begK; rw [keyB_size]; omega)
            rw [← HKK.out] at h ⊢
            rw [HS.out.2.1] at h
            exact h⟩
          refine region_Y (S := fun w' => w4.grownBy w' none) [] (by kernel_rfl) ?_
          have hHeld := gr_drew w4 none
          refine wpAnyY_pure (i := 0) (oi := _) (v := ?_) rfl (by kernel_rfl) (by kernel_rfl) (by kernel_rfl) (by kernel_rfl) (fun _ _ _ h => h) (Or.inl ⟨by rfl, ?_⟩) ?_
          rotate_left
          · (intro w hSw; go_simp; first | done | (with_reducible rfl))
          simp only [Act.put, List.getElem_toArray, List.getElem_cons_zero, List.setIfInBounds_toArray, List.set_cons_zero, List.set_cons_succ]
          refine wpAnyY_pure (i := 1) (oi := _) (v := ?_) rfl (by kernel_rfl) (by kernel_rfl) (by kernel_rfl) (by kernel_rfl) (fun _ _ _ h => h) (Or.inl ⟨by rfl, ?_⟩) ?_
          rotate_left
          · (intro w hSw; go_simp; first | done | (with_reducible rfl))
          simp only [Act.put, List.getElem_toArray, List.getElem_cons_succ, List.getElem_cons_zero, List.setIfInBounds_toArray, List.set_cons_zero, List.set_cons_succ]
          refine wpAnyY_pure (i := 2) (oi := _) (v := ?_) rfl (by kernel_rfl) (by kernel_rfl) (by kernel_rfl) (by kernel_rfl) (fun _ _ _ h => h) (Or.inl ⟨by rfl, ?_⟩) ?_
          rotate_left
          · (intro w hSw; go_simp; first | done | (with_reducible rfl))
          simp only [Act.put, List.getElem_toArray, List.getElem_cons_succ, List.getElem_cons_zero, List.setIfInBounds_toArray, List.set_cons_zero, List.set_cons_succ]
          refine wpAnyY_pure (i := 3) (oi := _) (v := ?_) rfl (by kernel_rfl) (by kernel_rfl) (by kernel_rfl) (by kernel_rfl) (fun _ _ _ h => h) (Or.inl ⟨by rfl, ?_⟩) ?_
          rotate_left
          · (intro w hSw; go_simp; first | done | (with_reducible rfl))
          simp only [Act.put, List.getElem_toArray, List.getElem_cons_succ, List.getElem_cons_zero, List.setIfInBounds_toArray, List.set_cons_zero, List.set_cons_succ]
          refine wpAnyY_pure (i := 4) (oi := _) (v := ?_) rfl (by kernel_rfl) (by kernel_rfl) (by kernel_rfl) (by kernel_rfl) (fun _ _ _ h => h) (Or.inl ⟨by rfl, ?_⟩) ?_
          rotate_left
          · (intro w hSw; go_simp; first | done | (with_reducible rfl))
          simp only [Act.put, List.getElem_toArray, List.getElem_cons_succ, List.getElem_cons_zero, List.setIfInBounds_toArray, List.set_cons_zero, List.set_cons_succ]
          refine wpAnyY_pure (i := 5) (oi := _) (v := ?_) rfl (by kernel_rfl) (by kernel_rfl) (by kernel_rfl) (by kernel_rfl) (fun _ _ _ h => h) (Or.inl ⟨by rfl, ?_⟩) ?_
          rotate_left
          · (intro w hSw; go_simp; first | done | (with_reducible rfl))
          simp only [Act.put, List.getElem_toArray, List.getElem_cons_succ, List.getElem_cons_zero, List.setIfInBounds_toArray, List.set_cons_zero, List.set_cons_succ]
          refine wpAnyY_pure (i := 6) (oi := _) (v := ?_) rfl (by kernel_rfl) (by kernel_rfl) (by kernel_rfl) (by kernel_rfl) (fun _ _ _ h => h) (Or.inl ⟨by rfl, ?_⟩) ?_
          rotate_left
          · (intro w hSw; go_simp; first | done | (with_reducible rfl))
          simp only [Act.put, List.getElem_toArray, List.getElem_cons_succ, List.getElem_cons_zero, List.setIfInBounds_toArray, List.set_cons_zero, List.set_cons_succ]
          refine wpAnyY_pure (i := 7) (oi := _) (v := ?_) rfl (by kernel_rfl) (by kernel_rfl) (by kernel_rfl) (by kernel_rfl) (fun _ _ _ h => h) (Or.inl ⟨by rfl, ?_⟩) ?_
          rotate_left
          · (intro w hSw; go_simp; first | done | (with_reducible rfl))
          simp only [Act.put, List.getElem_toArray, List.getElem_cons_succ, List.getElem_cons_zero, List.setIfInBounds_toArray, List.set_cons_zero, List.set_cons_succ]
          refine wpAnyY_take (i := 8) (oi := _) (v := ?_) rfl (by kernel_rfl) (by kernel_rfl) (by kernel_rfl) (by kernel_rfl) (by kernel_rfl) (fun _ _ _ h => h) (Or.inl ⟨by rfl, ?_⟩) (by assumption) ?_
          rotate_left
          · (intro w hSw; have k0 := hSw.cell d0 (by simp); go_simp; first | done | (with_reducible rfl))
          simp only [Act.put, List.getElem_toArray, List.getElem_cons_succ, List.getElem_cons_zero, List.setIfInBounds_toArray, List.set_cons_zero, List.set_cons_succ]
          refine wpAnyY_pure (i := 9) (oi := _) (v := ?_) rfl (by kernel_rfl) (by kernel_rfl) (by kernel_rfl) (by kernel_rfl) (fun _ _ _ h => h) (Or.inl ⟨by rfl, ?_⟩) ?_
          rotate_left
          · (intro w hSw; go_simp; first | done | (with_reducible rfl))
          simp only [Act.put, List.getElem_toArray, List.getElem_cons_succ, List.getElem_cons_zero, List.setIfInBounds_toArray, List.set_cons_zero, List.set_cons_succ]
          refine wpAnyY_pure (i := 10) (oi := _) (v := ?_) rfl (by kernel_rfl) (by kernel_rfl) (by kernel_rfl) (by kernel_rfl) (fun _ _ _ h => h) (Or.inl ⟨by rfl, ?_⟩) ?_
          rotate_left
          · (intro w hSw; go_simp; first | done | (with_reducible rfl))
          simp only [Act.put, List.getElem_toArray, List.getElem_cons_succ, List.getElem_cons_zero, List.setIfInBounds_toArray, List.set_cons_zero, List.set_cons_succ]
          refine wpAnyY_pure (i := 11) (oi := _) (v := ?_) rfl (by kernel_rfl) (by kernel_rfl) (by kernel_rfl) (by kernel_rfl) (fun _ _ _ h => h) (Or.inl ⟨by rfl, ?_⟩) ?_
          rotate_left
          · (intro w hSw; go_simp; first | done | (with_reducible rfl))
          simp only [Act.put, List.getElem_toArray, List.getElem_cons_succ, List.getElem_cons_zero, List.setIfInBounds_toArray, List.set_cons_zero, List.set_cons_succ]
          refine wpAnyY_pure (i := 12) (oi := _) (v := ?_) rfl (by kernel_rfl) (by kernel_rfl) (by kernel_rfl) (by kernel_rfl) (fun _ _ _ h => h) (Or.inl ⟨by rfl, ?_⟩) ?_
          rotate_left
          · (intro w hSw; go_simp; first | done | (with_reducible rfl))
          simp only [Act.put, List.getElem_toArray, List.getElem_cons_succ, List.getElem_cons_zero, List.setIfInBounds_toArray, List.set_cons_zero, List.set_cons_succ]
          refine wpAnyY_take (i := 13) (oi := _) (v := ?_) rfl (by kernel_rfl) (by kernel_rfl) (by kernel_rfl) (by kernel_rfl) (by kernel_rfl) (fun _ _ _ h => h) (Or.inl ⟨by rfl, ?_⟩) (by assumption) ?_
          rotate_left
          · (intro w hSw; have k0 := hSw.cell d8 (by simp); go_simp; first | done | (with_reducible rfl))
          simp only [Act.put, List.getElem_toArray, List.getElem_cons_succ, List.getElem_cons_zero, List.setIfInBounds_toArray, List.set_cons_zero, List.set_cons_succ]
          refine wpAnyY_pure (i := 14) (oi := _) (v := ?_) rfl (by kernel_rfl) (by kernel_rfl) (by kernel_rfl) (by kernel_rfl) (fun _ _ _ h => h) (Or.inl ⟨by rfl, ?_⟩) ?_
          rotate_left
          · (intro w hSw; go_simp; first | done | (with_reducible rfl))
          simp only [Act.put, List.getElem_toArray, List.getElem_cons_succ, List.getElem_cons_zero, List.setIfInBounds_toArray, List.set_cons_zero, List.set_cons_succ]
          refine wpAnyY_pure (i := 15) (oi := _) (v := ?_) rfl (by kernel_rfl) (by kernel_rfl) (by kernel_rfl) (by kernel_rfl) (fun _ _ _ h => h) (Or.inl ⟨by rfl, ?_⟩) ?_
          rotate_left
          · (intro w hSw; go_simp; first | done | (with_reducible rfl))
          simp only [Act.put, List.getElem_toArray, List.getElem_cons_succ, List.getElem_cons_zero, List.setIfInBounds_toArray, List.set_cons_zero, List.set_cons_succ]
          refine wpAnyY_pure (i := 16) (oi := _) (v := ?_) rfl (by kernel_rfl) (by kernel_rfl) (by kernel_rfl) (by kernel_rfl) (fun _ _ _ h => h) (Or.inl ⟨by rfl, ?_⟩) ?_
          rotate_left
          · (intro w hSw; go_simp; first | done | (with_reducible rfl))
          simp only [Act.put, List.getElem_toArray, List.getElem_cons_succ, List.getElem_cons_zero, List.setIfInBounds_toArray, List.set_cons_zero, List.set_cons_succ]
          refine wpAnyY_pure (i := 17) (oi := _) (v := ?_) rfl (by kernel_rfl) (by kernel_rfl) (by kernel_rfl) (by kernel_rfl) (fun _ _ _ h => h) (Or.inl ⟨by rfl, ?_⟩) ?_
          rotate_left
          · (intro w hSw; go_simp; first | done | (with_reducible rfl))
          simp only [Act.put, List.getElem_toArray, List.getElem_cons_succ, List.getElem_cons_zero, List.setIfInBounds_toArray, List.set_cons_zero, List.set_cons_succ]
          refine wpAnyY_pure (i := 18) (oi := _) (v := ?_) rfl (by kernel_rfl) (by kernel_rfl) (by kernel_rfl) (by kernel_rfl) (fun _ _ _ h => h) (Or.inl ⟨by rfl, ?_⟩) ?_
          rotate_left
          · (intro w hSw; go_simp; first | done | (with_reducible rfl))
          simp only [Act.put, List.getElem_toArray, List.getElem_cons_succ, List.getElem_cons_zero, List.setIfInBounds_toArray, List.set_cons_zero, List.set_cons_succ]
          refine wpAnyY_take (i := 19) (oi := _) (v := ?_) rfl (by kernel_rfl) (by kernel_rfl) (by kernel_rfl) (by kernel_rfl) (by kernel_rfl) (fun _ _ _ h => h) (Or.inl ⟨by rfl, ?_⟩) (by assumption) ?_
          rotate_left
          · (intro w hSw; have k0 := hSw.cell d5 (by simp); go_simp; first | done | (with_reducible rfl))
          simp only [Act.put, List.getElem_toArray, List.getElem_cons_succ, List.getElem_cons_zero, List.setIfInBounds_toArray, List.set_cons_zero, List.set_cons_succ]
          refine wpAnyY_pure (i := 20) (oi := _) (v := ?_) rfl (by kernel_rfl) (by kernel_rfl) (by kernel_rfl) (by kernel_rfl) (fun _ _ _ h => h) (Or.inl ⟨by rfl, ?_⟩) ?_
          rotate_left
          · (intro w hSw; go_simp; first | done | (with_reducible rfl))
          simp only [Act.put, List.getElem_toArray, List.getElem_cons_succ, List.getElem_cons_zero, List.setIfInBounds_toArray, List.set_cons_zero, List.set_cons_succ]
          refine wpAnyY_one (i := 21) (o := _) (by kernel_rfl) rfl (fun K hK => ?_)
          go_simp
          refine hK.out _ _ (fun h => h) ?_
          clear hK K
          refine wpAnyY_pure (i := 22) (oi := _) (v := ?_) rfl (by kernel_rfl) (by kernel_rfl) (by kernel_rfl) (by kernel_rfl) (fun _ _ _ h => h) (Or.inl ⟨by rfl, ?_⟩) ?_
          rotate_left
          · (intro w hSw; go_simp; first | done | (with_reducible rfl))
          simp only [Act.put, List.getElem_toArray, List.getElem_cons_succ, List.getElem_cons_zero, List.setIfInBounds_toArray, List.set_cons_zero, List.set_cons_succ]
          refine wpAnyY_one (i := 23) (o := _) (by kernel_rfl) rfl (fun K hK => ?_)
          go_simp
          refine (HNU.out _).mono ?_
          rintro e w5 ⟨rfl, hw5⟩
          subst hw5
          refine hK.out _ _ (fun q => q) ?_
          clear hK K
          refine wpAnyY_pure (i := 24) (oi := _) (v := ?_) rfl (by kernel_rfl) (by kernel_rfl) (by kernel_rfl) (by kernel_rfl) (fun _ _ _ h => h) (Or.inl ⟨by rfl, ?_⟩) ?_
          rotate_left
          · (intro w hSw; go_simp; first | done | (with_reducible rfl))
          simp only [Act.put, List.getElem_toArray, List.getElem_cons_succ, List.getElem_cons_zero, List.setIfInBounds_toArray, List.set_cons_zero, List.set_cons_succ]
          refine wpAnyY_pure (i := 25) (oi := _) (v := ?_) rfl (by kernel_rfl) (by kernel_rfl) (by kernel_rfl) (by kernel_rfl) (fun _ _ _ h => h) (Or.inl ⟨by rfl, ?_⟩) ?_
          rotate_left
          · (intro w hSw; go_simp; first | done | (with_reducible rfl))
          simp only [Act.put, List.getElem_toArray, List.getElem_cons_succ, List.getElem_cons_zero, List.setIfInBounds_toArray, List.set_cons_zero, List.set_cons_succ]
          refine wpAnyY_pure (i := 26) (oi := _) (v := ?_) rfl (by kernel_rfl) (by kernel_rfl) (by kernel_rfl) (by kernel_rfl) (fun _ _ _ h => h) (Or.inl ⟨by rfl, ?_⟩) ?_
          rotate_left
          · (intro w hSw; go_simp; first | done | (with_reducible rfl))
          simp only [Act.put, List.getElem_toArray, List.getElem_cons_succ, List.getElem_cons_zero, List.setIfInBounds_toArray, List.set_cons_zero, List.set_cons_succ]
          refine wpAnyY_pure (i := 27) (oi := _) (v := ?_) rfl (by kernel_rfl) (by kernel_rfl) (by kernel_rfl) (by kernel_rfl) (fun _ _ _ h => h) (Or.inl ⟨by rfl, ?_⟩) ?_
          rotate_left
          · (intro w hSw; go_simp; first | done | (with_reducible rfl))
          simp only [Act.put, List.getElem_toArray, List.getElem_cons_succ, List.getElem_cons_zero, List.setIfInBounds_toArray, List.set_cons_zero, List.set_cons_succ]
          refine wpAnyY_take (i := 28) (oi := _) (v := .agg #[.int .i64 t, .int .i64 u, .bool fr, .bool bo]) rfl (by kernel_rfl) (by kernel_rfl) (by kernel_rfl) (by kernel_rfl) (by kernel_rfl) (fun _ _ _ h => h) (yieldsIf_load_mid (by rfl) 29 _ rfl _ _ rfl [.int .i64 t, .int .i64 u, .bool fr, .bool bo] _ (fun w hSw => (D9.out.kept hSw)) hdm hdr infoM) (by assumption) ?_
          simp only [Act.put, List.getElem_toArray, List.getElem_cons_succ, List.getElem_cons_zero, List.setIfInBounds_toArray, List.set_cons_zero, List.set_cons_succ]
          refine wpAnyY_take (i := 29) (oi := _) (v := .agg #[.int .i64 t, .int .i64 u, .bool fr, .bool bo]) rfl (by kernel_rfl) (by kernel_rfl) (by kernel_rfl) (by kernel_rfl) (by kernel_rfl) (fun _ _ _ h => h) (yieldsIf_load_mid (by rfl) 29 _ rfl _ _ rfl [.int .i64 t, .int .i64 u, .bool fr, .bool bo] _ (fun w hSw => (X4.out.kept hSw)) hdm hdr infoM) (by assumption) ?_
          simp only [Act.put, List.getElem_toArray, List.getElem_cons_succ, List.getElem_cons_zero, List.setIfInBounds_toArray, List.set_cons_zero, List.set_cons_succ]
          refine wpAnyY_pure (i := 30) (oi := _) (v := ?_) rfl (by kernel_rfl) (by kernel_rfl) (by kernel_rfl) (by kernel_rfl) (fun _ _ _ h => h) (Or.inl ⟨by rfl, ?_⟩) ?_
          rotate_left
          · (intro w hSw; go_simp; first | done | (with_reducible rfl))
          simp only [Act.put, List.getElem_toArray, List.getElem_cons_succ, List.getElem_cons_zero, List.setIfInBounds_toArray, List.set_cons_zero, List.set_cons_succ]
          refine wpAnyY_pure (i := 31) (oi := _) (v := ?_) rfl (by kernel_rfl) (by kernel_rfl) (by kernel_rfl) (by kernel_rfl) (fun _ _ _ h => h) (Or.inl ⟨by rfl, ?_⟩) ?_
          rotate_left
          · (intro w hSw; go_simp; first | done | (with_reducible rfl))
          simp only [Act.put, List.getElem_toArray, List.getElem_cons_succ, List.getElem_cons_zero, List.setIfInBounds_toArray, List.set_cons_zero, List.set_cons_succ]
          refine wpAnyY_pure (i := 32) (oi := _) (v := ?_) rfl (by kernel_rfl) (by kernel_rfl) (by kernel_rfl) (by kernel_rfl) (fun _ _ _ h => h) (Or.inl ⟨by rfl, ?_⟩) ?_
          rotate_left
          · (intro w hSw; go_simp; first | done | (with_reducible rfl))
          simp only [Act.put, List.getElem_toArray, List.getElem_cons_succ, List.getElem_cons_zero, List.setIfInBounds_toArray, List.set_cons_zero, List.set_cons_succ]
          refine wpAnyY_pure (i := 33) (oi := _) (v := ?_) rfl (by kernel_rfl) (by kernel_rfl) (by kernel_rfl) (by kernel_rfl) (fun _ _ _ h => h) (Or.inl ⟨by rfl, ?_⟩) ?_
          rotate_left
          · (intro w hSw; go_simp; first | done | (with_reducible rfl))
          simp only [Act.put, List.getElem_toArray, List.getElem_cons_succ, List.getElem_cons_zero, List.setIfInBounds_toArray, List.set_cons_zero, List.set_cons_succ]
          refine wpAnyY_pure (i := 34) (oi := _) (v := ?_) rfl (by kernel_rfl) (by kernel_rfl) (by kernel_rfl) (by kernel_rfl) (fun _ _ _ h => h) (Or.inl ⟨by rfl, ?_⟩) ?_
          rotate_left
          · (intro w hSw; go_simp; first | done | (with_reducible rfl))
          simp only [Act.put, List.getElem_toArray, List.getElem_cons_succ, List.getElem_cons_zero, List.setIfInBounds_toArray, List.set_cons_zero, List.set_cons_succ]
          refine wpAnyY_one (i := 35) (o := _) (by kernel_rfl) rfl (fun K hK => ?_)
          go_simp
          refine (HSE.out _ hHeld).mono ?_
          rintro e w6 ⟨rfl, g60⟩
          have g6 := Keep.mk (hHeld.trans g60)
          refine hK.out _ _ (fun q => q.trans g60) ?_
          clear hK K g60
          have hHeld := g6.out
          refine wpAnyY_pure (i := 36) (oi := _) (v := ?_) rfl (by kernel_rfl) (by kernel_rfl) (by kernel_rfl) (by kernel_rfl) (fun _ _ _ h => h) (Or.inl ⟨by rfl, ?_⟩) ?_
          rotate_left
          · (intro w hSw; go_simp; first | done | (with_reducible rfl))
          simp only [Act.put, List.getElem_toArray, List.getElem_cons_succ, List.getElem_cons_zero, List.setIfInBounds_toArray, List.set_cons_zero, List.set_cons_succ]
          refine wpAnyY_pure (i := 37) (oi := _) (v := ?_) rfl (by kernel_rfl) (by kernel_rfl) (by kernel_rfl) (by kernel_rfl) (fun _ _ _ h => h) (Or.inl ⟨by rfl, ?_⟩) ?_
          rotate_left
          · (intro w hSw; go_simp; first | done | (with_reducible rfl))
          simp only [Act.put, List.getElem_toArray, List.getElem_cons_succ, List.getElem_cons_zero, List.setIfInBounds_toArray, List.set_cons_zero, List.set_cons_succ]
          refine wpAnyY_done (by kernel_rfl) ?_ _

          have HF : Keep (Has w6 cb (seqC sc nc n k1).cs 83 ∧ w.grownBy w6 none) := ⟨X8.out.2.2.1.kept g6.out (by simp), X8.out.2.2.2.trans g6.out⟩
          clear d0 d8 d5 D9 X4 nm HSE X8 X7 g6 hHeld
          go_wp2_with fail
          go_roundw
          case rel => exact ⟨i + 1, k1, rfl, by go_num, by have := HK1.out; omega, by omega, HF⟩
          case measure => simp [intOf]; omega
        · obtain ⟨e1, e2⟩ := fresh_no (sc := sc) (nc := nc) (n := n) (k := k) (f := fr) (b := bo) HK.out.2.2.1 HK.out.2.1 (by omega) HOK.out.t HOK.out.u hcm
          rw [e1, e2] at HCM
          clear e1 e2
          refine HCM.out.mono ?_
          rintro e w3 ⟨rfl, h3, g3⟩
          have X3 : Keep (Has w3 wr.heap.size [.int .i64 t, .int .i64 u, .bool fr, .bool bo] 29 ∧ Has w3 cb (seqC sc nc n k).cs 83 ∧ w.grownBy w3 none) := ⟨X2.out.1.kept g3 (by simp; exact X2.out.2.2.2), h3, gr_new X2.out.2.2.1 g3 HCB.out⟩
          have x0 : w3.cell? ⟨wr.heap.size, 0, none⟩ = some (.int .i64 t) := X3.out.1.cellv 0 _ rfl
          have x1 : w3.cell? ⟨wr.heap.size, 1, none⟩ = some (.int .i64 u) := X3.out.1.cellv 1 _ rfl
          have HCN := Keep.mk hcm
          have HF : Keep (Has w3 cb (seqC sc nc n k).cs 83 ∧ w.grownBy w3 none) := ⟨X3.out.2.1, X3.out.2.2⟩
          clear h3 g3 HCM X2 H2 hcm X3
          unfold nob
          by_cases c1 : t < -128
          · have p1 : decide (t < -128) = true := decide_eq_true c1
            clear c1
            go_wp2_with fail
            go_roundw
            case rel => exact ⟨i + 1, k, rfl, by go_num, by omega, by omega, HF⟩
            case measure => simp [intOf]; omega

          have p1 : decide (t < -128) = false := decide_eq_false c1
          by_cases c2 : 127 < t
          · have p2 : decide (127 < t) = true := decide_eq_true c2
            clear c1 c2
            go_wp2_with fail
            go_roundw
            case rel => exact ⟨i + 1, k, rfl, by go_num, by omega, by omega, HF⟩
            case measure => simp [intOf]; omega

          have p2 : decide (127 < t) = false := decide_eq_false c2
          by_cases c3 : u < -128
          · have p3 : decide (u < -128) = true := decide_eq_true c3
            clear c1 c2 c3
            go_wp2_with fail
            go_roundw
            case rel => exact ⟨i + 1, k, rfl, by go_num, by omega, by omega, HF⟩
            case measure => simp [intOf]; omega

          have p3 : decide (u < -128) = false := decide_eq_false c3
          have p4 : decide (127 < u) = true := decide_eq_true (by have h := HCN.out; unfold cmdOk at h; omega)
          clear c1 c2 c3
          go_wp2_with fail
          go_roundw
          case rel => exact ⟨i + 1, k, rfl, by go_num, by omega, by omega, HF⟩
          case measure => simp [intOf]; omega

      · have q1 : decide ((i : Int) < (m : Int)) = true := decide_eq_true (by omega)
        have q2 : decide (i < m) = true := decide_eq_true him
        have q4 : decide ((i : Int) < 100) = false := decide_eq_false (by omega)
        have q5 : decide (i < 100) = false := decide_eq_false hi100
        obtain ⟨S, x, e1, e2, e3, e4⟩ := fresh_bye (sc := sc) (nc := nc) (n := n) (k := k) HK.out.2.2.1 HK.out.2.1 (by omega)
        have HBY := Keep.mk (bye_c cb (seqC sc nc n k) wr (HK.out.1.kept H2.out.2 (by simp)) H2.out.1 (seq_ok HK.out.2.2.2.1 HK.out.2.2.2.2.1 HK.out.2.2.1 k) (by show k < 18446744073709551615; omega))
        rw [e1] at HBY
        have HS := Keep.mk (And.intro e2 (And.intro e3 e4))
        obtain ⟨k1, hk1⟩ : ∃ k1 : Nat, k + 1 = k1 := ⟨_, rfl⟩
        have hwk : IntKind.u64.wrap ((k : Int) + 1) = (k1 : Int) := by rw [← hk1]; exact wrap1 (by omega)
        rw [hk1] at HS
        clear e1 e2 e3 e4
        go_wp2_with fail
        refine HBY.out.mono ?_
        rintro e w3 ⟨rfl, h3, g3⟩
        have X3 : Keep (Has w3 cb (endS (seqC sc nc n k)).cs 83 ∧ w.grownBy w3 none) := ⟨h3, gr_new H2.out.2 g3 HCB.out⟩
        have HDE : Keep (Calls Tryz.prog 10 #[.string S] w3 fun e w' => e = .returned (.tuple #[dv (byX n k1 x), .int .i64 0]) ∧ w3.grownBy w' none) := ⟨by
          have h := decode_c S w3 (by have := HS.out.2.2; omega)
          rw [HS.out.1] at h
          exact h⟩
        clear h3 g3 HBY hk1 H2
        go_wp2_with fail
        refine HDE.out.mono ?_
        rintro e w7 ⟨rfl, g7⟩
        have X7 : Keep (Has w7 cb (endS (seqC sc nc n k)).cs 83 ∧ w.grownBy w7 none) := ⟨X3.out.1.kept g7 (by simp), X3.out.2.trans g7⟩
        clear g7 HDE X3
        have HSE : Keep (∀ w3 : World, w7.grownBy w3 none → Calls Tryz.prog 11 #[.string S, .string K] w3 fun e w' => e = .returned (.bool true) ∧ w3.grownBy w' none) := ⟨fun w3 g => by
          have h := sealed_c S K w3 (HK.out.1.kept (X7.out.2.trans g) (by simp)) (by have := HS.out.2.2; omega) (by rw [← HKK.out]; unfold begK; rw [keyB_size]; omega)
          rw [← HKK.out] at h ⊢
          rw [HS.out.2.1] at h
          exact h⟩
        go_wp2_with (first
          | (with_reducible show wpList _ _ _ ({ dst := none, op := Op.store 34 _ _, type := _, pos := _, after := _, guard := _ } :: _) _ _
             refine st_new w7 (byX n k1 x).cells 34 rfl rfl rfl rfl rfl info26 (dg_one _) ?_
             intro w4 h6 g6
             have X8 : Keep (Has w4 w7.heap.size (byX n k1 x).cells 34 ∧ Has w4 cb (endS (seqC sc nc n k)).cs 83 ∧ w.grownBy w4 none ∧ w7.grownBy w4 none) := ⟨h6, X7.out.1.kept g6 (by simp), X7.out.2.trans g6, g6⟩
             have d0 : w4.cell? ⟨w7.heap.size, 0, none⟩ = some (.int .i64 7) := h6.cellv 0 _ rfl
             have d8 : w4.cell? ⟨w7.heap.size, 8, none⟩ = some (.int .u64 (k1 : Int)) := h6.cellv 8 _ rfl
             clear h6 g6))
        refine (HSE.out w4 X8.out.2.2.2).mono ?_
        rintro e w5 ⟨rfl, g5⟩
        have X9 : Keep (Has w5 cb (endS (seqC sc nc n k)).cs 83 ∧ w.grownBy w5 none) := ⟨X8.out.2.1.kept g5 (by simp), X8.out.2.2.1.trans g5⟩
        have HEO := Keep.mk (end_ok (seq_ok HK.out.2.2.2.1 HK.out.2.2.2.2.1 HK.out.2.2.1 k))
        have HCM := Keep.mk (command_c cb (endS (seqC sc nc n k)) w5 (HK.out.1.kept X9.out.2 (by simp)) X9.out.1 HEO.out (by show (0 : Nat) < _; omega) 0 0 false false (by omega) (by omega))
        rw [(end_slX (seqC sc nc n k) (cmdD 0 0 false false)).1, (end_slX (seqC sc nc n k) (cmdD 0 0 false false)).2] at HCM
        have HB := Keep.mk builtM0
        clear d0 d8 g5 HSE X8 X7
        go_wp2_with (first
          | (with_reducible show wpList _ _ _ ({ dst := _, op := Op.build 29 _, type := _, pos := _, after := _, guard := _ } :: _) _ _
             refine build_g rfl 29 _ rfl _ ((congrArg (Tryz.prog.built 29) (by simp only [List.map_toArray, List.map_nil]; rfl)).trans HB.out) ?_
             simp only [Act.put, List.setIfInBounds_toArray, List.set_cons_zero, List.set_cons_succ]))
        refine HCM.out.mono ?_
        rintro e w8 ⟨rfl, h8, g8⟩
        have X10 : Keep (Has w8 cb (endS (seqC sc nc n k)).cs 83 ∧ w.grownBy w8 none) := ⟨h8, gr_new X9.out.2 g8 HCB.out⟩
        have HB2 := Keep.mk (bye_c cb (endS (seqC sc nc n k)) w8 (HK.out.1.kept X10.out.2 (by simp)) X10.out.1 HEO.out (by show (0 : Nat) < _; omega))
        rw [end_bye] at HB2
        clear h8 g8 X9 HCM HB
        go_wp2_with fail
        refine HB2.out.mono ?_
        rintro e w9 ⟨rfl, h9, g9⟩
        have X11 : Keep (Has w9 cb (endS (seqC sc nc n k)).cs 83 ∧ w.grownBy w9 none) := ⟨h9, gr_new X10.out.2 g9 HCB.out⟩
        have HPL : Keep (Calls Tryz.prog 13 #[pa cb 0] w9 fun e w' => e = .returned (.tuple #[.int .u64 0, iv 0, .bool false]) ∧ w9.grownBy w' none) := ⟨playing_t cb (endS (seqC sc nc n k)) w9 X11.out.1⟩
        clear h9 g9 X10 HB2
        go_wp2_with fail
        refine HPL.out.mono ?_
        rintro e w10 ⟨rfl, g10⟩
        have HZ := Keep.mk (X11.out.2.trans g10)
        clear g10
        go_wp2_with fail
        go_ret
        exact ⟨rfl, HZ.out⟩

    · have q1 : decide ((i : Int) < (m : Int)) = false := decide_eq_false (by omega)
      have q2 : decide (i < m) = false := decide_eq_false him
      obtain ⟨S, x, e1, e2, e3, e4⟩ := fresh_bye (sc := sc) (nc := nc) (n := n) (k := k) HK.out.2.2.1 HK.out.2.1 (by omega)
      have HBY := Keep.mk (bye_c cb (seqC sc nc n k) wr (HK.out.1.kept H2.out.2 (by simp)) H2.out.1 (seq_ok HK.out.2.2.2.1 HK.out.2.2.2.2.1 HK.out.2.2.1 k) (by show k < 18446744073709551615; omega))
      rw [e1] at HBY
      have HS := Keep.mk (And.intro e2 (And.intro e3 e4))
      obtain ⟨k1, hk1⟩ : ∃ k1 : Nat, k + 1 = k1 := ⟨_, rfl⟩
      have hwk : IntKind.u64.wrap ((k : Int) + 1) = (k1 : Int) := by rw [← hk1]; exact wrap1 (by omega)
      rw [hk1] at HS
      clear e1 e2 e3 e4
      go_wp2_with fail
      refine HBY.out.mono ?_
      rintro e w3 ⟨rfl, h3, g3⟩
      have X3 : Keep (Has w3 cb (endS (seqC sc nc n k)).cs 83 ∧ w.grownBy w3 none) := ⟨h3, gr_new H2.out.2 g3 HCB.out⟩
      have HDE : Keep (Calls Tryz.prog 10 #[.string S] w3 fun e w' => e = .returned (.tuple #[dv (byX n k1 x), .int .i64 0]) ∧ w3.grownBy w' none) := ⟨by
        have h := decode_c S w3 (by have := HS.out.2.2; omega)
        rw [HS.out.1] at h
        exact h⟩
      clear h3 g3 HBY hk1 H2
      go_wp2_with fail
      refine HDE.out.mono ?_
      rintro e w7 ⟨rfl, g7⟩
      have X7 : Keep (Has w7 cb (endS (seqC sc nc n k)).cs 83 ∧ w.grownBy w7 none) := ⟨X3.out.1.kept g7 (by simp), X3.out.2.trans g7⟩
      clear g7 HDE X3
      have HSE : Keep (∀ w3 : World, w7.grownBy w3 none → Calls Tryz.prog 11 #[.string S, .string K] w3 fun e w' => e = .returned (.bool true) ∧ w3.grownBy w' none) := ⟨fun w3 g => by
        have h := sealed_c S K w3 (HK.out.1.kept (X7.out.2.trans g) (by simp)) (by have := HS.out.2.2; omega) (by rw [← HKK.out]; unfold begK; rw [keyB_size]; omega)
        rw [← HKK.out] at h ⊢
        rw [HS.out.2.1] at h
        exact h⟩
      go_wp2_with (first
        | (with_reducible show wpList _ _ _ ({ dst := none, op := Op.store 34 _ _, type := _, pos := _, after := _, guard := _ } :: _) _ _
           refine st_new w7 (byX n k1 x).cells 34 rfl rfl rfl rfl rfl info26 (dg_one _) ?_
           intro w4 h6 g6
           have X8 : Keep (Has w4 w7.heap.size (byX n k1 x).cells 34 ∧ Has w4 cb (endS (seqC sc nc n k)).cs 83 ∧ w.grownBy w4 none ∧ w7.grownBy w4 none) := ⟨h6, X7.out.1.kept g6 (by simp), X7.out.2.trans g6, g6⟩
           have d0 : w4.cell? ⟨w7.heap.size, 0, none⟩ = some (.int .i64 7) := h6.cellv 0 _ rfl
           have d8 : w4.cell? ⟨w7.heap.size, 8, none⟩ = some (.int .u64 (k1 : Int)) := h6.cellv 8 _ rfl
           clear h6 g6))
      refine (HSE.out w4 X8.out.2.2.2).mono ?_
      rintro e w5 ⟨rfl, g5⟩
      have X9 : Keep (Has w5 cb (endS (seqC sc nc n k)).cs 83 ∧ w.grownBy w5 none) := ⟨X8.out.2.1.kept g5 (by simp), X8.out.2.2.1.trans g5⟩
      have HEO := Keep.mk (end_ok (seq_ok HK.out.2.2.2.1 HK.out.2.2.2.2.1 HK.out.2.2.1 k))
      have HCM := Keep.mk (command_c cb (endS (seqC sc nc n k)) w5 (HK.out.1.kept X9.out.2 (by simp)) X9.out.1 HEO.out (by show (0 : Nat) < _; omega) 0 0 false false (by omega) (by omega))
      rw [(end_slX (seqC sc nc n k) (cmdD 0 0 false false)).1, (end_slX (seqC sc nc n k) (cmdD 0 0 false false)).2] at HCM
      have HB := Keep.mk builtM0
      clear d0 d8 g5 HSE X8 X7
      go_wp2_with (first
        | (with_reducible show wpList _ _ _ ({ dst := _, op := Op.build 29 _, type := _, pos := _, after := _, guard := _ } :: _) _ _
           refine build_g rfl 29 _ rfl _ ((congrArg (Tryz.prog.built 29) (by simp only [List.map_toArray, List.map_nil]; rfl)).trans HB.out) ?_
           simp only [Act.put, List.setIfInBounds_toArray, List.set_cons_zero, List.set_cons_succ]))
      refine HCM.out.mono ?_
      rintro e w8 ⟨rfl, h8, g8⟩
      have X10 : Keep (Has w8 cb (endS (seqC sc nc n k)).cs 83 ∧ w.grownBy w8 none) := ⟨h8, gr_new X9.out.2 g8 HCB.out⟩
      have HB2 := Keep.mk (bye_c cb (endS (seqC sc nc n k)) w8 (HK.out.1.kept X10.out.2 (by simp)) X10.out.1 HEO.out (by show (0 : Nat) < _; omega))
      rw [end_bye] at HB2
      clear h8 g8 X9 HCM HB
      go_wp2_with fail
      refine HB2.out.mono ?_
      rintro e w9 ⟨rfl, h9, g9⟩
      have X11 : Keep (Has w9 cb (endS (seqC sc nc n k)).cs 83 ∧ w.grownBy w9 none) := ⟨h9, gr_new X10.out.2 g9 HCB.out⟩
      have HPL : Keep (Calls Tryz.prog 13 #[pa cb 0] w9 fun e w' => e = .returned (.tuple #[.int .u64 0, iv 0, .bool false]) ∧ w9.grownBy w' none) := ⟨playing_t cb (endS (seqC sc nc n k)) w9 X11.out.1⟩
      clear h9 g9 X10 HB2
      go_wp2_with fail
      refine HPL.out.mono ?_
      rintro e w10 ⟨rfl, g10⟩
      have HZ := Keep.mk (X11.out.2.trans g10)
      clear g10
      go_wp2_with fail
      go_ret
      exact ⟨rfl, HZ.out⟩

end Go.Proofs.YtldnpebnpbahjaaGreatDoor.Pk.Sn
